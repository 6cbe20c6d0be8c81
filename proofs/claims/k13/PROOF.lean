import PyProof.Rows.All
import Wide.All
import OpenK.AllK
import Wide.FinOn
import Lean
import PyProof.EqAt
import PyProof.EqKinds
import PyProof.TupleCall
import PyProof.NeKinds
import PyProof.SetScanFacts
import PyProof.SetKind
import PyProof.DictKinds
import PyProof.Rows.SetFrom
import PyProof.CollectWalk
import PyProof.DictIter
import PyProof.Rows.SortShell
import PyProof.Rows.SortWalk
import PyProof.FactsAll.set
import PyProof.Rows.SumAny
import PyProof.ListNew
import PyProof.DictWalks
import PyProof.WalksEnum
import PyProof.EnumMake
import PyProof.Rows.EnumRows
import PyProof.WalkInts
import PyProof.ListRange
import PySem.Challenge.RW_cutpaper_k13_whole_the_best_and_its_pape
set_option Elab.async false
set_option linter.all false
set_option maxRecDepth 100000
/-! THE HAND LAYER, for ints, bools, texts, own classes, LISTS and tuples (index, slices, in, append, pop ..), calls, loops. Paste it whole ahead of your own text; what your proof does not reach may be deleted. -/
namespace L2
open PySem PySem.Spec PyProof.Rows
/-- a key: an int or a str -/
abbrev Key := Sum Int Str
def keyIs : Key → Value → Bool
  | .inl k, v => Value.isInt k v
  | .inr x, v => Value.isStrOf x v
def keyH (w : World) : Key → Int
  | .inl k => hashInt k
  | .inr x => hashStr w x
theorem keyIs_shape : ∀ {k : Key} {v : Value}, keyIs k v = true → (∃ i t, k = Sum.inl i ∧ v = Value.int i t) ∨ (∃ x t, k = Sum.inr x ∧ v = Value.str x t)
  | .inl i, v, h => by
    obtain ⟨t, e⟩ := Value.isInt_shape (k := i) (v := v) h
    exact .inl ⟨i, t, rfl, e⟩
  | .inr x, v, h => by
    obtain ⟨t, e⟩ := Value.isStrOf_shape (x := x) (v := v) h
    exact .inr ⟨x, t, rfl, e⟩
theorem keyIs_int (i : Int) (t : Tok) : keyIs (.inl i) (.int i t) = true := by simp [keyIs, Value.isInt]
theorem keyIs_str (x : Str) (t : Tok) : keyIs (.inr x) (.str x t) = true := by simp [keyIs, Value.isStrOf]
theorem key_ll (a b : Int) : decide ((Sum.inl a : Key) = Sum.inl b) = (a == b) := by
  by_cases e : a = b
  · subst e; simp
  · have h : ¬ (Sum.inl a : Key) = Sum.inl b := fun q => e (Sum.inl.inj q)
    rw [decide_eq_false h]
    exact (beq_eq_false_iff_ne.mpr e).symm
theorem key_rr (a b : Str) : decide ((Sum.inr a : Key) = Sum.inr b) = decide (a = b) := by
  by_cases e : a = b
  · subst e; simp
  · have h : ¬ (Sum.inr a : Key) = Sum.inr b := fun q => e (Sum.inr.inj q)
    rw [decide_eq_false h, decide_eq_false e]
theorem key_lr (a : Int) (b : Str) : decide ((Sum.inl a : Key) = Sum.inr b) = false := decide_eq_false (fun q => nomatch q)
theorem key_rl (a : Str) (b : Int) : decide ((Sum.inr a : Key) = Sum.inl b) = false := decide_eq_false (fun q => nomatch q)
def mixKind (prog : Program) (w : World) : PySem.KeyKind prog w Key where
  is := keyIs
  hash := keyH w
  inj := fun v a b ha hb => by
    rcases keyIs_shape ha with ⟨i, t, rfl, rfl⟩ | ⟨x, t, rfl, rfl⟩
    · rcases keyIs_shape hb with ⟨j, u, rfl, e⟩ | ⟨y, u, rfl, e⟩
      · injection e with e1 _; rw [e1]
      · exact nomatch e
    · rcases keyIs_shape hb with ⟨j, u, rfl, e⟩ | ⟨y, u, rfl, e⟩
      · exact nomatch e
      · injection e with e1 _; rw [e1]
  byValue := fun k v h => by
    rcases keyIs_shape h with ⟨i, t, rfl, rfl⟩ | ⟨x, t, rfl, rfl⟩ <;> rfl
  pyHash := fun hv h => by
    rcases keyIs_shape hv with ⟨i, t, rfl, rfl⟩ | ⟨x, t, rfl, rfl⟩
    · exact wpAny_pyHash_int h
    · exact wpAny_pyHash_str h
  eqBool := fun hu hv h => by
    rcases keyIs_shape hu with ⟨i, t, rfl, rfl⟩ | ⟨x, t, rfl, rfl⟩
    · rcases keyIs_shape hv with ⟨j, u, rfl, rfl⟩ | ⟨y, u, rfl, rfl⟩
      · rw [key_ll] at h; exact wpAny_eqBool_int h
      · rw [key_lr] at h; exact SeqAt.EqAt.int_str i t y u _ _ _ _ h
    · rcases keyIs_shape hv with ⟨j, u, rfl, rfl⟩ | ⟨y, u, rfl, rfl⟩
      · rw [key_rl] at h; exact SeqAt.EqAt.str_int x t j u _ _ _ _ h
      · rw [key_rr] at h; exact wpAny_eqBool_str h
  «strs» := fun k x t v h => by
    rcases keyIs_shape h with ⟨i, u, rfl, e⟩ | ⟨y, u, rfl, e⟩
    · exact nomatch e
    · injection e with e1 _
      subst e1
      cases v <;> rfl
theorem mixKind_int (prog : Program) (w : World) (i : Int) (t : Tok) : (mixKind prog w).is (.inl i) (.int i t) = true := keyIs_int i t
theorem mixKind_str (prog : Program) (w : World) (x : Str) (t : Tok) : (mixKind prog w).is (.inr x) (.str x t) = true := keyIs_str x t
end L2
namespace L2
open PySem PySem.Spec PyProof.Rows
/-- a value, without the heap -/
inductive V where
  | non | bl (b : Bool) | int (i : Int) | str (x : Str) | byt (b : Array UInt8) | flt (b : UInt64) | ref (a : Addr) | ty (n : String)
  deriving DecidableEq
def RelV : V → Value → Prop
  | .non, u => u = Value.none
  | .bl b, u => u = Value.bool b
  | .int i, u => ∃ t, u = Value.int i t
  | .str x, u => ∃ t, u = Value.str x t
  | .byt b, u => ∃ t, u = Value.bytes b t
  | .flt b, u => ∃ t, u = Value.float b t
  | .ref a, u => u = Value.ref a
  | .ty n, u => u = Value.type n
abbrev Vals : List V → List Value → Prop := Paired RelV
theorem Vals.length {xs : List V} {us : List Value} (r : Vals xs us) : xs.length = us.length := Paired.length r
theorem Vals.get : ∀ {xs : List V} {us : List Value} {i : Nat} {x : V}, Vals xs us → xs[i]? = some x → ∃ u, us[i]? = some u ∧ RelV x u
  | _, _, _, _, .nil, e => by simp at e
  | _, _, 0, _, .cons r _, e => by simp at e; subst e; exact ⟨_, rfl, r⟩
  | _, _, i + 1, x, .cons _ t, e => by
    obtain ⟨u, h1, h2⟩ := Vals.get (i := i) (x := x) t (by simpa using e)
    exact ⟨u, by simpa using h1, h2⟩
theorem Vals.set {x : V} {u : Value} (r : RelV x u) : ∀ {xs : List V} {us : List Value} (i : Nat), Vals xs us → Vals (xs.set i x) (us.set i u)
  | _, _, _, .nil => .nil
  | _, _, 0, .cons _ t => .cons r t
  | _, _, i + 1, .cons q t => .cons q (Vals.set r i t)
theorem Vals.append : ∀ {xs ys : List V} {us ws : List Value}, Vals xs us → Vals ys ws → Vals (xs ++ ys) (us ++ ws)
  | _, _, _, _, .nil, s => s
  | _, _, _, _, .cons r t, s => .cons r (Vals.append t s)
theorem Vals.take : ∀ {xs : List V} {us : List Value} (n : Nat), Vals xs us → Vals (xs.take n) (us.take n)
  | _, _, 0, _ => .nil
  | _, _, _ + 1, .nil => .nil
  | _, _, n + 1, .cons r t => .cons r (Vals.take n t)
theorem Vals.drop : ∀ {xs : List V} {us : List Value} (n : Nat), Vals xs us → Vals (xs.drop n) (us.drop n)
  | _, _, 0, r => r
  | _, _, _ + 1, .nil => .nil
  | _, _, n + 1, .cons _ t => Vals.drop n t
theorem Vals.none_of : ∀ {xs : List V} {us : List Value} {i : Nat}, Vals xs us → xs[i]? = none → us[i]? = none := fun {xs us i} r e => by
  have h1 := r.length
  have h2 : xs.length ≤ i := List.getElem?_eq_none_iff.mp e
  exact List.getElem?_eq_none_iff.mpr (by omega)
def RelO : Option V → Option Value → Prop
  | some v, some u => RelV v u
  | none, none => True
  | _, _ => False
def KV {κ : Type} : List (κ × V) → List (κ × Value) → Prop := Paired fun (p : κ × V) (q : κ × Value) => p.1 = q.1 ∧ RelV p.2 q.2
/-- a key of a dict (00_mix): an int or a text -/
def kV : Key → V
  | .inl i => .int i
  | .inr x => .str x
/-- what stands at a tracked address -/
inductive HO where
  /-- a list -/
  | lst (xs : List V)
  /-- a tuple (never changes) -/
  | tup (xs : List V)
  /-- a dict whose keys are ints and texts; one whose keys are tuples of ints and texts (the empty one is both) -/
  | dK (kvs : List (Key × V)) | dT (kvs : List (List Key × V))
  /-- a set of ints: its members, its size -/
  | set (S : Int → Bool) (n : Nat)
  /-- an instance of the class at C, its dict at dx, its attributes -/
  | ins (C dx : Addr) (fs : List (Str × V))
  /-- the dict of the instance at x -/
  | own (x : Addr)
  /-- the dict of an exception -/
  | xd (fs : List (Str × V))
  /-- a bound method, f of x -/
  | met (f x : Addr)
  /-- a range object lo, lo + 1, .. below hi -/
  | rng (lo hi : Int)
  /-- a thing that is known to the object (the script; a dict while a loop walks it): read, never written while it is so -/
  | frz (o : Obj) (u : HO)
  /-- a code object's table -/
  | tbl (ps : Array Value)
  /-- any other thing, by what is true of its one object (a def of one's own: SetO a S n := HO.ext fun h => ..) -/
  | ext (φ : Heap → Prop)
abbrev Hp := Addr → Option HO
def upd (H : Hp) (a : Addr) (o : HO) : Hp := fun b => if b = a then some o else H b
theorem upd_same {H : Hp} {a : Addr} {o : HO} : upd H a o a = some o := by unfold upd; rw [if_pos rfl]
theorem upd_ne {H : Hp} {a b : Addr} {o : HO} (h : b ≠ a) : upd H a o b = H b := by unfold upd; rw [if_neg h]
theorem upd_upd {H : Hp} {a : Addr} {o u : HO} : upd (upd H a o) a u = upd H a u := by
  funext b; unfold upd; split <;> rfl
/-- two objects of different content stand apart -/
theorem ne_of {H : Hp} {a b : Addr} {o u : HO} (h : H a = some o) (h' : H b = some u) (d : o ≠ u) : a ≠ b := by
  intro e; subst e; rw [h] at h'; exact d (Option.some.inj h')
theorem ne_of_none {H : Hp} {a b : Addr} {o : HO} (h : H a = some o) (h' : H b = none) : a ≠ b := by
  intro e; subst e; rw [h] at h'; cases h'
section
variable (P : Program) (w : World)
def ObjOk (H : Hp) (h : Heap) (a : Addr) : HO → Prop
  | .lst xs => xs.length ≤ sizeLine ∧ ∃ (its : List Value) (n : Nat), Vals xs its ∧ h.get? a = some { cls := .type "list", data := .seq its.toArray n }
  | .tup xs => xs.length ≤ sizeLine ∧ ∃ its : List Value, Vals xs its ∧ IsTup h a its.toArray
  | .dK kvs => kvs.length ≤ sizeLine ∧ (a == sysModules) = false ∧ ∃ vs, KV kvs vs ∧ h.DictOf (mixKind P w) a vs
  | .dT kvs => kvs.length ≤ sizeLine ∧ (a == sysModules) = false ∧ ∃ xs : List (List Key × Addr × Value),
      Paired (fun (p : List Key × V) (q : List Key × Addr × Value) => p.1 = q.1 ∧ H q.2.1 = some (.tup (p.1.map kV)) ∧ RelV p.2 q.2.2) kvs xs ∧
      ∃ o es ep, h.get? a = some o ∧ o.ExactDict ∧ o.data = .dict es ep ∧ es.toList = xs.map (entryOfKey (tupleKind (mixKind P w))) ∧ (xs.map (·.1)).Nodup
  | .set S n => h.SetOf (intKind P w) a S n
  | .ins C dx fs => H dx = some (.own a) ∧ fs.length ≤ 1000 ∧ dx ≠ a ∧ h.get? a = some (PySem.W.instObj C dx) ∧
      ∃ mA, h.Ns1 dx mA ∧ (∀ f, RelO (fs.lookup f) (mA f)) ∧ PySem.Within mA (fs.map (·.1))
  | .own _ => ∃ o, h.get? a = some o
  | .xd fs => ∃ mA, h.Ns1 a mA ∧ ∀ f, RelO (fs.lookup f) (mA f)
  | .rng lo hi => ∃ t u v, h.get? a = some { cls := .type "range", data := .fields #[.int lo t, .int hi u, .int 1 v] }
  | .frz o u => h.get? a = some o ∧ ObjOk H h a u
  | .tbl ps => h.get? a = some { cls := .none, data := .fields ps }
  | .met f x => h.get? a = some (PySem.W.methodObj (.ref f) (.ref x))
  | .ext φ => φ h ∧ (∃ o, h.get? a = some o) ∧ ∀ h1 h2 : Heap, φ h1 → (∀ o, h1.get? a = some o → h2.get? a = some o) → φ h2
/-- the abstract heap is held -/
def HOk (H : Hp) (h : Heap) : Prop := ∀ a o, H a = some o → ObjOk P w H h a o
end
section
variable {P : Program} {w : World} {H H' : Hp} {h h' : Heap} {a : Addr} {o : HO}
theorem ObjOk.lt (x : ObjOk P w H h a o) : a < h.objs.size := by
  cases o with
  | lst xs => obtain ⟨_, _, _, _, e⟩ := x; exact Heap.lt_size e
  | tup xs => obtain ⟨_, _, _, p⟩ := x; exact p.lt
  | dK kvs => obtain ⟨_, _, _, _, o, _, _, e, _⟩ := x; exact Heap.lt_size e
  | dT kvs => obtain ⟨_, _, _, _, o, _, _, e, _⟩ := x; exact Heap.lt_size e
  | set S n => obtain ⟨o, _, _, _, e, _⟩ := x; exact Heap.lt_size e
  | ins C dx fs => obtain ⟨_, _, _, e, _⟩ := x; exact Heap.lt_size e
  | own y => obtain ⟨_, e⟩ := x; exact Heap.lt_size e
  | xd fs => obtain ⟨_, ⟨_, _, _, e, _⟩, _⟩ := x; exact Heap.lt_size e
  | rng lo hi => obtain ⟨_, _, _, e⟩ := x; exact Heap.lt_size e
  | frz ob u => obtain ⟨e, _⟩ := x; exact Heap.lt_size e
  | tbl ps => exact Heap.lt_size (show h.get? a = some _ from x)
  | met f y => exact Heap.lt_size (show h.get? a = some _ from x)
  | ext φ => obtain ⟨_, ⟨_, e⟩, _⟩ := x; exact Heap.lt_size e
theorem Paired.mapP {α β : Type} {F G : α → β → Prop} : ∀ {l₁ : List α} {l₂ : List β}, Paired F l₁ l₂ → (∀ a b, F a b → G a b) → Paired G l₁ l₂
  | _, _, .nil, _ => .nil
  | _, _, .cons r t, f => .cons (f _ _ r) (Paired.mapP t f)
/-- what an object's description leans on: its own object, its own dict, the tuples -/
theorem ObjOk.stay (x : ObjOk P w H h a o) (k : ∀ b u, (b = a ∨ H b = some (.own a)) → h.get? b = some u → h'.get? b = some u)
    (ho : ∀ b, H b = some (.own a) → H' b = some (.own a)) (ht : ∀ b xs, H b = some (.tup xs) → H' b = some (.tup xs)) : ObjOk P w H' h' a o := by
  induction o with
  | lst xs => obtain ⟨z, its, n, r, e⟩ := x; exact ⟨z, its, n, r, k _ _ (.inl rfl) e⟩
  | tup xs => obtain ⟨z, its, r, ob, e, c⟩ := x; exact ⟨z, its, r, ob, k _ _ (.inl rfl) e, c⟩
  | dK kvs => obtain ⟨z, y, vs, r, ob, es, ep, e, c⟩ := x; exact ⟨z, y, vs, r, ob, es, ep, k _ _ (.inl rfl) e, c⟩
  | dT kvs =>
    obtain ⟨z, y, xs, r, ob, es, ep, e, c⟩ := x
    exact ⟨z, y, xs, Paired.mapP r fun p q z => ⟨z.1, ht _ _ z.2.1, z.2.2⟩, ob, es, ep, k _ _ (.inl rfl) e, c⟩
  | set S n => obtain ⟨ob, es, ep, t, e, c⟩ := x; exact ⟨ob, es, ep, t, k _ _ (.inl rfl) e, c⟩
  | ins C dx fs =>
    obtain ⟨d, z, ne, e, mA, ⟨od, es, ep, e2, c⟩, r⟩ := x
    exact ⟨ho _ d, z, ne, k _ _ (.inl rfl) e, mA, ⟨od, es, ep, k _ _ (.inr d) e2, c⟩, r⟩
  | own y => obtain ⟨ob, e⟩ := x; exact ⟨ob, k _ _ (.inl rfl) e⟩
  | xd fs => obtain ⟨mA, ⟨od, es, ep, e, c⟩, r⟩ := x; exact ⟨mA, ⟨od, es, ep, k _ _ (.inl rfl) e, c⟩, r⟩
  | rng lo hi => obtain ⟨t, u, v, e⟩ := x; exact ⟨t, u, v, k _ _ (.inl rfl) e⟩
  | frz ob u ih => obtain ⟨e, q⟩ := x; exact ⟨k _ _ (.inl rfl) e, ih q⟩
  | tbl ps =>
    have e : h.get? a = some { cls := .none, data := .fields ps } := x
    show h'.get? a = some { cls := .none, data := .fields ps }
    exact k a _ (.inl rfl) e
  | met f y =>
    have e : h.get? a = some (PySem.W.methodObj (.ref f) (.ref y)) := x
    show h'.get? a = some (PySem.W.methodObj (.ref f) (.ref y))
    exact k a _ (.inl rfl) e
  | ext φ => obtain ⟨p, ⟨o, e⟩, st⟩ := x; exact ⟨st _ _ p fun o q => k _ _ (.inl rfl) q, ⟨o, k _ _ (.inl rfl) e⟩, st⟩
theorem HOk.lt (x : HOk P w H h) (e : H a = some o) : a < h.objs.size := (x a o e).lt
theorem HOk.fresh (x : HOk P w H h) (e : h.objs.size ≤ a) : H a = none := by
  cases q : H a with
  | none => rfl
  | some u => exact absurd (Nat.lt_of_lt_of_le (x.lt q) e) (Nat.lt_irrefl _)
/-- every object of the heap is kept -/
theorem HOk.kept (x : HOk P w H h) (k : ∀ b u, h.get? b = some u → h'.get? b = some u) : HOk P w H h' := fun a o e =>
  (x a o e).stay (fun b u _ q => k b u q) (fun _ q => q) fun _ _ q => q
/-- a new object is laid and tracked -/
theorem HOk.laid (x : HOk P w H h) (k : ∀ b u, h.get? b = some u → h'.get? b = some u) (hp : h.objs.size ≤ a) (new : ObjOk P w (upd H a o) h' a o) : HOk P w (upd H a o) h' := fun b u e => by
  have hn := x.fresh hp
  by_cases hb : b = a
  · subst hb; rw [upd_same] at e; cases e; exact new
  · rw [upd_ne hb] at e
    exact (x b u e).stay (fun c v _ q => k c v q) (fun c q => by rw [upd_ne (ne_of_none q hn)]; exact q) fun c xs q => by rw [upd_ne (ne_of_none q hn)]; exact q
end
/-- what may be read as u: it is u, or a known u -/
def Rd (H : Hp) (a : Addr) (u : HO) : Prop := H a = some u ∨ ∃ o, H a = some (.frz o u)
theorem Rd.of {H : Hp} {a : Addr} {u : HO} (h : H a = some u) : Rd H a u := .inl h
theorem Rd.ok {P : Program} {w : World} {H : Hp} {h : Heap} {a : Addr} {u : HO} (r : Rd H a u) (x : HOk P w H h) : ObjOk P w H h a u := by
  rcases r with r | ⟨o, r⟩
  · exact x a u r
  · obtain ⟨_, q⟩ := x a _ r
    exact q
/-- what may be written -/
def Mut : Option HO → Prop
  | some (.lst _) => True
  | some (.dK _) => True
  | some (.dT _) => True
  | some (.set _ _) => True
  | some (.ins _ _ _) => True
  | some (.ext _) => True
  | _ => False
section
variable {P : Program} {w : World} {H : Hp} {h h' : Heap} {x e : Addr} {o' : HO}
/-- the object at e is changed: x itself, or the dict of the instance x -/
theorem HOk.write (ok : HOk P w H h) (mu : Mut (H x)) (he : e = x ∨ H e = some (.own x)) (k : ∀ b u, b ≠ e → h.get? b = some u → h'.get? b = some u) (heo : ∃ u, h'.get? e = some u)
    (new : ObjOk P w (upd H x o') h' x o') : HOk P w (upd H x o') h' := fun b u q => by
  have nown : ∀ c y, H c = some (.own y) → c ≠ x := fun c y r z => by subst z; rw [r] at mu; exact mu
  have ntup : ∀ c xs, H c = some (.tup xs) → c ≠ x := fun c xs r z => by subst z; rw [r] at mu; exact mu
  by_cases hb : b = x
  · subst hb; rw [upd_same] at q; cases q; exact new
  · rw [upd_ne hb] at q
    by_cases hbe : b = e
    · have q' : H b = some (.own x) := by
        rcases he with z | z
        · exact absurd (hbe.trans z) hb
        · rw [hbe]; exact z
      rw [q] at q'; cases q'
      obtain ⟨v, hv⟩ := heo
      exact ⟨v, by rw [hbe]; exact hv⟩
    · refine (ok b u q).stay (fun c v hc r => k c v ?_ r) (fun c r => by rw [upd_ne (nown c b r)]; exact r) fun c xs r => by rw [upd_ne (ntup c xs r)]; exact r
      rcases hc with rfl | hc
      · exact hbe
      · rintro rfl
        rcases he with z | z
        · exact nown c b hc z
        · rw [hc] at z; cases z; exact hb rfl
end
/-! ### kept unless tracked; of the frames at fs (the callers') the slots may change (an exception that passes writes there); of the records at ex (iterators) nothing is said -/
structure Un (fs ex : List Addr) (H H' : Hp) (h h' : Heap) : Prop where
  keep : ∀ b o, h.get? b = some o → H b = none → b ∉ fs → b ∉ ex → h'.get? b = some o
  slot : ∀ b o, h.get? b = some o → H b = none → b ∈ fs → b ∉ ex → ∃ sl, h'.get? b = some { o with slots := sl }
  free : ∀ b o, h.get? b = some o → H b = none → b ∉ ex → H' b = none
  there : ∀ b o, h.get? b = some o → b ∉ ex → ∃ o', h'.get? b = some o'
  tups : ∀ b xs, H b = some (.tup xs) → H' b = some (.tup xs)
  frzs : ∀ b o u, H b = some (.frz o u) → H' b = some (.frz o u)
  tbls : ∀ b ps, H b = some (.tbl ps) → ∃ more, H' b = some (.tbl (ps ++ more))
section
variable {fs fs' ex ex' : List Addr} {H H1 H2 : Hp} {h h1 h2 h' : Heap} {a x e : Addr} {o : HO}
theorem Un.any (u : Un fs ex H H1 h h1) {b : Addr} {ob : Obj} (q : h.get? b = some ob) (n : H b = none) (hx : b ∉ ex) : ∃ sl, h1.get? b = some { ob with slots := sl } := by
  by_cases hb : b ∈ fs
  · exact u.slot b ob q n hb hx
  · exact ⟨ob.slots, u.keep b ob q n hb hx⟩
theorem Un.trans (a : Un fs ex H H1 h h1) (b : Un fs ex H1 H2 h1 h2) : Un fs ex H H2 h h2 where
  keep := fun c ob q n hc hx => b.keep c ob (a.keep c ob q n hc hx) (a.free c ob q n hx) hc hx
  slot := fun c ob q n hc hx => by
    obtain ⟨sl, e1⟩ := a.slot c ob q n hc hx
    obtain ⟨sl', e2⟩ := b.slot c _ e1 (a.free c ob q n hx) hc hx
    exact ⟨sl', e2⟩
  free := fun c ob q n hx => by
    obtain ⟨o', e1⟩ := a.there c ob q hx
    exact b.free c o' e1 (a.free c ob q n hx) hx
  there := fun c ob q hx => by
    obtain ⟨o', e1⟩ := a.there c ob q hx
    exact b.there c o' e1 hx
  tups := fun c xs q => b.tups c xs (a.tups c xs q)
  frzs := fun c ob xs q => b.frzs c ob xs (a.frzs c ob xs q)
  tbls := fun c ps q => by
    obtain ⟨m1, e1⟩ := a.tbls c ps q
    obtain ⟨m2, e2⟩ := b.tbls c _ e1
    exact ⟨m1 ++ m2, by rw [e2, Array.append_assoc]⟩
theorem Un.kept (k : ∀ b u, h.get? b = some u → h'.get? b = some u) : Un fs ex H H h h' :=
  ⟨fun b ob q _ _ _ => k b ob q, fun b ob q _ _ _ => ⟨ob.slots, k b ob q⟩, fun _ _ _ n _ => n, fun b ob q _ => ⟨ob, k b ob q⟩, fun _ _ q => q, fun _ _ _ q => q, fun _ ps q => ⟨#[], by rw [q]; simp⟩⟩
theorem Un.refl : Un fs ex H H h h := Un.kept fun _ _ q => q
theorem Un.laid (k : ∀ b u, h.get? b = some u → h'.get? b = some u) (hp : h.objs.size ≤ a) (hn : H a = none) : Un fs ex H (upd H a o) h h' where
  keep := fun b u q _ _ _ => k b u q
  slot := fun b u q _ _ _ => ⟨u.slots, k b u q⟩
  free := fun b u q n _ => by rw [upd_ne (Nat.ne_of_lt (Nat.lt_of_lt_of_le (Heap.lt_size q) hp))]; exact n
  there := fun b u q _ => ⟨u, k b u q⟩
  tups := fun b xs q => by rw [upd_ne (ne_of_none q hn)]; exact q
  frzs := fun b u xs q => by rw [upd_ne (ne_of_none q hn)]; exact q
  tbls := fun b ps q => ⟨#[], by rw [upd_ne (ne_of_none q hn), q]; simp⟩
theorem Un.write (mu : Mut (H x)) (he : e = x ∨ H e = some (.own x)) (k : ∀ b u, b ≠ e → h.get? b = some u → h'.get? b = some u) (heo : ∃ u, h'.get? e = some u) : Un fs ex H (upd H x o) h h' := by
  have hx : ∀ b, H b = none → b ≠ x := fun b n z => by subst z; rw [n] at mu; exact mu
  have hb : ∀ b, H b = none → b ≠ e := fun b n z => by
    subst z
    rcases he with r | r
    · exact hx b n r
    · rw [n] at r; cases r
  have hm : ∀ b u, H b = some u → ¬ Mut (some u) → b ≠ x := fun b u q nm z => by subst z; rw [q] at mu; exact nm mu
  refine ⟨fun b u q n _ _ => k b u (hb b n) q, fun b u q n _ _ => ⟨u.slots, k b u (hb b n) q⟩, fun b u q n _ => by rw [upd_ne (hx b n)]; exact n, fun b u q _ => ?_,
    fun b xs q => by rw [upd_ne (hm b _ q fun z => z)]; exact q, fun b u xs q => by rw [upd_ne (hm b _ q fun z => z)]; exact q, fun b ps q => ⟨#[], by rw [upd_ne (hm b _ q fun z => z), q]; simp⟩⟩
  by_cases hbe : b = e
  · subst hbe; exact heo
  · exact ⟨u, k b u hbe q⟩
theorem Un.mono (u : Un fs ex H H1 h h1) (hs : ∀ b ∈ fs, b ∈ fs') (hx : ∀ b ∈ ex, b ∈ ex') : Un fs' ex' H H1 h h1 :=
  ⟨fun b ob q n hb he => u.keep b ob q n (fun z => hb (hs b z)) fun z => he (hx b z), fun _ _ q n _ he => u.any q n fun z => he (hx _ z), fun b ob q n he => u.free b ob q n fun z => he (hx b z), fun b ob q he => u.there b ob q fun z => he (hx b z), u.tups, u.frzs, u.tbls⟩
end
/-! ### the heap without what is tracked -/
def trk (h : Heap) (H : Hp) : List Addr := (List.range h.objs.size).filter fun a => (H a).isSome
def hidT (h : Heap) (H : Hp) : Heap := PySem.W.hideAll h (trk h H)
theorem hidT_size (h : Heap) (H : Hp) : (hidT h H).objs.size = h.objs.size := PySem.W.hideAll_size _ _
theorem hidT_get {h : Heap} {H : Hp} {b : Addr} {o : Obj} (e : h.get? b = some o) (n : H b = none) : (hidT h H).get? b = some o :=
  PySem.W.hideAll_get _ e fun hm => by
    have q : (H b).isSome = true := (List.mem_filter.mp hm).2
    rw [n] at q; simp at q
theorem of_hidT {h : Heap} {H : Hp} {b : Addr} {o : Obj} (e : (hidT h H).get? b = some o) : h.get? b = some o ∧ H b = none := by
  have e' : h.get? b = some o := PySem.W.of_hideAll (trk h H) e
  refine ⟨e', ?_⟩
  cases q : H b with
  | none => rfl
  | some x =>
    have hm : b ∈ trk h H := List.mem_filter.mpr ⟨List.mem_range.mpr (Heap.lt_size e'), by simp [q]⟩
    have z : (hidT h H).get? b = none := PySem.W.hideAll_none (trk h H) hm
    rw [z] at e; cases e
/-! ### OpenK's ledger, filled with every new object but one -/
def allNews (g h : Heap) (L : Addr) : List (Addr × Obj) := (List.range h.objs.size).filterMap fun a => if a = L ∨ (g.get? a).isSome = true then none else (h.get? a).map fun o => (a, o)
def rest (g h : Heap) (L d : Addr) : List (Addr × Obj) := (allNews g h L).filter fun p => decide (p.1 ≠ d)
end L2
namespace L2
open PySem PySem.Spec PyProof.Rows
/-- the module's facts, over the base: the heap at the law's entry without what is tracked there -/
structure Mod (K : PySem.W.Frag) (mg : Str → Option Value) (base : Heap) : Prop where
  kin : K.In base
  glob : base.Ns mainGlobals mg
  blt : ∃ mb, base.Ns builtinsNs mb ∧ ∀ x : Str, x ≠ "__name__" → mb x = bootBuiltins x
  nolimit : base.NoLimit
/-- the context: a def's body (or a comprehension's block) running. base: fixed through the whole law; s₀, H₀: the entry; outer: the frames whose slots others may change (a def's callers); stack: all frames that run;
   ex: iterators that were made ahead of the entry and are walked here (a comprehension's); fn: the names whose cells were made at the entry (a def: all; a comprehension's block: its own); calm: not within an except suite; pn: pins that every state bears; xe: what is wanted of an exception that leaves the code -/
structure Cx where
  prog : Program
  w : World
  K : PySem.W.Frag
  mg : Str → Option Value
  base : Heap
  A : Around
  N : List Str
  s₀ : Shared
  H₀ : Hp
  env : Env
  outer : List Env
  stack : List Env
  ex : List Addr
  fn : Str → Bool
  calm : Bool
  pn : List (Addr × Obj)
  xe : Value → Shared → Prop
/-- the callers' frames -/
def frs (l : List Env) : List Addr := l.filterMap (·.frame)
abbrev Cx.fs (X : Cx) : List Addr := frs X.outer
def Vis (sc : Scope) (x : Str) : Prop := sc.names.lookup x = some .local ∨ sc.names.lookup x = some .cell ∨ sc.names.lookup x = some .free
def Loc (sc : Scope) (x : Str) : Prop := sc.names.lookup x = some .local ∨ sc.names.lookup x = some .cell
def Look (env : Env) (h : Heap) (m : Str → Option Value) (x : Str) (u : Value) : Prop :=
  (env.kindOf x = some .local ∧ m x = some u) ∨ ((env.kindOf x = some .cell ∨ env.kindOf x = some .free) ∧ ∃ c, env.cells.lookup x = some c ∧ h.IsCell c (some u))
structure Cx.Ok (X : Cx) : Prop where
  mod : Mod X.K X.mg X.base
  kind : X.env.scope.kind = .function
  glob : X.env.globals = mainGlobals
  blt : X.env.builtins = builtinsNs
  above : X.s₀.heap.objs.size ≤ X.env.locals
  inj : ∀ x y c, X.env.cells.lookup x = some c → X.env.cells.lookup y = some c → x = y
  has : ∀ x, (X.env.kindOf x = some .cell ∨ X.env.kindOf x = some .free) → ∃ c, X.env.cells.lookup x = some c
  cab : ∀ x c, X.fn x = true → X.env.cells.lookup x = some c → X.s₀.heap.objs.size ≤ c
  hd : X.calm = true → X.A.handled = none
  frames : X.A.frames = some X.stack
  stk : X.stack = X.outer ∨ (X.stack = X.env :: X.outer ∧ X.env.frame = some X.env.locals)
  exf : ∀ b ∈ X.ex, b ≠ X.env.locals ∧ ∀ x c, X.env.cells.lookup x = some c → c ≠ b
  bs : ∀ b o, X.base.get? b = some o → X.s₀.heap.get? b = some o ∧ X.H₀ b = none
  bsz : X.base.objs.size ≤ X.s₀.heap.objs.size
  noex : ∀ b o, X.base.get? b = some o → b ∉ X.ex
  exfs : ∀ b ∈ X.ex, b ∉ X.fs
  funs : X.s₀.heap.FunFrames X.base X.outer
  frf : ∀ b ∈ X.fs, X.H₀ b = none
structure Inv (X : Cx) (pins : List (Addr × Obj)) (σ : List (Option V)) (H : Hp) (s : Shared) : Prop where
  ok : X.Ok
  os : s.os = X.s₀.os
  bare : AllBare s.gens
  base : Un X.fs X.ex X.H₀ H X.s₀.heap s.heap
  loc : ∃ m, s.heap.Ns X.env.locals m ∧ ∀ (i : Nat) (x : Str) (v : V), X.N[i]? = some x → σ[i]? = some (some v) → Vis X.env.scope x → ∃ u, RelV v u ∧ Look X.env s.heap m x u
  cell : ∀ x c, X.env.cells.lookup x = some c → ∃ v, s.heap.IsCell c v
  free : H X.env.locals = none
  freeC : ∀ x c, X.env.cells.lookup x = some c → H c = none
  pin : ∀ p ∈ X.pn ++ pins, s.heap.get? p.1 = some p.2 ∧ H p.1 = none ∧ p.1 ≠ X.env.locals ∧ p.1 ∉ X.fs ∧ ∀ v, p.2.data ≠ .cell v
  hok : HOk X.prog X.w H s.heap
  len : σ.length = X.N.length
section
variable {X : Cx} {pins : List (Addr × Obj)} {σ : List (Option V)} {H H' : Hp} {s : Shared} {h' : Heap}
theorem Cx.Ok.nofr (ok : X.Ok) {b : Addr} {o : Obj} (e : X.base.get? b = some o) : b ∉ X.fs := fun hb => by
  have := (ok.funs.mem hb).1
  rw [e] at this; cases this
theorem Inv.bs (I : Inv X pins σ H s) : ∀ b o, X.base.get? b = some o → s.heap.get? b = some o ∧ H b = none := fun b o e =>
  ⟨I.base.keep b o (I.ok.bs b o e).1 (I.ok.bs b o e).2 (I.ok.nofr e) (I.ok.noex b o e), I.base.free b o (I.ok.bs b o e).1 (I.ok.bs b o e).2 (I.ok.noex b o e)⟩
theorem Inv.bk (I : Inv X pins σ H s) : ∀ b o, X.base.get? b = some o → s.heap.get? b = some o := fun b o e => (I.bs b o e).1
theorem Inv.mod (I : Inv X pins σ H s) : Mod X.K X.mg X.base := I.ok.mod
theorem Inv.kIn (I : Inv X pins σ H s) : X.K.In s.heap := I.ok.mod.kin.keeps I.bk
theorem Inv.nolimit (I : Inv X pins σ H s) : s.heap.NoLimit := I.ok.mod.nolimit.keeps I.bk
theorem Inv.lt (I : Inv X pins σ H s) : X.env.locals < s.heap.objs.size := let ⟨_, hn, _⟩ := I.loc; hn.lt
theorem Inv.sz (I : Inv X pins σ H s) : X.s₀.heap.objs.size ≤ s.heap.objs.size := Nat.le_trans I.ok.above (Nat.le_of_lt I.lt)
theorem Inv.nofs (I : Inv X pins σ H s) {a : Addr} (h : s.heap.objs.size ≤ a) : a ∉ X.fs := fun hb => by
  obtain ⟨_, o, ho, _⟩ := I.ok.funs.mem hb
  exact absurd (Nat.lt_of_lt_of_le (Heap.lt_size ho) (Nat.le_trans I.sz h)) (Nat.lt_irrefl _)
theorem Inv.cne (I : Inv X pins σ H s) : ∀ x c, X.env.cells.lookup x = some c → c ≠ X.env.locals := fun x c e z => by
  obtain ⟨v, o, ho, hd⟩ := I.cell x c e
  obtain ⟨m, ⟨o', es, ep, ho', hd', _⟩, _⟩ := I.loc
  rw [z, ho'] at ho; cases ho; rw [hd'] at hd; cases hd
theorem Inv.funs (I : Inv X pins σ H s) : s.heap.FunFrames X.base X.outer := by
  have all : ∀ (l : List Env), (∀ b ∈ frs l, b ∈ X.fs) → X.s₀.heap.FunFrames X.base l → s.heap.FunFrames X.base l := by
    intro l
    induction l with
    | nil => intro _ _; trivial
    | cons env r ih =>
      intro hs hl
      obtain ⟨hk, ⟨L, o, hf, hn, ho, hd⟩, hr⟩ := hl
      have hL : L ∈ X.fs := hs L (by unfold frs; rw [List.filterMap_cons, hf]; exact List.mem_cons_self)
      obtain ⟨sl, e⟩ := I.base.slot L o ho (I.ok.frf L hL) hL fun z => I.ok.exfs L z hL
      exact ⟨hk, ⟨L, _, hf, hn, e, hd⟩, ih (fun b hb => hs b (by unfold frs; rw [List.filterMap_cons, hf]; exact List.mem_cons_of_mem _ hb)) hr⟩
  exact all X.outer (fun _ hb => hb) I.ok.funs
/-- the frames that run, for a call -/
theorem Inv.stack (I : Inv X pins σ H s) : s.heap.FunFrames X.base X.stack := by
  rcases I.ok.stk with e | ⟨e, hf⟩
  · rw [e]; exact I.funs
  · rw [e]
    obtain ⟨m, hn, _⟩ := I.loc
    refine .cons (by rw [I.ok.kind]; decide) hf hn ?_ I.funs
    exact Heap.get?_none_of_le (Nat.le_trans I.ok.bsz I.ok.above)
theorem Inv.stkSub (I : Inv X pins σ H s) : ∀ b ∈ frs X.stack, b ∈ X.env.locals :: X.fs := fun b hb => by
  rcases I.ok.stk with e | ⟨e, hf⟩
  · rw [e] at hb; exact List.mem_cons_of_mem _ hb
  · rw [e] at hb
    unfold frs at hb
    rw [List.filterMap_cons, hf] at hb
    exact hb
theorem Inv.stkFree (I : Inv X pins σ H s) : ∀ b ∈ frs X.stack, H b = none := fun b hb => by
  rcases List.mem_cons.mp (I.stkSub b hb) with e | hb
  · rw [e]; exact I.free
  · obtain ⟨_, o, ho, _⟩ := I.ok.funs.mem hb
    exact I.base.free b o ho (I.ok.frf b hb) fun z => I.ok.exfs b z hb
/-- THE STEP: the untracked objects but the frame and the records at ch are kept (the callers' frames up to slots), the frame's map is kept, the new abstract heap is held -/
theorem Inv.step {g' : Array GenState} {t' : Nat} {d' : Drawn} {ch : List Addr} (I : Inv X pins σ H s)
    (hch : ∀ b ∈ ch, (b ∈ X.ex ∨ X.s₀.heap.objs.size ≤ b) ∧ b ≠ X.env.locals ∧ (∀ x c, X.env.cells.lookup x = some c → c ≠ b) ∧ ∀ p ∈ X.pn ++ pins, p.1 ≠ b)
    (keep : ∀ b o, b ≠ X.env.locals → b ∉ X.fs → b ∉ ch → s.heap.get? b = some o → H b = none → h'.get? b = some o)
    (slot : ∀ b o, b ≠ X.env.locals → b ∈ X.fs → b ∉ ch → s.heap.get? b = some o → H b = none → ∃ sl, h'.get? b = some { o with slots := sl }) (free : ∀ b o, b ∉ ch → s.heap.get? b = some o → H b = none → H' b = none)
    (there : ∀ b o, b ∉ ch → s.heap.get? b = some o → ∃ o', h'.get? b = some o')
    (tups : ∀ b xs, H b = some (.tup xs) → H' b = some (.tup xs)) (frzs : ∀ b o u, H b = some (.frz o u) → H' b = some (.frz o u)) (tbls : ∀ b ps, H b = some (.tbl ps) → ∃ more, H' b = some (.tbl (ps ++ more)))
    (ns : ∀ m, s.heap.Ns X.env.locals m → h'.Ns X.env.locals m) (hok : HOk X.prog X.w H' h') (hg : AllBare g') :
    Inv X pins σ H' { s with heap := h', gens := g', drawn := d', toks := t' } := by
  have neL : ∀ b o, X.s₀.heap.get? b = some o → b ≠ X.env.locals := fun b o e => Nat.ne_of_lt (Nat.lt_of_lt_of_le (Heap.lt_size e) I.ok.above)
  have neC : ∀ b o, X.s₀.heap.get? b = some o → b ∉ X.ex → b ∉ ch := fun b o e hx hb => by
    rcases (hch b hb).1 with z | z
    · exact hx z
    · exact absurd (Nat.lt_of_lt_of_le (Heap.lt_size e) z) (Nat.lt_irrefl _)
  have cellK : ∀ x c, X.env.cells.lookup x = some c → ∀ v, s.heap.IsCell c v → h'.IsCell c v := fun x c e v ⟨o, ho, hd⟩ => by
    have nch : c ∉ ch := fun z => (hch c z).2.2.1 x c e rfl
    by_cases hc : c ∈ X.fs
    · obtain ⟨sl, q⟩ := slot c o (I.cne x c e) hc nch ho (I.freeC x c e)
      exact ⟨_, q, hd⟩
    · exact ⟨o, keep c o (I.cne x c e) hc nch ho (I.freeC x c e), hd⟩
  refine ⟨I.ok, I.os, hg, ⟨fun b o e n hb hx => ?_, fun b o e n hb hx => ?_, fun b o e n hx => ?_, fun b o e hx => ?_, fun b xs e => tups b xs (I.base.tups b xs e), fun b o xs e => frzs b o xs (I.base.frzs b o xs e), fun b ps e => ?_⟩, ?_, fun x c e => ?_, ?_, fun x c e => ?_, fun p hp => ?_, hok, I.len⟩
  · exact keep b o (neL b o e) hb (neC b o e hx) (I.base.keep b o e n hb hx) (I.base.free b o e n hx)
  · obtain ⟨sl, e1⟩ := I.base.slot b o e n hb hx
    obtain ⟨sl', e2⟩ := slot b _ (neL b o e) hb (neC b o e hx) e1 (I.base.free b o e n hx)
    exact ⟨sl', e2⟩
  · obtain ⟨o', e1⟩ := I.base.there b o e hx
    exact free b o' (neC b o e hx) e1 (I.base.free b o e n hx)
  · obtain ⟨o', e1⟩ := I.base.there b o e hx
    exact there b o' (neC b o e hx) e1
  · obtain ⟨m1, e1⟩ := I.base.tbls b ps e
    obtain ⟨m2, e2⟩ := tbls b _ e1
    exact ⟨m1 ++ m2, by rw [e2, Array.append_assoc]⟩
  · obtain ⟨m, hn, hl⟩ := I.loc
    refine ⟨m, ns m hn, fun i x v e1 e2 e3 => ?_⟩
    obtain ⟨u, r, l⟩ := hl i x v e1 e2 e3
    refine ⟨u, r, ?_⟩
    rcases l with l | ⟨k, c, e, z⟩
    · exact .inl l
    · exact .inr ⟨k, c, e, cellK x c e _ z⟩
  · obtain ⟨v, z⟩ := I.cell x c e
    exact ⟨v, cellK x c e v z⟩
  · obtain ⟨m, ⟨o, _, _, ho, _⟩, _⟩ := I.loc
    exact free _ o (fun z => (hch _ z).2.1 rfl) ho I.free
  · obtain ⟨v, o, ho, hd⟩ := I.cell x c e
    exact free c o (fun z => (hch c z).2.2.1 x c e rfl) ho (I.freeC x c e)
  · obtain ⟨e, n, ne, nf, d⟩ := I.pin p hp
    have nch : p.1 ∉ ch := fun z => (hch p.1 z).2.2.2 p hp rfl
    exact ⟨keep p.1 p.2 ne nf nch e n, free p.1 p.2 nch e n, ne, nf, d⟩
/-- .. where the frame's own object is kept too -/
theorem Inv.un {t' : Nat} (I : Inv X pins σ H s) (u : Un X.fs [] H H' s.heap h') (hok : HOk X.prog X.w H' h') : Inv X pins σ H' { s with heap := h', toks := t' } := by
  obtain ⟨m, ⟨o, es, ep, ho, r⟩, _⟩ := id I.loc
  obtain ⟨sl, hL⟩ := u.any ho I.free (by simp)
  exact I.step (g' := s.gens) (d' := s.drawn) (ch := []) (fun _ z => nomatch z) (fun b o _ hb _ e n => u.keep b o e n hb (by simp)) (fun b o _ hb _ e n => u.slot b o e n hb (by simp)) (fun b o _ e n => u.free b o e n (by simp)) (fun b o _ e => u.there b o e (by simp)) u.tups u.frzs u.tbls (fun m' hm => by
    obtain ⟨o', es', ep', ho', r'⟩ := hm
    rw [ho] at ho'; cases ho'
    exact ⟨_, es', ep', hL, r'⟩) hok I.bare
/-- behind a call (or a comprehension's block): the slots of this frame may have changed too, the records at ch may have turned -/
theorem Inv.call {g' : Array GenState} {t' : Nat} {d' : Drawn} {ch : List Addr} (I : Inv X pins σ H s) (u : Un (frs X.stack) ch H H' s.heap h') (hok : HOk X.prog X.w H' h') (hg : AllBare g')
    (hch : ∀ b ∈ ch, (b ∈ X.ex ∨ X.s₀.heap.objs.size ≤ b) ∧ b ≠ X.env.locals ∧ (∀ x c, X.env.cells.lookup x = some c → c ≠ b) ∧ ∀ p ∈ X.pn ++ pins, p.1 ≠ b) :
    Inv X pins σ H' { s with heap := h', gens := g', drawn := d', toks := t' } := by
  obtain ⟨m, ⟨o, es, ep, ho, r⟩, _⟩ := id I.loc
  obtain ⟨sl, hL⟩ := u.any ho I.free fun z => (hch _ z).2.1 rfl
  exact I.step (ch := ch) hch (fun b o hL hb hc e n => u.keep b o e n (fun z => (List.mem_cons.mp (I.stkSub b z)).elim hL hb) hc) (fun b o _ _ hc e n => u.any e n hc) (fun b o hc e n => u.free b o e n hc) (fun b o hc e => u.there b o e hc) u.tups u.frzs u.tbls (fun m' hm => by
    obtain ⟨o', es', ep', ho', r'⟩ := hm
    rw [ho] at ho'; cases ho'
    exact ⟨_, es', ep', hL, r'⟩) hok hg
/-- an untracked record of ours (an iterator) has turned -/
theorem Inv.turned {t' : Nat} {it : Addr} (I : Inv X pins σ H s) (k : ∀ b o, b ≠ it → s.heap.get? b = some o → h'.get? b = some o) (hn : H it = none) (hL : it ≠ X.env.locals)
    (h1 : it ∈ X.ex ∨ X.s₀.heap.objs.size ≤ it) (h2 : ∀ x c, X.env.cells.lookup x = some c → c ≠ it) (h3 : ∀ p ∈ X.pn ++ pins, p.1 ≠ it) : Inv X pins σ H { s with heap := h', toks := t' } := by
  have nit : ∀ b u, H b = some u → b ≠ it := fun b u e z => by rw [z, hn] at e; cases e
  refine I.step (g' := s.gens) (d' := s.drawn) (ch := [it]) (fun b hb => ?_) (fun b o _ _ hc e _ => k b o (fun z => hc (by simp [z])) e) (fun b o _ _ hc e _ => ⟨o.slots, k b o (fun z => hc (by simp [z])) e⟩) (fun _ _ _ _ n => n)
    (fun b o hc e => ⟨o, k b o (fun z => hc (by simp [z])) e⟩) (fun _ _ e => e) (fun _ _ _ e => e) (fun b ps e => ⟨#[], by rw [e]; simp⟩) (fun m hm => ?_) (fun b u e => ?_) I.bare
  · have e : b = it := by simpa using hb
    subst e
    exact ⟨h1, hL, h2, h3⟩
  · obtain ⟨o, es, ep, ho, r⟩ := hm
    exact ⟨o, es, ep, k _ o (Ne.symm hL) ho, r⟩
  · refine (I.hok b u e).stay (fun c v hc q => k c v ?_ q) (fun _ q => q) fun _ _ q => q
    rcases hc with z | z
    · rw [z]; exact nit b u e
    · exact nit c _ z
theorem Inv.tok (I : Inv X pins σ H s) (t : Nat) : Inv X pins σ H { s with toks := t } := I.un (h' := s.heap) (t' := t) Un.refl I.hok
/-- all objects kept -/
theorem Inv.kept {t' : Nat} (I : Inv X pins σ H s) (k : ∀ b u, s.heap.get? b = some u → h'.get? b = some u) : Inv X pins σ H { s with heap := h', toks := t' } := I.un (Un.kept k) (I.hok.kept k)
/-- a new object laid and tracked -/
theorem Inv.laid {a : Addr} {o : HO} {t' : Nat} (I : Inv X pins σ H s) (k : ∀ b u, s.heap.get? b = some u → h'.get? b = some u) (hp : s.heap.objs.size ≤ a) (new : ObjOk X.prog X.w (upd H a o) h' a o) :
    Inv X pins σ (upd H a o) { s with heap := h', toks := t' } := I.un (Un.laid k hp (I.hok.fresh hp)) (I.hok.laid k hp new)
/-- an object written -/
theorem Inv.write {x e : Addr} {o : HO} {t' : Nat} (I : Inv X pins σ H s) (mu : Mut (H x)) (he : e = x ∨ H e = some (.own x)) (k : ∀ b u, b ≠ e → s.heap.get? b = some u → h'.get? b = some u) (heo : ∃ u, h'.get? e = some u)
    (new : ObjOk X.prog X.w (upd H x o) h' x o) : Inv X pins σ (upd H x o) { s with heap := h', toks := t' } := I.un (Un.write mu he k heo) (I.hok.write mu he k heo new)
theorem Inv.pins_of {pins' : List (Addr × Obj)} (I : Inv X pins σ H s) (h : ∀ p ∈ pins', s.heap.get? p.1 = some p.2 ∧ H p.1 = none ∧ p.1 ≠ X.env.locals ∧ p.1 ∉ X.fs ∧ ∀ v, p.2.data ≠ .cell v) : Inv X pins' σ H s :=
  ⟨I.ok, I.os, I.bare, I.base, I.loc, I.cell, I.free, I.freeC, fun p hp => (List.mem_append.mp hp).elim (fun z => I.pin p (List.mem_append_left _ z)) (h p), I.hok, I.len⟩
theorem nodup_ix {N : List Str} (hN : N.Nodup) {i j : Nat} {x : Str} (a : N[i]? = some x) (b : N[j]? = some x) : i = j := by
  obtain ⟨h1, e1⟩ := List.getElem?_eq_some_iff.mp a
  obtain ⟨h2, e2⟩ := List.getElem?_eq_some_iff.mp b
  exact (List.getElem_inj hN).mp (e1.trans e2.symm)
/-- a name is stored; what changed -/
theorem store_ok2 {M : Model} {A : Around} {E : Value → Shared → Prop} {i : Nat} {x : Str} {v : V} {u : Value} {Q : Unit → Shared → Prop} (I : Inv X pins σ H s) (hN : X.N.Nodup) (hi : X.N[i]? = some x) (hx : Loc X.env.scope x) (r : RelV v u)
    (h : ∀ s', Inv X pins (σ.set i (some v)) H s' → (∃ a, Heap.SameBut a s.heap s'.heap ∧ (a = X.env.locals ∨ X.env.cells.lookup x = some a)) → Q () s') (hf : X.fn x = true ∨ X.env.scope.names.lookup x = some .local := by first | exact .inl rfl | exact .inr rfl | assumption) : wpAny M A (storeName X.env x u) Q E s := by
  obtain ⟨m, hn, hl⟩ := id I.loc
  have hcls : (X.env.scope.kind == .class || (X.env.scope.kind == .module && X.env.locals != X.env.globals)) = false := by rw [I.ok.kind]; rfl
  have hiσ : i < σ.length := by rw [I.len]; exact (List.getElem?_eq_some_iff.mp hi).1
  have cne := I.cne
  have tracked : ∀ {a : Addr} {h' : Heap}, (∃ o, s.heap.get? a = some o ∧ H a = none) → Heap.SameBut a s.heap h' → HOk X.prog X.w H h' := fun {a h'} ha hs b ob e => by
    obtain ⟨_, _, hfree⟩ := ha
    refine (I.hok b ob e).stay (fun c w' hc q => (hs.2 c ?_).trans q) (fun _ q => q) fun _ _ q => q
    rintro rfl
    rcases hc with rfl | hc
    · rw [hfree] at e; cases e
    · rw [hfree] at hc; cases hc
  rcases hx with hk | hk
  · refine wpAny_storeName_local hk hn (fun h' hn' hs => ?_) hcls
    obtain ⟨oL, _, _, hoL, _⟩ := id hn
    refine h _ ⟨I.ok, I.os, I.bare, ⟨fun b o e n hb hx => ?_, fun b o e n hb hx => ?_, I.base.free, fun b o e hx => ?_, I.base.tups, I.base.frzs, I.base.tbls⟩, ⟨_, hn', fun j y v' e1 e2 e3 => ?_⟩, fun y c e => ?_, I.free, I.freeC, fun p hp => ?_, tracked ⟨oL, hoL, I.free⟩ hs, by simpa using I.len⟩ ⟨_, hs, .inl rfl⟩
    · exact (hs.2 b (Nat.ne_of_lt (Nat.lt_of_lt_of_le (Heap.lt_size e) I.ok.above))).trans (I.base.keep b o e n hb hx)
    · obtain ⟨sl, e1⟩ := I.base.slot b o e n hb hx
      exact ⟨sl, (hs.2 b (Nat.ne_of_lt (Nat.lt_of_lt_of_le (Heap.lt_size e) I.ok.above))).trans e1⟩
    · obtain ⟨o', e1⟩ := I.base.there b o e hx
      exact ⟨o', (hs.2 b (Nat.ne_of_lt (Nat.lt_of_lt_of_le (Heap.lt_size e) I.ok.above))).trans e1⟩
    · by_cases hj : j = i
      · subst hj
        rw [hi] at e1; cases e1
        rw [List.getElem?_set_self hiσ] at e2
        cases e2
        exact ⟨u, r, .inl ⟨hk, by simp⟩⟩
      · rw [List.getElem?_set_ne (Ne.symm hj)] at e2
        obtain ⟨u', r', q⟩ := hl j y v' e1 e2 e3
        refine ⟨u', r', ?_⟩
        rcases q with ⟨k, e⟩ | ⟨k, c, e, z⟩
        · refine .inl ⟨k, ?_⟩
          have : y ≠ x := fun e => hj (nodup_ix hN e1 (e ▸ hi))
          simp [this, e]
        · exact .inr ⟨k, c, e, z.sameBut hs (cne y c e)⟩
    · obtain ⟨w', z⟩ := I.cell y c e
      exact ⟨w', z.sameBut hs (cne y c e)⟩
    · obtain ⟨e, n, ne, nf, d⟩ := I.pin p hp
      exact ⟨(hs.2 p.1 ne).trans e, n, ne, nf, d⟩
  · have hfn : X.fn x = true := by
      rcases hf with z | z
      · exact z
      · rw [z] at hk; cases hk
    obtain ⟨c, hc⟩ := I.ok.has x (.inl hk)
    obtain ⟨w', z⟩ := I.cell x c hc
    refine wpAny_storeName_cell I.ok.kind hk hc z (fun h' hc' hs => ?_)
    obtain ⟨oc, hoc, hocd⟩ := id z
    refine h { s with heap := h' } ⟨I.ok, I.os, I.bare, ⟨fun b o e n hb hx => ?_, fun b o e n hb hx => ?_, I.base.free, fun b o e hx => ?_, I.base.tups, I.base.frzs, I.base.tbls⟩, ⟨m, hn.sameBut hs (Ne.symm (cne x c hc)), fun j y v' e1 e2 e3 => ?_⟩, fun y c' e => ?_, I.free, I.freeC, fun p hp => ?_, tracked ⟨oc, hoc, I.freeC x c hc⟩ hs, by simpa using I.len⟩ ⟨c, hs, .inr hc⟩
    · exact (hs.2 b (Nat.ne_of_lt (Nat.lt_of_lt_of_le (Heap.lt_size e) (I.ok.cab x c hfn hc)))).trans (I.base.keep b o e n hb hx)
    · obtain ⟨sl, e1⟩ := I.base.slot b o e n hb hx
      exact ⟨sl, (hs.2 b (Nat.ne_of_lt (Nat.lt_of_lt_of_le (Heap.lt_size e) (I.ok.cab x c hfn hc)))).trans e1⟩
    · obtain ⟨o', e1⟩ := I.base.there b o e hx
      exact ⟨o', (hs.2 b (Nat.ne_of_lt (Nat.lt_of_lt_of_le (Heap.lt_size e) (I.ok.cab x c hfn hc)))).trans e1⟩
    · by_cases hj : j = i
      · subst hj
        rw [hi] at e1; cases e1
        rw [List.getElem?_set_self hiσ] at e2
        cases e2
        exact ⟨u, r, .inr ⟨.inl hk, c, hc, hc'⟩⟩
      · rw [List.getElem?_set_ne (Ne.symm hj)] at e2
        obtain ⟨u', r', q⟩ := hl j y v' e1 e2 e3
        refine ⟨u', r', ?_⟩
        rcases q with q | ⟨k, c', e, z'⟩
        · exact .inl q
        · refine .inr ⟨k, c', e, z'.sameBut hs ?_⟩
          rintro rfl
          exact hj (nodup_ix hN e1 (I.ok.inj _ _ _ e hc ▸ hi))
    · by_cases hcc : c' = c
      · subst hcc; exact ⟨_, hc'⟩
      · obtain ⟨w2, z2⟩ := I.cell y c' e
        exact ⟨w2, z2.sameBut hs hcc⟩
    · obtain ⟨e, n, ne, nf, d⟩ := I.pin p hp
      refine ⟨(hs.2 p.1 ?_).trans e, n, ne, nf, d⟩
      intro q
      rw [q, hoc] at e
      have q' : oc = p.2 := Option.some.inj e
      exact d w' (by rw [← q']; exact hocd)
theorem store_ok {M : Model} {A : Around} {E : Value → Shared → Prop} {i : Nat} {x : Str} {v : V} {u : Value} {Q : Unit → Shared → Prop} (I : Inv X pins σ H s) (hN : X.N.Nodup) (hi : X.N[i]? = some x) (hx : Loc X.env.scope x) (r : RelV v u)
    (h : ∀ s', Inv X pins (σ.set i (some v)) H s' → Q () s') (hf : X.fn x = true ∨ X.env.scope.names.lookup x = some .local := by first | exact .inl rfl | exact .inr rfl | assumption) : wpAny M A (storeName X.env x u) Q E s :=
  store_ok2 I hN hi hx r (fun s' I' _ => h s' I') hf
/-- behind a call or a block, the state as it is -/
theorem Inv.call' {s' : Shared} {ch : List Addr} (I : Inv X pins σ H s) (ho : s'.os = s.os) (u : Un (frs X.stack) ch H H' s.heap s'.heap) (hok : HOk X.prog X.w H' s'.heap) (hg : AllBare s'.gens)
    (hch : ∀ b ∈ ch, (b ∈ X.ex ∨ X.s₀.heap.objs.size ≤ b) ∧ b ≠ X.env.locals ∧ (∀ x c, X.env.cells.lookup x = some c → c ≠ b) ∧ ∀ p ∈ X.pn ++ pins, p.1 ≠ b) : Inv X pins σ H' s' := by
  obtain ⟨h', g', d', t', o'⟩ := s'
  have e : o' = s.os := ho
  subst e
  exact I.call (g' := g') (t' := t') (d' := d') u hok hg hch
end
/-! ### the judgements -/
/-- an exception: its class, its own dict's address (where it has one), the abstract heap behind it -/
abbrev XK := Value → Option Addr → Hp → Prop
abbrev St := List (Option V)
abbrev VK := V → Hp → Prop
/-- an expression's reading; a test's; an argument list's -/
abbrev TE := St → Hp → VK → Prop
abbrev TT := St → Hp → (Bool → Hp → Prop) → Prop
abbrev TA := St → Hp → (List V → Hp → Prop) → Prop
/-- what is wanted behind a statement -/
structure Ends where
  nx : St → Hp → Prop
  rt : VK
  bk : St → Hp → Prop := fun _ _ => False
  ct : St → Hp → Prop := fun _ _ => False
abbrev TS := Ends → St → Hp → Prop
def EP (X : Cx) (pins : List (Addr × Obj)) (σ : St) (Q : VK) (u : Value) (s' : Shared) : Prop := ∃ v H', Inv X pins σ H' s' ∧ RelV v u ∧ Q v H'
def TP (X : Cx) (pins : List (Addr × Obj)) (σ : St) (Q : Bool → Hp → Prop) (b : Bool) (s' : Shared) : Prop := ∃ H', Inv X pins σ H' s' ∧ Q b H'
def AP (X : Cx) (pins : List (Addr × Obj)) (σ : St) (Q : List V → Hp → Prop) (us : List Value) (s' : Shared) : Prop := ∃ vs H', Inv X pins σ H' s' ∧ Vals vs us ∧ Q vs H'
def SP (X : Cx) (pins : List (Addr × Obj)) (D : Ends) (f : Flow) (s' : Shared) : Prop :=
  match f with
  | .next => ∃ σ' H', Inv X pins σ' H' s' ∧ D.nx σ' H'
  | .brk => ∃ σ' H', Inv X pins σ' H' s' ∧ D.bk σ' H'
  | .cont => ∃ σ' H', Inv X pins σ' H' s' ∧ D.ct σ' H'
  | .ret u => ∃ v σ' H', Inv X pins σ' H' s' ∧ RelV v u ∧ D.rt v H'
def PE (X : Cx) (e : Expr) (t : TE) : Prop :=
  ∀ (pins : List (Addr × Obj)) (s : Shared) (σ : St) (H : Hp) (Q : VK), Inv X pins σ H s → t σ H Q → wpAny (model X.prog X.w) X.A (eval e X.env) (EP X pins σ Q) X.xe s
def PT (X : Cx) (e : Expr) (t : TT) : Prop :=
  ∀ (pins : List (Addr × Obj)) (s : Shared) (σ : St) (H : Hp) (Q : Bool → Hp → Prop), Inv X pins σ H s → t σ H Q → wpAny (model X.prog X.w) X.A (isTrue e X.env (eval e X.env)) (TP X pins σ Q) X.xe s
/-- a test whatever its 'whole' is (and, or) -/
def PW (X : Cx) (e : Expr) (t : TT) : Prop :=
  ∀ (whole : Sem Value) (pins : List (Addr × Obj)) (s : Shared) (σ : St) (H : Hp) (Q : Bool → Hp → Prop), Inv X pins σ H s → t σ H Q → wpAny (model X.prog X.w) X.A (isTrue e X.env whole) (TP X pins σ Q) X.xe s
theorem PW.pt {X : Cx} {e : Expr} {t : TT} (h : PW X e t) : PT X e t := h _
/-- an argument list (no star), from the left -/
def PA (X : Cx) (es : List Expr) (t : TA) : Prop :=
  ∀ (pos : Pos) (pins : List (Addr × Obj)) (s : Shared) (σ : St) (H : Hp) (Q : List V → Hp → Prop), Inv X pins σ H s → t σ H Q → wpAny (model X.prog X.w) X.A (spliced (backTo pos (starEach es X.env))) (AP X pins σ Q) X.xe s
def PS (X : Cx) (st : Stmt) (t : TS) : Prop :=
  ∀ (pins : List (Addr × Obj)) (s : Shared) (σ : St) (H : Hp) (D : Ends), Inv X pins σ H s → t D σ H → wpAny (model X.prog X.w) X.A (exec st X.env) (SP X pins D) X.xe s
def PSs (X : Cx) (st : List Stmt) (t : TS) : Prop :=
  ∀ (pins : List (Addr × Obj)) (s : Shared) (σ : St) (H : Hp) (D : Ends), Inv X pins σ H s → t D σ H → wpAny (model X.prog X.w) X.A (execs st X.env) (SP X pins D) X.xe s
/-- weaken the end -/
theorem thn {α : Type} {t : Sem α} {Q Q' : α → Shared → Prop} {M : Model} {A : Around} {E : Value → Shared → Prop} {s : Shared} (h : wpAny M A t Q E s) (hQ : ∀ a s, Q a s → Q' a s) : wpAny M A t Q' E s := wpAny_mono h hQ fun _ _ x => x
end L2
namespace L2
open PySem PySem.Spec PyProof.Rows
section
variable {X : Cx}
/-! ### names and constants -/
def tVar (i : Nat) : TE := fun σ H Q => ∃ v, σ[i]? = some (some v) ∧ Q v H
def tC (v : V) : TE := fun _ H Q => Q v H
theorem pe_var {i : Nat} {x : Str} {pos : Pos} (hN : X.N[i]? = some x) (hv : Vis X.env.scope x) (hd : (x == ("__debug__" : Str)) = false := by decide) (hcd : (x == ("__classdict__" : Str)) = false := by decide) : PE X (.Name x pos) (tVar i) := by
  intro pins s σ H Q I h
  obtain ⟨v, e, h⟩ := h
  obtain ⟨m, hn, hl⟩ := I.loc
  obtain ⟨u, r, l⟩ := hl i x v hN e hv
  have fin : EP X pins σ Q u s := ⟨v, H, I, r, h⟩
  rcases l with ⟨hk, hm⟩ | ⟨hk, c, hc, hcell⟩
  · exact wpAny_Name (wpAny_loadName_local I.ok.kind hk hn hm fin) hd
  · rcases hk with hk | hk
    · exact wpAny_Name (wpAny_loadName_cell I.ok.kind hk hc hcell fin) hd
    · exact wpAny_Name (wpAny_loadName_free I.ok.kind hk hc hcell fin hcd) hd
theorem pe_int {i j pos} : PE X (.Constant (.int i) j pos) (tC (.int i)) := fun _ _ _ H _ I h => wpAny_Constant_int ⟨.int i, H, I.tok _, ⟨_, rfl⟩, h⟩
theorem pe_bl {b j pos} : PE X (.Constant (.bool b) j pos) (tC (.bl b)) := fun _ _ _ H _ I h => Constant_bool ⟨.bl b, H, I, rfl, h⟩
theorem pe_non {j pos} : PE X (.Constant .none j pos) (tC .non) := fun _ _ _ H _ I h => Constant_none ⟨.non, H, I, rfl, h⟩
theorem pe_str {x j pos} : PE X (.Constant (.str x) j pos) (tC (.str x)) := fun _ _ _ H _ I h => Calls.Constant_str ⟨.str x, H, I.tok _, ⟨_, rfl⟩, h⟩
/-- a global name of the def -/
def Gl (X : Cx) (x : Str) : Prop := X.env.kindOf x = some .globalImplicit
theorem ld_glob {E : Value → Shared → Prop} {pins : List (Addr × Obj)} {s : Shared} {σ : St} {H : Hp} {x : Str} {u : Value} {pos : Pos} {Q : Value → Shared → Prop} (I : Inv X pins σ H s) (hg : Gl X x) (hm : X.mg x = some u) (h : Q u s)
    (hd : (x == ("__debug__" : Str)) = false := by decide) : wpAny (model X.prog X.w) X.A (eval (.Name x pos) X.env) Q E s :=
  Calls.Name_function_global I.ok.kind hg (Calls.loadGlobal_global (by rw [I.ok.glob]; exact I.mod.glob.keeps I.bk) hm h) hd
theorem ld_blt {E : Value → Shared → Prop} {pins : List (Addr × Obj)} {s : Shared} {σ : St} {H : Hp} {x : Str} {u : Value} {pos : Pos} {Q : Value → Shared → Prop} (I : Inv X pins σ H s) (hg : Gl X x) (hm : X.mg x = none) (hv : bootBuiltins x = some u) (h : Q u s)
    (hn : x ≠ "__name__" := by decide) (hd : (x == ("__debug__" : Str)) = false := by decide) : wpAny (model X.prog X.w) X.A (eval (.Name x pos) X.env) Q E s := by
  obtain ⟨mb, h1, h2⟩ := I.mod.blt
  exact Calls.Name_function_global I.ok.kind hg (Calls.loadGlobal_builtin (by rw [I.ok.glob]; exact I.mod.glob.keeps I.bk) hm (by rw [I.ok.blt]; exact h1.keeps I.bk) ((h2 x hn).trans hv) h) hd
theorem pe_bltn {x : Str} {v : V} {u : Value} {pos : Pos} (hg : Gl X x) (hm : X.mg x = none) (hv : bootBuiltins x = some u) (r : RelV v u) (hn : x ≠ "__name__" := by decide) (hd : (x == ("__debug__" : Str)) = false := by decide) : PE X (.Name x pos) (tC v) :=
  fun _ _ _ H _ I h => ld_blt I hg hm hv ⟨v, H, I, r, h⟩ hn hd
/-! ### arithmetic -/
variable {a b : Expr} {ta tb : TE} {pos : Pos}
/-! ### comparisons -/
def PC (X : Cx) (op : CmpOp) (a b : Expr) (t : TE) : Prop :=
  ∀ (pins : List (Addr × Obj)) (s : Shared) (σ : St) (H : Hp) (Q : VK), Inv X pins σ H s → t σ H Q →
    wpAny (model X.prog X.w) X.A (eval a X.env) (fun v s₁ => wpAny (model X.prog X.w) X.A (eval b X.env) (fun u s₂ => wpAny (model X.prog X.w) X.A (compareOp op v u) (EP X pins σ Q) X.xe s₂) X.xe s₁) X.xe s
theorem nobehind (b : Expr) {op : CmpOp} (h : op ≠ .In) (h2 : op ≠ .NotIn) : behindInMarks op b = false := by
  have e1 : (op == CmpOp.In) = false := by cases op <;> first | rfl | exact absurd rfl h
  have e2 : (op == CmpOp.NotIn) = false := by cases op <;> first | rfl | exact absurd rfl h2
  cases b <;> simp [behindInMarks, e1, e2]
/-- a comparison as a value, as a test -/
def tB (t : TE) : TT := fun σ H Q => t σ H fun x H1 => ∃ c, x = .bl c ∧ Q c H1
theorem pt_cmp {op : CmpOp} {t : TE} (h : PC X op a b t) (h1 : behindInMarks op b = false := by first | exact nobehind _ (by decide) (by decide) | rfl) : PT X (.Compare a [op] [b] pos) (tB t) := by
  intro pins s σ H Q I hw
  refine wpAny_isTrue_Compare1 (thn (h pins s σ H _ I hw) fun v s1 h1 => thn h1 fun u s2 h2 => thn h2 fun c s3 ⟨x, H1, I1, r1, q1⟩ => ?_) h1
  obtain ⟨d, rfl, q⟩ := q1
  cases r1
  exact wpAny_truthy_bool ⟨H1, I1, q⟩
/-- an expression whose value is a bool, as a test -/
theorem pt_val {e : Expr} {t : TE} (h : PE X e t) (he : ∀ whole, isTrue e X.env whole = (do let v ← whole; standAt e.pos; holding [v] (truthy v)) := by intro _; rfl) : PT X e (tB t) := by
  intro pins s σ H Q I hw
  refine isTrue_plain (thn (h pins s σ H _ I hw) fun v s1 ⟨x, H1, I1, r1, q1⟩ => ?_) (he _)
  obtain ⟨d, rfl, q⟩ := q1
  cases r1
  exact wpAny_truthy_bool ⟨H1, I1, q⟩
/-! ### and, or, not -/
variable {tA tB' : TT} {rest : List Expr}
def tAnd (t u : TT) : TT := fun σ H Q => t σ H fun c H1 => if c = true then u σ H1 Q else Q false H1
def tOr (t u : TT) : TT := fun σ H Q => t σ H fun c H1 => if c = true then Q true H1 else u σ H1 Q
def tNot (t : TT) : TT := fun σ H Q => t σ H fun c H1 => Q (!c) H1
theorem pw_or1 (ha : PT X a tA) : PW X (.BoolOp .Or [a] pos) tA := by
  intro wh pins s σ H Q I h
  refine isTrue_or (thn (ha pins s σ H Q I h) fun c s1 e => ?_)
  cases c with
  | false => exact isTrue_or_nil e
  | true => exact e
theorem pw_or (ha : PT X a tA) (hb : PW X (.BoolOp .Or (b :: rest) pos) tB') : PW X (.BoolOp .Or (a :: b :: rest) pos) (tOr tA tB') := by
  intro wh pins s σ H Q I h
  refine isTrue_or (thn (ha pins s σ H _ I h) fun c s1 ⟨H1, I1, q1⟩ => ?_)
  cases c with
  | true => exact ⟨H1, I1, q1⟩
  | false => exact hb wh pins s1 σ H1 Q I1 q1
theorem pt_not (ha : PT X a tA) : PT X (.UnaryOp .Not a pos) (tNot tA) := by
  intro pins s σ H Q I h
  exact isTrue_not (ha pins s σ H (fun c H1 => Q (!c) H1) I h)
/-- .. as values (bools) -/
def tAndV (ta tb : TE) : TE := fun σ H Q => ta σ H fun x H1 => ∃ c, x = .bl c ∧ if c = true then tb σ H1 Q else Q (.bl false) H1
def tOrV (ta tb : TE) : TE := fun σ H Q => ta σ H fun x H1 => ∃ c, x = .bl c ∧ if c = true then Q (.bl true) H1 else tb σ H1 Q
def tNotV (ta : TE) : TE := fun σ H Q => ta σ H fun x H1 => ∃ c, x = .bl c ∧ Q (.bl (!c)) H1
theorem pe_one {op} {t : TE} (h : PE X a t) : PE X (.BoolOp op [a] pos) t := fun pins s σ H Q I hw => BoolOp_one (h pins s σ H Q I hw)
theorem pe_and (ha : PE X a ta) (hb : PE X (.BoolOp .And (b :: rest) pos) tb) : PE X (.BoolOp .And (a :: b :: rest) pos) (tAndV ta tb) := by
  intro pins s σ H Q I h
  refine BoolOp_and (thn (ha pins s σ H _ I h) fun v s1 ⟨x, H1, I1, r1, q1⟩ => ?_)
  obtain ⟨c, rfl, q1⟩ := q1
  cases r1
  refine wpAny_truthy_bool ?_
  cases c with
  | true => exact hb pins s1 σ H1 Q I1 q1
  | false => exact ⟨.bl false, H1, I1, rfl, q1⟩
theorem pe_not (ha : PE X a ta) : PE X (.UnaryOp .Not a pos) (tNotV ta) := by
  intro pins s σ H Q I h
  refine UnaryOp_ (thn (ha pins s σ H _ I h) fun v s1 ⟨x, H1, I1, r1, q1⟩ => ?_)
  obtain ⟨c, rfl, q1⟩ := q1
  cases r1
  exact not_of (wpAny_truthy_bool ⟨.bl (!c), H1, I1, rfl, q1⟩)
/-- a if t else b -/
def tIf (t : TT) (ta tb : TE) : TE := fun σ H Q => t σ H fun c H1 => if c = true then ta σ H1 Q else tb σ H1 Q
theorem pe_ifExp {c : Expr} (hc : PT X c tA) (ha : PE X a ta) (hb : PE X b tb) : PE X (.IfExp c a b pos) (tIf tA ta tb) := by
  intro pins s σ H Q I h
  refine wpAny_IfExp (thn (hc pins s σ H _ I h) fun d s1 ⟨H1, I1, q1⟩ => ?_)
  cases d with
  | true => exact ha pins s1 σ H1 Q I1 q1
  | false => exact hb pins s1 σ H1 Q I1 q1
end
end L2
namespace L2
open PySem PySem.Spec PyProof.Rows
/-! ### a list, a tuple that is read: tracked, frozen, or an object of the module -/
def SqL (K : PySem.W.Frag) (H : Hp) (a : Addr) (xs : List V) : Prop :=
  Rd H a (.lst xs) ∨
    ∃ (o : Obj) (its : Array Value) (n : Nat), K.lookup a = some o ∧ o.cls = .type "list" ∧ o.dict = none ∧ o.data = .seq its n ∧ its.size ≤ sizeLine ∧ Vals xs its.toList
def SqT (K : PySem.W.Frag) (H : Hp) (a : Addr) (xs : List V) : Prop :=
  Rd H a (.tup xs) ∨
    ∃ (o : Obj) (its : Array Value) (n : Nat), K.lookup a = some o ∧ o.cls = .type "tuple" ∧ o.data = .seq its n ∧ its.size ≤ sizeLine ∧ Vals xs its.toList
def absV : Value → Option V
  | .none => some .non
  | .bool b => some (.bl b)
  | .int i _ => some (.int i)
  | .str x _ => some (.str x)
  | .bytes b _ => some (.byt b)
  | .float b _ => some (.flt b)
  | .ref a => some (.ref a)
  | .type n => some (.ty n)
  | _ => none
theorem RelV.abs {x : V} {u : Value} (r : RelV x u) : absV u = some x := by
  cases x with
  | non => cases r; rfl
  | bl _ => cases r; rfl
  | int _ => obtain ⟨t, rfl⟩ := r; rfl
  | str _ => obtain ⟨t, rfl⟩ := r; rfl
  | byt _ => obtain ⟨t, rfl⟩ := r; rfl
  | flt _ => obtain ⟨t, rfl⟩ := r; rfl
  | ref _ => cases r; rfl
  | ty _ => cases r; rfl
theorem RelV.inj {x y : V} {u : Value} (r : RelV x u) (q : RelV y u) : x = y := Option.some.inj (r.abs.symm.trans q.abs)
theorem Vals.inj : ∀ {xs ys : List V} {us : List Value}, Vals xs us → Vals ys us → xs = ys
  | _, _, _, .nil, .nil => rfl
  | _, _, _, .cons r t, .cons r' t' => by rw [r.inj r', Vals.inj t t']
section
variable {X : Cx} {pins : List (Addr × Obj)} {σ : St} {H : Hp} {s : Shared} {a : Addr} {xs ys : List V}
theorem SqL.of {K : PySem.W.Frag} (h : H a = some (.lst xs)) : SqL K H a xs := .inl (.inl h)
theorem SqT.of {K : PySem.W.Frag} (h : H a = some (.tup xs)) : SqT K H a xs := .inl (.inl h)
theorem Inv.list (I : Inv X pins σ H s) (h : SqL X.K H a xs) : ∃ its : List Value, Vals xs its ∧ PlainL s.heap a its.toArray ∧ xs.length ≤ sizeLine := by
  rcases h with h | ⟨o, its, n, hk, hc, hd, hs, hz, r⟩
  · obtain ⟨z, its, n, r, e⟩ := h.ok I.hok
    exact ⟨its, r, ⟨_, n, e, rfl, rfl, rfl⟩, z⟩
  · refine ⟨its.toList, r, ⟨o, n, I.kIn a o hk, hc, hd, by simpa using hs⟩, ?_⟩
    have e := r.length
    simp only [Array.length_toList] at e
    omega
theorem Inv.tuple (I : Inv X pins σ H s) (h : SqT X.K H a xs) : ∃ its : List Value, Vals xs its ∧ IsTup s.heap a its.toArray ∧ xs.length ≤ sizeLine := by
  rcases h with h | ⟨o, its, n, hk, hc, hs, hz, r⟩
  · obtain ⟨z, its, r, p⟩ := h.ok I.hok
    exact ⟨its, r, p, z⟩
  · refine ⟨its.toList, r, ⟨o, I.kIn a o hk, hc, n, by simpa using hs⟩, ?_⟩
    have e := r.length
    simp only [Array.length_toList] at e
    omega
theorem Inv.list_inj (I : Inv X pins σ H s) (h : SqL X.K H a xs) (h' : SqL X.K H a ys) : xs = ys := by
  obtain ⟨its, r, ⟨o, n, e, _, _, d⟩, _⟩ := I.list h
  obtain ⟨its', r', ⟨o', n', e', _, _, d'⟩, _⟩ := I.list h'
  rw [e] at e'; cases e'
  rw [d] at d'
  injection d' with d1 _
  have : its = its' := by simpa using congrArg Array.toList d1
  subst this
  exact r.inj r'
theorem Inv.tuple_inj (I : Inv X pins σ H s) (h : SqT X.K H a xs) (h' : SqT X.K H a ys) : xs = ys := by
  obtain ⟨its, r, ⟨o, e, _, n, d⟩, _⟩ := I.tuple h
  obtain ⟨its', r', ⟨o', e', _, n', d'⟩, _⟩ := I.tuple h'
  rw [e] at e'; cases e'
  rw [d] at d'
  injection d' with d1 _
  have : its = its' := by simpa using congrArg Array.toList d1
  subst this
  exact r.inj r'
end
/-! ### another wish about exceptions -/
abbrev Cx.wish (X : Cx) (E : Value → Shared → Prop) : Cx := { X with xe := E }
/-- no exception leaves -/
abbrev Cx.nox (X : Cx) : Cx := X.wish fun _ _ => False
theorem Cx.Ok.wish {X : Cx} (ok : X.Ok) (E : Value → Shared → Prop) : (X.wish E).Ok :=
  ⟨ok.mod, ok.kind, ok.glob, ok.blt, ok.above, ok.inj, ok.has, ok.cab, ok.hd, ok.frames, ok.stk, ok.exf, ok.bs, ok.bsz, ok.noex, ok.exfs, ok.funs, ok.frf⟩
theorem Cx.Ok.unwish {X : Cx} {E : Value → Shared → Prop} (ok : (X.wish E).Ok) : X.Ok :=
  ⟨ok.mod, ok.kind, ok.glob, ok.blt, ok.above, ok.inj, ok.has, ok.cab, ok.hd, ok.frames, ok.stk, ok.exf, ok.bs, ok.bsz, ok.noex, ok.exfs, ok.funs, ok.frf⟩
section
variable {X : Cx} {pins : List (Addr × Obj)} {σ : St} {H : Hp} {s : Shared} {E : Value → Shared → Prop}
theorem Inv.wish (I : Inv X pins σ H s) (E : Value → Shared → Prop) : Inv (X.wish E) pins σ H s := ⟨I.ok.wish E, I.os, I.bare, I.base, I.loc, I.cell, I.free, I.freeC, I.pin, I.hok, I.len⟩
theorem Inv.unwish (I : Inv (X.wish E) pins σ H s) : Inv X pins σ H s := ⟨I.ok.unwish, I.os, I.bare, I.base, I.loc, I.cell, I.free, I.freeC, I.pin, I.hok, I.len⟩
theorem SP.unwish {D : Ends} {f : Flow} {s' : Shared} (h : SP (X.wish E) pins D f s') : SP X pins D f s' := by
  cases f with
  | next => obtain ⟨σ', H', I, q⟩ := h; exact ⟨σ', H', I.unwish, q⟩
  | brk => obtain ⟨σ', H', I, q⟩ := h; exact ⟨σ', H', I.unwish, q⟩
  | cont => obtain ⟨σ', H', I, q⟩ := h; exact ⟨σ', H', I.unwish, q⟩
  | ret u => obtain ⟨v, σ', H', I, r, q⟩ := h; exact ⟨v, σ', H', I.unwish, r, q⟩
theorem PE.nox {e : Expr} {t : TE} (h : PE X.nox e t) : PE X e t := fun pins s σ H Q I hw =>
  wpAny_mono (h pins s σ H Q (I.wish _) hw) (fun _ _ ⟨v, H', I', r, q⟩ => ⟨v, H', I'.unwish, r, q⟩) fun _ _ z => False.elim z
theorem PT.nox {e : Expr} {t : TT} (h : PT X.nox e t) : PT X e t := fun pins s σ H Q I hw =>
  wpAny_mono (h pins s σ H Q (I.wish _) hw) (fun _ _ ⟨H', I', q⟩ => ⟨H', I'.unwish, q⟩) fun _ _ z => False.elim z
theorem PSs.nox {st : List Stmt} {t : TS} (h : PSs X.nox st t) : PSs X st t := fun pins s σ H D I hw =>
  wpAny_mono (h pins s σ H D (I.wish _) hw) (fun _ _ q => q.unwish) fun _ _ z => False.elim z
end
/-! ### blocks and small statements -/
section
variable {X : Cx} {st : Stmt} {rest : List Stmt} {t u : TS} {e : Expr} {te : TE} {pos : Pos}
def tNext : TS := fun D σ H => D.nx σ H
def tSeq (t u : TS) : TS := fun D σ H => t { D with nx := u D } σ H
theorem pss_nil : PSs X [] tNext := fun _ _ σ H _ I h => wpAny_execs_nil ⟨σ, H, I, h⟩
theorem pss_cons (h1 : PS X st t) (h2 : PSs X rest u) : PSs X (st :: rest) (tSeq t u) := by
  intro pins s σ H D I h
  refine wpAny_execs_cons (thn (h1 pins s σ H { D with nx := u D } I h) fun f s1 q => ?_)
  cases f with
  | next =>
    obtain ⟨σ', H', I', q⟩ := q
    exact h2 pins s1 σ' H' D I' q
  | ret v => exact q
  | brk => exact q
  | cont => exact q
theorem pss_one (h1 : PS X st t) : PSs X [st] t := by
  intro pins s σ H D I h
  refine wpAny_execs_cons (thn (h1 pins s σ H D I h) fun f s1 q => ?_)
  cases f with
  | next => exact wpAny_execs_nil q
  | ret v => exact q
  | brk => exact q
  | cont => exact q
/-- in a def's body nothing is shown -/
theorem Inv.quiet {pins : List (Addr × Obj)} {σ : St} {H : Hp} {s : Shared} (I : Inv X pins σ H s) : interactive X.env = false := by simp [interactive, I.ok.kind]
/-- an expression whose value is dropped -/
def tDrop (te : TE) : TS := fun D σ H => te σ H fun _ H1 => D.nx σ H1
theorem ps_expr (he : PE X e te) (hs : swapsWith e none pos.line X.env = pure false := by rfl) : PS X (.Expr e pos) (tDrop te) := by
  intro pins s σ H D I h
  exact wpAny_Expr_any (thn (he pins s σ H _ I h) fun v s1 ⟨x, H1, I1, r1, q1⟩ => ⟨σ, H1, I1, q1⟩) I.quiet hs
def tRet (te : TE) : TS := fun D σ H => te σ H D.rt
theorem ps_ret (he : PE X e te) : PS X (.Return (some e) pos) (tRet te) := by
  intro pins s σ H D I h
  exact wpAny_Return_some (thn (he pins s σ H _ I h) fun v s1 ⟨x, H1, I1, r1, q1⟩ => ⟨x, σ, H1, I1, r1, q1⟩)
def tRetN : TS := fun D _ H => D.rt .non H
def tIfS (c : TT) (t u : TS) : TS := fun D σ H => c σ H fun b H1 => if b = true then t D σ H1 else u D σ H1
theorem ps_if {c : Expr} {a b : List Stmt} {tc : TT} (hc : PT X c tc) (ha : PSs X a t) (hb : PSs X b u) : PS X (.If c a b pos) (tIfS tc t u) := by
  intro pins s σ H D I h
  refine wpAny_If (thn (hc pins s σ H _ I h) fun d s1 ⟨H1, I1, q1⟩ => ?_)
  cases d with
  | true => exact ha pins s1 σ H1 D I1 q1
  | false => exact hb pins s1 σ H1 D I1 q1
end
/-! ### targets -/
abbrev TG := V → St → Hp → (St → Hp → Prop) → Prop
abbrev TGs := List V → St → Hp → (St → Hp → Prop) → Prop
def PG (X : Cx) (target : Expr) (t : TG) : Prop :=
  ∀ (pins : List (Addr × Obj)) (s : Shared) (σ : St) (H : Hp) (v : V) (u : Value) (Q : St → Hp → Prop), Inv X pins σ H s → RelV v u → t v σ H Q →
    wpAny (model X.prog X.w) X.A (assign target X.env u) (fun _ s' => ∃ σ' H', Inv X pins σ' H' s' ∧ Q σ' H') X.xe s
/-- several targets, one after another -/
def PGs (X : Cx) (ts : List Expr) (t : TGs) : Prop :=
  ∀ (pins : List (Addr × Obj)) (s : Shared) (σ : St) (H : Hp) (vs : List V) (us : List Value) (Q : St → Hp → Prop), Inv X pins σ H s → Vals vs us → t vs σ H Q →
    wpAny (model X.prog X.w) X.A (assignInOrder ((assignEach ts X.env).map (·.2)) us) (fun _ s' => ∃ σ' H', Inv X pins σ' H' s' ∧ Q σ' H') X.xe s
section
variable {X : Cx} {pos : Pos}
def gName (i : Nat) : TG := fun v σ H Q => Q (σ.set i (some v)) H
theorem pg_name {i : Nat} {x : Str} (hN : X.N.Nodup) (hi : X.N[i]? = some x) (hx : Loc X.env.scope x) (hf : X.fn x = true ∨ X.env.scope.names.lookup x = some .local := by first | exact .inl rfl | exact .inr rfl | assumption) : PG X (.Name x pos) (gName i) := by
  intro pins s σ H v u Q I r h
  exact wpAny_assign_Name (store_ok I hN hi hx r (fun s' I' => ⟨_, H, I', h⟩) hf)
def gNil : TGs := fun vs σ H Q => vs = [] ∧ Q σ H
def gCons (t : TG) (u : TGs) : TGs := fun vs σ H Q => ∃ v r, vs = v :: r ∧ t v σ H fun σ' H' => u r σ' H' Q
theorem pgs_nil : PGs X [] gNil := by
  intro pins s σ H vs us Q I r h
  obtain ⟨e, h⟩ := h
  subst e
  cases r
  exact assignInOrder_nil ⟨σ, H, I, h⟩
theorem pgs_cons {e : Expr} {es : List Expr} {t : TG} {u : TGs} (h1 : PG X e t) (h2 : PGs X es u)
    (hs : (assignEach (e :: es) X.env).map (·.2) = assign e X.env :: (assignEach es X.env).map (·.2) := by rfl) : PGs X (e :: es) (gCons t u) := by
  intro pins s σ H vs us Q I r h
  obtain ⟨v, vr, e1, h⟩ := h
  subst e1
  cases r with
  | cons r rr =>
    rw [hs]
    refine assignInOrder_cons (thn (h1 pins s σ H _ _ _ I r h) fun _ s1 ⟨σ1, H1, I1, q1⟩ => ?_)
    exact h2 pins s1 σ1 H1 _ _ Q I1 rr q1
/-- (a, b, ..) = a tuple of that length -/
def gTup (K : PySem.W.Frag) (n : Nat) (t : TGs) : TG := fun v σ H Q => ∃ a xs, v = .ref a ∧ SqT K H a xs ∧ xs.length = n ∧ t xs σ H Q
theorem pg_tup {es : List Expr} {k : Nat} {t : TGs} {n : Nat} (hc : X.calm = true) (h : PGs X es t)
    (hn : (assignEach es X.env).length = n := by rfl) (hst : (assignEach es X.env).findIdx? (·.1) = none := by rfl) : PG X (.Tuple es k pos) (gTup X.K n t) := by
  intro pins s σ H v u Q I r hw
  obtain ⟨a, xs, e1, hq, hl, hw⟩ := hw
  subst e1
  cases r
  obtain ⟨its, rv, ht, hz⟩ := I.tuple hq
  refine assign_Tuple_tuple (I.ok.hd hc) ht (by simp [hn, ← hl, rv.length]) hst fun h' hx => ?_
  have I1 : Inv X pins σ H { s with heap := h' } := I.kept (t' := s.toks) fun b o e => hx b o (Nat.ne_of_lt (Heap.lt_size e)) e
  exact h pins _ σ H xs _ Q I1 (by simpa using rv) hw
/-- target = value -/
def tAsg (te : TE) (g : TG) : TS := fun D σ H => te σ H fun x H1 => g x σ H1 D.nx
/-- name = value -/
theorem ps_set {i : Nat} {x : Str} {e : Expr} {te : TE} {pos' : Pos} (hN : X.N.Nodup) (hi : X.N[i]? = some x) (hx : Loc X.env.scope x) (he : PE X e te) (hs : swapsWith e (some (.Name x pos')) pos.line X.env = pure false := by rfl) (hf : X.fn x = true ∨ X.env.scope.names.lookup x = some .local := by first | exact .inl rfl | exact .inr rfl | assumption) :
    PS X (.Assign [.Name x pos'] e pos) (tAsg te (gName i)) := by
  intro pins s σ H D I h
  refine wpAny_Assign_Name (thn (he pins s σ H _ I h) fun v s1 ⟨y, H1, I1, r1, q1⟩ => ?_) hs
  exact store_ok I1 hN hi hx r1 (fun s2 I2 => ⟨_, H1, I2, q1⟩) hf
end
/-! ### while -/
section
variable {X : Cx} {pos : Pos}
/-- the invariant W with its measure -/
def tWhile (c : TT) (tb : TS) : TS := fun D σ H => ∃ W : Nat → St → Hp → Prop, (∃ m, W m σ H) ∧ ∀ m σ H, W m σ H →
  c σ H fun b H1 => if b = true then ∃ N : St → Hp → Prop, (∀ σ' H', N σ' H' → ∃ m', m' < m ∧ W m' σ' H') ∧ tb { D with nx := N, ct := N, bk := D.nx } σ H1 else D.nx σ H1
theorem ps_while {c : Expr} {body : List Stmt} {tc : TT} {tb : TS} (hp : PassesOwn (model X.prog X.w) X.A X.env X.xe) (hc : PT X c tc) (hb : PSs X body tb) : PS X (.While c body [] pos) (tWhile tc tb) := by
  intro pins s σ H D I h
  obtain ⟨W, ⟨m0, w0⟩, turn⟩ := h
  refine wpAny_While (codeAny_whileLoop (fun n s' => ∃ σ' H', Inv X pins σ' H' s' ∧ W n σ' H') ?_ m0 ⟨σ, H, I, w0⟩)
  rintro n s1 ⟨σ1, H1, I1, w1⟩
  refine wpAny_passesOwn hp (thn (hc pins s1 σ1 H1 _ I1 (turn n σ1 H1 w1)) fun b s2 ⟨H2, I2, q2⟩ => ?_)
  cases b with
  | true =>
    obtain ⟨N, hN, q2⟩ := q2
    rw [if_pos rfl]
    refine wpAny_passesOwn hp (thn (hb pins s2 σ1 H2 _ I2 q2) fun f s3 q3 => ?_)
    cases f with
    | next =>
      obtain ⟨σ3, H3, I3, n3⟩ := q3
      obtain ⟨m', hm, w3⟩ := hN σ3 H3 n3
      exact ⟨m', hm, σ3, H3, I3, w3⟩
    | cont =>
      obtain ⟨σ3, H3, I3, n3⟩ := q3
      obtain ⟨m', hm, w3⟩ := hN σ3 H3 n3
      exact ⟨m', hm, σ3, H3, I3, w3⟩
    | brk => exact q3
    | ret v => exact q3
  | false =>
    rw [if_neg Bool.false_ne_true]
    exact wpAny_execs_nil ⟨σ1, H2, I2, q2⟩
end
/-! ### what a loop or a comprehension walks -/
/-- at turn i: it yields x (the heap may grow), or it stops -/
structure It where
  go : Nat → Hp → Prop
  yld : Nat → Hp → V → Hp → Prop
  stop : Nat → Hp → Prop
/-- the iterator's own objects may turn: they are not the frame's, not pinned, younger than the entry (or a comprehension's own) -/
def FpOk (X : Cx) (pins : List (Addr × Obj)) (H : Hp) (b : Addr) : Prop :=
  H b = none ∧ b ≠ X.env.locals ∧ b ∉ X.fs ∧ (b ∈ X.ex ∨ X.s₀.heap.objs.size ≤ b) ∧ (∀ x c, X.env.cells.lookup x = some c → c ≠ b) ∧ ∀ p ∈ X.pn ++ pins, p.1 ≠ b
theorem Inv.fpOk {X : Cx} {pins : List (Addr × Obj)} {σ : St} {H H' : Hp} {s : Shared} {b : Addr} (I : Inv X pins σ H s) (hb : s.heap.objs.size ≤ b) (hn : H' b = none) : FpOk X pins H' b := by
  refine ⟨hn, Nat.ne_of_gt (Nat.lt_of_lt_of_le I.lt hb), I.nofs hb, .inr (Nat.le_trans I.sz hb), fun x c e z => ?_, fun p hp z => ?_⟩
  · obtain ⟨v, q⟩ := I.cell x c e
    exact absurd (Nat.lt_of_lt_of_le q.lt (by rw [z]; exact hb)) (Nat.lt_irrefl _)
  · exact absurd (Nat.lt_of_lt_of_le (Heap.lt_size (I.pin p hp).1) (by rw [z]; exact hb)) (Nat.lt_irrefl _)
structure Turn (P : Program) (w : World) (K : PySem.W.Frag) (tg : Expr) (J : It) (fp : List Addr) (it : Addr) (tn : Nat → Heap → Prop) : Prop where
  mem : it ∈ fp
  obj : ∀ i h, tn i h → ∀ b ∈ fp, ∃ o, h.get? b = some o ∧ ∀ v, o.data ≠ .cell v
  keep : ∀ i h h', tn i h → (∀ b ∈ fp, ∀ o, h.get? b = some o → h'.get? b = some o) → tn i h'
  item : ∀ (X : Cx), X.prog = P → X.w = w → X.K = K → X.calm = true → ∀ (i : Nat) (pins : List (Addr × Obj)) (s : Shared) (σ : St) (H : Hp) (E : Value → Shared → Prop), Inv X pins σ H s → (∀ b ∈ fp, FpOk X pins H b) → tn i s.heap → J.go i H →
    wpAny (model P w) X.A (pyNext (.ref it)) (fun r s1 => ∃ u, r = some u ∧
      wpAny (model P w) X.A (letOwnedTupleGo tg (.ref it) u) (fun _ s2 => ∃ x H', Inv X pins σ H' s2 ∧ RelV x u ∧ J.yld i H x H' ∧ tn (i + 1) s2.heap ∧ ∀ b ∈ fp, H' b = none) E s1) E s
  done : ∀ (X : Cx), X.prog = P → X.w = w → X.K = K → X.calm = true → ∀ (i : Nat) (pins : List (Addr × Obj)) (s : Shared) (σ : St) (H : Hp) (E : Value → Shared → Prop), Inv X pins σ H s → (∀ b ∈ fp, FpOk X pins H b) → tn i s.heap → J.stop i H →
    wpAny (model P w) X.A (pyNext (.ref it)) (fun r s1 => r = none ∧ Inv X pins σ H s1) E s
  self : ∀ (A : Around) (i : Nat) (s : Shared) (Q : Value → Shared → Prop) (E : Value → Shared → Prop), tn i s.heap → Q (.ref it) s → wpAny (model P w) A (pyIter (.ref it)) Q E s
abbrev TI := St → Hp → (It → Hp → Prop) → Prop
/-- an iterator has come -/
def PIE (X : Cx) (pins : List (Addr × Obj)) (σ : St) (tg : Expr) (R : It → Hp → Prop) (itv : Value) (s2 : Shared) : Prop :=
  ∃ (it : Addr) (fp : List Addr) (tn : Nat → Heap → Prop) (J : It) (H' : Hp), itv = .ref it ∧ Inv X pins σ H' s2 ∧ Turn X.prog X.w X.K tg J fp it tn ∧ tn 0 s2.heap ∧ (∀ b ∈ fp, FpOk X pins H' b) ∧ R J H'
def PI (X : Cx) (tg iter : Expr) (wi : TI) : Prop :=
  ∀ (pins : List (Addr × Obj)) (s : Shared) (σ : St) (H : Hp) (R : It → Hp → Prop), Inv X pins σ H s → wi σ H R →
    wpAny (model X.prog X.w) X.A (eval iter X.env) (fun v s1 => wpAny (model X.prog X.w) X.A (pyIter v) (PIE X pins σ tg R) X.xe s1) X.xe s
/-- the step ahead of the store is nothing for an iterator that keeps no tuple -/
theorem go_of {M : Model} {A : Around} {E : Value → Shared → Prop} {s : Shared} {tg : Expr} {it : Addr} {u : Value} {o : Obj} {n : String} {vs : Array Value} {Q : Unit → Shared → Prop} (ho : s.heap.get? it = some o) (hc : o.cls = .type n) (hd : o.data = .fields vs)
    (hn : ["enumerate", "zip", "dict_itemiterator", "dict_reverseitemiterator", "odict_iterator", "itertools.zip_longest", "itertools.pairwise"].contains n = false) (hQ : Q () s) : wpAny M A (letOwnedTupleGo tg (.ref it) u) Q E s := by
  unfold letOwnedTupleGo
  cases tg <;> first
    | exact wpAny_pure hQ
    | (cases u <;> first
        | exact wpAny_pure hQ
        | (refine wpAny_bind (wpAny_load ho ?_)
           rw [hc, hd]
           show wpAny M A (if (["enumerate", "zip", "dict_itemiterator", "dict_reverseitemiterator", "odict_iterator", "itertools.zip_longest", "itertools.pairwise"].contains n && vs[0]? == some (rawInt _)) = true then _ else _) Q E s
           rw [if_neg (by intro h; rw [hn, Bool.false_and] at h; cases h)]
           exact wpAny_pure hQ))
/-- the list at a, as it stands at each turn (a loop may append to it) -/
def Itl (K : PySem.W.Frag) (a : Addr) : It :=
  ⟨fun i H => ∃ xs x, SqL K H a xs ∧ xs[i]? = some x, fun i H x H' => H' = H ∧ ∀ xs, SqL K H a xs → xs[i]? = some x, fun i H => ∃ xs, SqL K H a xs ∧ xs.length ≤ i⟩
/-- lo, lo + 1, .. (n of them) -/
def Itr (lo : Int) (n : Nat) : It := ⟨fun i _ => i < n, fun i H x H' => H' = H ∧ x = .int (lo + i), fun i _ => n ≤ i⟩
theorem turn_list {P : Program} {w : World} {K : PySem.W.Frag} {tg : Expr} (a it : Addr) : Turn P w K tg (Itl K a) [it] it (fun i h => h.IsListIter it a i) where
  mem := by simp
  obj := fun i h st b hb => by
    have e : b = it := by simpa using hb
    subst e
    obtain ⟨o, e, c, d⟩ := st
    exact ⟨o, e, fun v z => by rw [d] at z; cases z⟩
  keep := fun i h h' st k => st.at fun o e => k it (by simp) o e
  item := by
    intro X hP hw hK hc i pins s σ H E I hf st hg
    subst hP hw hK
    obtain ⟨xs, x, hq, hx⟩ := hg
    obtain ⟨its, rv, p, hz⟩ := I.list hq
    obtain ⟨u, hu, ru⟩ := rv.get hx
    obtain ⟨f0, f1, f2, f3, f4, f5⟩ := hf it (by simp)
    refine wpAny_pyNext_list_item st p.isList (x := u) (by simpa using hu) fun h' st' sb => ?_
    have I1 : Inv X pins σ H { s with heap := h' } := I.turned (t' := s.toks) (fun b o hb e => (sb.2 b hb).trans e) f0 f1 f3 f4 f5
    obtain ⟨o, e, c, d⟩ := id st'
    exact ⟨u, rfl, go_of (s := { s with heap := h' }) e c d (by decide) ⟨x, H, I1, ru, ⟨rfl, fun ys hy => by rw [I.list_inj hy hq]; exact hx⟩, st', fun b hb => (hf b hb).1⟩⟩
  done := by
    intro X hP hw hK hc i pins s σ H E I hf st hg
    subst hP hw hK
    obtain ⟨xs, hq, hx⟩ := hg
    obtain ⟨its, rv, p, hz⟩ := I.list hq
    obtain ⟨f0, f1, f2, f3, f4, f5⟩ := hf it (by simp)
    have hl := rv.length
    exact wpAny_pyNext_list_end (I.ok.hd hc) st p.isList (by simp; omega) fun h' eb => ⟨rfl, I.turned (t' := s.toks) (fun b o hb e => eb b o hb e) f0 f1 f3 f4 f5⟩
  self := fun _ _ _ _ _ st h => wpAny_pyIter_listiter st h
theorem turn_range {P : Program} {w : World} {K : PySem.W.Frag} {tg : Expr} (it : Addr) (lo : Int) (n : Nat) : Turn P w K tg (Itr lo n) [it] it (fun i h => IsRangeIter h it (lo + (i : Nat) * 1) ((n : Int) - (i : Nat)) 1) where
  mem := by simp
  obj := fun i h st b hb => by
    have e : b = it := by simpa using hb
    subst e
    exact ⟨_, st, fun v z => by
      have z' : Data.fields _ = Data.cell v := z
      cases z'⟩
  keep := fun i h h' st k => k it (by simp) _ st
  item := by
    intro X hP hw hK hc i pins s σ H E I hf st hg
    subst hP hw hK
    obtain ⟨f0, f1, f2, f3, f4, f5⟩ := hf it (by simp)
    have W := Walks.range (prog := X.prog) (w := X.w) (I.ok.hd hc) it lo 1 n
    refine W.item i s _ _ hg st fun v h' tk hv st' kk => ?_
    obtain ⟨t, rfl⟩ := hv
    have I1 : Inv X pins σ H { s with heap := h', toks := tk } := I.turned (fun b o hb e => kk b o (by simpa using hb) e) f0 f1 f3 f4 f5
    refine ⟨_, rfl, go_of (s := { s with heap := h', toks := tk }) (n := "range_iterator") st' rfl rfl (by decide) ⟨.int (lo + i), H, I1, ⟨t, ?_⟩, ⟨rfl, rfl⟩, st', fun b hb => (hf b hb).1⟩⟩
    rw [Int.mul_one]
  done := by
    intro X hP hw hK hc i pins s σ H E I hf st hg
    subst hP hw hK
    obtain ⟨f0, f1, f2, f3, f4, f5⟩ := hf it (by simp)
    exact wpAny_pyNext_range_end (I.ok.hd hc) st (by have : n ≤ i := hg; omega) fun h' eb => ⟨rfl, I.turned (t' := s.toks) (fun b o hb e => eb b o hb e) f0 f1 f3 f4 f5⟩
  self := fun _ _ _ _ _ st h => wpAny_pyIter_rangeiter st h
end L2
namespace L2
open PySem PySem.Spec PyProof.Rows
section
variable {X : Cx} {tg : Expr}
def iList (K : PySem.W.Frag) (tl : TE) : TI := fun σ H R => tl σ H fun x H1 => ∃ a, x = .ref a ∧ (∃ xs, SqL K H1 a xs) ∧ R (Itl K a) H1
theorem pi_list {l : Expr} {tl : TE} (hl : PE X l tl) : PI X tg l (iList X.K tl) := by
  intro pins s σ H R I h
  refine thn (hl pins s σ H _ I h) fun v s1 ⟨x, H1, I1, r1, q1⟩ => ?_
  obtain ⟨a, e, ⟨xs, hq⟩, q⟩ := q1
  subst e
  cases r1
  obtain ⟨its, rv, p, hz⟩ := I1.list hq
  refine wpAny_pyIter_list p.isList ?_
  refine ⟨s1.heap.objs.size, [s1.heap.objs.size], _, _, H1, rfl, I1.kept (t' := s1.toks) fun b o e => Heap.get?_push_of_some _ e, turn_list a _, ⟨_, Heap.get?_push_size _ rfl, rfl, rfl⟩, fun b hb => ?_, q⟩
  have e : b = s1.heap.objs.size := by simpa using hb
  subst e
  exact I1.fpOk (Nat.le_refl _) (I1.hok.fresh (Nat.le_refl _))
/-- a range object just made, walked -/
theorem range_it {pins : List (Addr × Obj)} {σ : St} {H : Hp} {s : Shared} {R : It → Hp → Prop} {E : Value → Shared → Prop} {lo hi : Int} {t u v : Tok} {tk : Nat} (I : Inv X pins σ H s) (h1 : -(2 ^ 62) ≤ lo) (h2 : lo < 2 ^ 62) (h3 : -(2 ^ 62) ≤ hi) (h4 : hi < 2 ^ 62)
    (q : R (Itr lo (hi - lo).toNat) H) : wpAny (model X.prog X.w) X.A (pyIter (.ref s.heap.objs.size)) (PIE X pins σ tg R) E { s with heap := s.heap.push { cls := .type "range", data := .fields #[.int lo t, .int hi u, .int 1 v] }, toks := tk } := by
  refine wpAny_pyIter_range (IsRange.new ..) (small_one h1 h2 h3 h4) ?_
  have I1 : Inv X pins σ H { s with heap := s.heap.push { cls := .type "range", data := .fields #[.int lo t, .int hi u, .int 1 v] }, toks := tk } := I.kept fun b o e => Heap.get?_push_of_some _ e
  refine ⟨(s.heap.push { cls := .type "range", data := .fields #[.int lo t, .int hi u, .int 1 v] }).objs.size, [(s.heap.push { cls := .type "range", data := .fields #[.int lo t, .int hi u, .int 1 v] }).objs.size], _, _, H, rfl,
    I1.kept (t' := tk) fun b o e => Heap.get?_push_of_some _ e, turn_range _ lo (hi - lo).toNat, ?_, fun b hb => ?_, q⟩
  · have e1 : lo + ((0 : Nat) : Int) * 1 = lo := by simp
    have e2 : (((hi - lo).toNat : Nat) : Int) - ((0 : Nat) : Int) = Builtin.Range.rangeSize lo hi 1 := by rw [rangeSize_one]; split <;> omega
    show IsRangeIter _ _ (lo + ((0 : Nat) : Int) * 1) ((((hi - lo).toNat : Nat) : Int) - ((0 : Nat) : Int)) 1
    rw [e1, e2]
    exact Heap.get?_push_size _ rfl
  · have e : b = (s.heap.push { cls := .type "range", data := .fields #[.int lo t, .int hi u, .int 1 v] }).objs.size := by simpa using hb
    subst e
    exact I1.fpOk (Nat.le_refl _) (I1.hok.fresh (Nat.le_refl _))
def iRng1 (ta : TA) : TI := fun σ H R => ta σ H fun vs H1 => ∃ j : Int, vs = [.int j] ∧ -(2 ^ 62) ≤ j ∧ j < 2 ^ 62 ∧ R (Itr 0 j.toNat) H1
theorem pi_range1 {a : Expr} {ta : TA} {p pos : Pos} (hg : Gl X "range") (hm : X.mg "range" = none) (ha : PA X [a] ta) (hs : starEach [a] X.env = [(false, eval a X.env)] := by rfl) : PI X tg (.Call (.Name "range" p) [a] [] pos) (iRng1 ta) := by
  intro pins s σ H R I h
  refine Call_ (ld_blt I hg hm boot_range (PyProof.Rows.callWith_type1 (thn (ha pos pins s σ H _ I h) fun us s1 ⟨vs, H1, I1, r1, q1⟩ => ?_) hs rfl))
  obtain ⟨j, e, q1, q2, q⟩ := q1
  subst e
  cases r1 with
  | cons r rr =>
    cases rr
    obtain ⟨t, rfl⟩ := r
    exact call_range_1 (range_it I1 (by omega) (by omega) q1 q2 (by simpa using q))
/-! ### for -/
/-- W: the invariant by the turn and a measure; N: what the body is to reach -/
def tFor (wi : TI) (g : TG) (tb : TS) : TS := fun D σ H => wi σ H fun J H1 => ∃ W : Nat → Nat → St → Hp → Prop, (∃ m, W 0 m σ H1) ∧ ∀ i m σ H, W i m σ H →
  (J.stop i H ∧ D.nx σ H) ∨ (J.go i H ∧ ∃ N : St → Hp → Prop, (∀ σ' H', N σ' H' → ∃ m', m' < m ∧ W (i + 1) m' σ' H') ∧ ∀ x H', J.yld i H x H' → g x σ H' fun σ2 H2 => tb { D with nx := N, ct := N, bk := D.nx } σ2 H2)
/-- the records at fp as they stand -/
def pinsAt (fp : List Addr) (h : Heap) : List (Addr × Obj) := fp.filterMap fun b => (h.get? b).map fun o => (b, o)
theorem mem_pinsAt {fp : List Addr} {h : Heap} {b : Addr} {o : Obj} (hb : b ∈ fp) (e : h.get? b = some o) : (b, o) ∈ pinsAt fp h := List.mem_filterMap.mpr ⟨b, hb, by rw [e]; rfl⟩
theorem of_pinsAt {fp : List Addr} {h : Heap} {p : Addr × Obj} (hp : p ∈ pinsAt fp h) : p.1 ∈ fp ∧ h.get? p.1 = some p.2 := by
  obtain ⟨b, hb, e⟩ := List.mem_filterMap.mp hp
  cases q : h.get? b with
  | none => rw [q] at e; cases e
  | some o =>
    rw [q] at e
    have e' : (b, o) = p := Option.some.inj e
    subst e'
    exact ⟨hb, q⟩
theorem Inv.pinned {pins : List (Addr × Obj)} {σ : St} {H : Hp} {s : Shared} {fp : List Addr} (I : Inv X pins σ H s) (hf : ∀ b ∈ fp, FpOk X pins H b) (ho : ∀ b ∈ fp, ∃ o, s.heap.get? b = some o ∧ ∀ v, o.data ≠ .cell v) : Inv X (pins ++ pinsAt fp s.heap) σ H s :=
  I.pins_of fun p hp => (List.mem_append.mp hp).elim (fun z => I.pin p (List.mem_append_right _ z)) fun z => by
    obtain ⟨hb, e⟩ := of_pinsAt z
    obtain ⟨f0, f1, f2, _⟩ := hf p.1 hb
    obtain ⟨o, e', d⟩ := ho p.1 hb
    rw [e] at e'; cases e'
    exact ⟨e, f0, f1, f2, d⟩
theorem Inv.unpinned {pins pl : List (Addr × Obj)} {σ : St} {H : Hp} {s : Shared} (I : Inv X (pins ++ pl) σ H s) : Inv X pins σ H s := I.pins_of fun p hp => I.pin p (List.mem_append_right _ (List.mem_append_left _ hp))
theorem ps_for {iter : Expr} {body : List Stmt} {wi : TI} {g : TG} {tb : TS} {pos : Pos} (hp : PassesOwn (model X.prog X.w) X.A X.env X.xe) (hc : X.calm = true) (hi : PI X tg iter wi) (hg : PG X tg g) (hb : PSs X body tb)
    (hs : ∀ x, foldedSetIterable iter X.env x = pure x := by intro _; rfl) : PS X (.For tg iter body [] pos) (tFor wi g tb) := by
  intro pins s σ H D I h
  refine wpAny_For (thn (hi pins s σ H _ I h) fun v s1 h1 => thn h1 fun itv s2 h2 => ?_) hs
  obtain ⟨it, fp, tn, J, H2, e, I2, T, st2, f2, W, ⟨m0, w0⟩, turn⟩ := h2
  subst e
  -- what stays true of the iterator's objects through the loop
  have stat : ∀ {H' : Hp}, (∀ b ∈ fp, H' b = none) → ∀ b ∈ fp, FpOk X pins H' b := fun hn b hb => ⟨hn b hb, (f2 b hb).2⟩
  refine codeAny_forLoop_any (fun n s' => ∃ i σ' H', Inv X pins σ' H' s' ∧ tn i s'.heap ∧ (∀ b ∈ fp, H' b = none) ∧ W i n σ' H') ?_ m0 ⟨0, σ, H2, I2, st2, fun b hb => (f2 b hb).1, w0⟩
  rintro n s3 ⟨i, σ3, H3, I3, st3, fr3, w3⟩
  rcases turn i n σ3 H3 w3 with ⟨stop, qn⟩ | ⟨go, N, hN, step⟩
  · refine wpAny_passesOwn hp (thn (T.done X rfl rfl rfl hc i pins s3 σ3 H3 X.xe I3 (stat fr3) st3 stop) fun r s4 ⟨hr, I4⟩ => ?_)
    subst hr
    exact wpAny_execs_nil ⟨σ3, H3, I4, qn⟩
  · refine wpAny_passesOwn hp (thn (T.item X rfl rfl rfl hc i pins s3 σ3 H3 X.xe I3 (stat fr3) st3 go) fun r s4 ⟨u, hr, h4⟩ => ?_)
    subst hr
    refine wpAny_passesOwn hp (thn h4 fun _ s5 ⟨x, H5, I5, r5, y5, st5, fr5⟩ => ?_)
    have I5' := I5.pinned (stat fr5) (T.obj _ _ st5)
    refine wpAny_passesOwn hp (thn (hg _ s5 σ3 H5 x u _ I5' r5 (step x H5 y5)) fun _ s6 ⟨σ6, H6, I6, q6⟩ => ?_)
    refine wpAny_passesOwn hp (thn (hb _ s6 σ6 H6 _ I6 q6) fun f s7 q7 => ?_)
    have again : ∀ {σ7 : St} {H7 : Hp}, Inv X (pins ++ pinsAt fp s5.heap) σ7 H7 s7 → N σ7 H7 → ∃ m, m < n ∧ ∃ i σ' H', Inv X pins σ' H' s7 ∧ tn i s7.heap ∧ (∀ b ∈ fp, H' b = none) ∧ W i m σ' H' := fun {σ7 H7} I7 n7 => by
      obtain ⟨m', hm, w7⟩ := hN σ7 H7 n7
      refine ⟨m', hm, i + 1, σ7, H7, I7.unpinned, T.keep _ _ _ st5 fun b hb o e => (I7.pin (b, o) (List.mem_append_right _ (List.mem_append_right _ (mem_pinsAt hb e)))).1, fun b hb => ?_, w7⟩
      obtain ⟨o, e, d⟩ := T.obj _ _ st5 b hb
      exact (I7.pin (b, o) (List.mem_append_right _ (List.mem_append_right _ (mem_pinsAt hb e)))).2.1
    cases f with
    | next => obtain ⟨σ7, H7, I7, n7⟩ := q7; exact again I7 n7
    | cont => obtain ⟨σ7, H7, I7, n7⟩ := q7; exact again I7 n7
    | brk => obtain ⟨σ7, H7, I7, q7⟩ := q7; exact ⟨σ7, H7, I7.unpinned, q7⟩
    | ret v => obtain ⟨x7, σ7, H7, I7, r7, q7⟩ := q7; exact ⟨x7, σ7, H7, I7.unpinned, r7, q7⟩
end
/-! ### the forms one uses -/
/-- over a list that the body leaves as it is -/
theorem for_list {K : PySem.W.Frag} {a : Addr} {xs : List V} {g : TG} {tb : TS} {D : Ends} {σ : St} {H : Hp} (Pv : Nat → St → Hp → Prop) (h0 : Pv 0 σ H) (hl : ∀ i σ H, i ≤ xs.length → Pv i σ H → SqL K H a xs)
    (hs : ∀ i x σ H, xs[i]? = some x → Pv i σ H → g x σ H fun σ2 H2 => tb { D with nx := Pv (i + 1), ct := Pv (i + 1), bk := D.nx } σ2 H2) (hd : ∀ σ H, Pv xs.length σ H → D.nx σ H) :
    ∃ W : Nat → Nat → St → Hp → Prop, (∃ m, W 0 m σ H) ∧ ∀ i m σ H, W i m σ H →
      ((Itl K a).stop i H ∧ D.nx σ H) ∨ ((Itl K a).go i H ∧ ∃ N : St → Hp → Prop, (∀ σ' H', N σ' H' → ∃ m', m' < m ∧ W (i + 1) m' σ' H') ∧ ∀ x H', (Itl K a).yld i H x H' → g x σ H' fun σ2 H2 => tb { D with nx := N, ct := N, bk := D.nx } σ2 H2) := by
  refine ⟨fun i m σ H => m = xs.length - i ∧ i ≤ xs.length ∧ Pv i σ H, ⟨xs.length, by simp, Nat.zero_le _, h0⟩, ?_⟩
  rintro i m σ H ⟨rfl, hi, p⟩
  have q := hl i σ H hi p
  by_cases hlt : i < xs.length
  · refine .inr ⟨⟨xs, xs[i], q, by simp [hlt]⟩, Pv (i + 1), fun σ' H' p' => ⟨xs.length - (i + 1), by omega, rfl, hlt, p'⟩, fun x H' y => ?_⟩
    obtain ⟨e, y⟩ := y
    subst e
    exact hs i x σ _ (y xs q) p
  · have e : i = xs.length := by omega
    subst e
    exact .inl ⟨⟨xs, q, Nat.le_refl _⟩, hd σ H p⟩
theorem for_range {lo : Int} {n : Nat} {g : TG} {tb : TS} {D : Ends} {σ : St} {H : Hp} (Pv : Nat → St → Hp → Prop) (h0 : Pv 0 σ H)
    (hs : ∀ i σ H, i < n → Pv i σ H → g (.int (lo + i)) σ H fun σ2 H2 => tb { D with nx := Pv (i + 1), ct := Pv (i + 1), bk := D.nx } σ2 H2) (hd : ∀ σ H, Pv n σ H → D.nx σ H) :
    ∃ W : Nat → Nat → St → Hp → Prop, (∃ m, W 0 m σ H) ∧ ∀ i m σ H, W i m σ H →
      ((Itr lo n).stop i H ∧ D.nx σ H) ∨ ((Itr lo n).go i H ∧ ∃ N : St → Hp → Prop, (∀ σ' H', N σ' H' → ∃ m', m' < m ∧ W (i + 1) m' σ' H') ∧ ∀ x H', (Itr lo n).yld i H x H' → g x σ H' fun σ2 H2 => tb { D with nx := N, ct := N, bk := D.nx } σ2 H2) := by
  refine ⟨fun i m σ H => m = n - i ∧ i ≤ n ∧ Pv i σ H, ⟨n, by simp, Nat.zero_le _, h0⟩, ?_⟩
  rintro i m σ H ⟨rfl, hi, p⟩
  by_cases hlt : i < n
  · refine .inr ⟨hlt, Pv (i + 1), fun σ' H' p' => ⟨n - (i + 1), by omega, rfl, hlt, p'⟩, fun x H' y => ?_⟩
    obtain ⟨e, y⟩ := y
    subst e y
    exact hs i σ _ hlt p
  · have e : i = n := by omega
    subst e
    exact .inl ⟨Nat.le_refl _, hd σ H p⟩
end L2
namespace L2
open PySem PySem.Spec PyProof.Rows
abbrev R2 := V → V → Hp → VK → Prop
/-- a two-place operation on values: f is binaryOp op, inplaceOp op or compareOp op -/
def OpR (X : Cx) (f : Value → Value → Sem Value) (r : R2) : Prop :=
  ∀ (pins : List (Addr × Obj)) (s : Shared) (σ : St) (H : Hp) (x y : V) (v u : Value) (Q : VK), Inv X pins σ H s → RelV x v → RelV y u → r x y H Q →
    wpAny (model X.prog X.w) X.A (f v u) (EP X pins σ Q) X.xe s
/-- a one-place operation -/
def UnR (X : Cx) (f : Value → Sem Value) (r : V → Hp → VK → Prop) : Prop :=
  ∀ (pins : List (Addr × Obj)) (s : Shared) (σ : St) (H : Hp) (x : V) (v : Value) (Q : VK), Inv X pins σ H s → RelV x v → r x H Q →
    wpAny (model X.prog X.w) X.A (f v) (EP X pins σ Q) X.xe s
/-- a call of a value that is known (a builtin, a type) with values -/
def CallR (X : Cx) (f : Value) (r : List V → Hp → VK → Prop) : Prop :=
  ∀ (pins : List (Addr × Obj)) (s : Shared) (σ : St) (H : Hp) (xs : List V) (us : List Value) (Q : VK), Inv X pins σ H s → Vals xs us → r xs H Q →
    wpAny (model X.prog X.w) X.A (call f us) (EP X pins σ Q) X.xe s
def tOp (r : R2) (ta tb : TE) : TE := fun σ H Q => ta σ H fun x H1 => tb σ H1 fun y H2 => r x y H2 Q
def tUn (r : V → Hp → VK → Prop) (ta : TE) : TE := fun σ H Q => ta σ H fun x H1 => r x H1 Q
/-- ints in, under C, and a value out -/
def rI (C : Int → Int → Prop) (g : Int → Int → V) : R2 := fun x y H Q => ∃ i j, x = .int i ∧ y = .int j ∧ C i j ∧ Q (g i j) H
def rI0 (g : Int → Int → V) : R2 := fun x y H Q => ∃ i j, x = .int i ∧ y = .int j ∧ Q (g i j) H
def rU (g : Int → V) : V → Hp → VK → Prop := fun x H Q => ∃ i, x = .int i ∧ Q (g i) H
section
variable {X : Cx} {a b c : Expr} {ta tb tc : TE} {pos : Pos}
theorem binT (ha : PE X a ta) (hb : PE X b tb) {pins : List (Addr × Obj)} {s : Shared} {σ : St} {H : Hp} {R : V → V → Hp → Prop} (I : Inv X pins σ H s)
    (h : ta σ H fun x H1 => tb σ H1 fun y H2 => R x y H2) {Q : Value → Shared → Prop} {f : Value → Value → Sem Value}
    (hf : ∀ v u s2 x y H2, Inv X pins σ H2 s2 → RelV x v → RelV y u → R x y H2 → wpAny (model X.prog X.w) X.A (f v u) Q X.xe s2) :
    wpAny (model X.prog X.w) X.A (eval a X.env) (fun v s₁ => wpAny (model X.prog X.w) X.A (eval b X.env) (fun u s₂ => wpAny (model X.prog X.w) X.A (f v u) Q X.xe s₂) X.xe s₁) X.xe s := by
  refine thn (ha pins s σ H _ I h) fun v s1 ⟨x, H1, I1, r1, q1⟩ => ?_
  refine thn (hb pins s1 σ H1 _ I1 q1) fun u s2 ⟨y, H2, I2, r2, q2⟩ => ?_
  exact hf v u s2 x y H2 I2 r1 r2 q2
theorem pe_op {op : Operator} {r : R2} (ho : OpR X (binaryOp op) r) (ha : PE X a ta) (hb : PE X b tb) : PE X (.BinOp a op b pos) (tOp r ta tb) := by
  intro pins s σ H Q I h
  exact wpAny_BinOp (binT ha hb I h fun v u s2 x y H2 I2 rx ry q => ho pins s2 σ H2 x y v u Q I2 rx ry q)
theorem pe_un {op : UnaryOp} {r : V → Hp → VK → Prop} (ho : UnR X (unaryOp op) r) (ha : PE X a ta) : PE X (.UnaryOp op a pos) (tUn r ta) := by
  intro pins s σ H Q I h
  exact UnaryOp_ (thn (ha pins s σ H _ I h) fun v s1 ⟨x, H1, I1, r1, q1⟩ => ho pins s1 σ H1 x v Q I1 r1 q1)
/-! ### ints -/
theorem opI {f : Value → Value → Sem Value} {C : Int → Int → Prop} {g : Int → Int → Int}
    (rule : ∀ (i j : Int) (t u : Tok) (s : Shared) (Q : Value → Shared → Prop) (E : Value → Shared → Prop), C i j → Q (.int (g i j) s.toks) { s with toks := s.toks + 1 } → wpAny (model X.prog X.w) X.A (f (.int i t) (.int j u)) Q E s) :
    OpR X f (rI C fun i j => .int (g i j)) := by
  intro pins s σ H x y v u Q I rx ry h
  obtain ⟨i, j, rfl, rfl, hc, q⟩ := h
  obtain ⟨t, rfl⟩ := rx
  obtain ⟨t', rfl⟩ := ry
  exact rule i j t t' s _ _ hc ⟨.int (g i j), H, I.tok _, ⟨_, rfl⟩, q⟩
theorem opI0 {f : Value → Value → Sem Value} {g : Int → Int → Int}
    (rule : ∀ (i j : Int) (t u : Tok) (s : Shared) (Q : Value → Shared → Prop) (E : Value → Shared → Prop), Q (.int (g i j) s.toks) { s with toks := s.toks + 1 } → wpAny (model X.prog X.w) X.A (f (.int i t) (.int j u)) Q E s) :
    OpR X f (rI0 fun i j => .int (g i j)) := by
  intro pins s σ H x y v u Q I rx ry h
  obtain ⟨i, j, rfl, rfl, q⟩ := h
  obtain ⟨t, rfl⟩ := rx
  obtain ⟨t', rfl⟩ := ry
  exact rule i j t t' s _ _ ⟨.int (g i j), H, I.tok _, ⟨_, rfl⟩, q⟩
theorem opB0 {f : Value → Value → Sem Value} {g : Int → Int → Bool}
    (rule : ∀ (i j : Int) (t u : Tok) (s : Shared) (Q : Value → Shared → Prop) (E : Value → Shared → Prop), Q (.bool (g i j)) s → wpAny (model X.prog X.w) X.A (f (.int i t) (.int j u)) Q E s) :
    OpR X f (rI0 fun i j => .bl (g i j)) := by
  intro pins s σ H x y v u Q I rx ry h
  obtain ⟨i, j, rfl, rfl, q⟩ := h
  obtain ⟨t, rfl⟩ := rx
  obtain ⟨t', rfl⟩ := ry
  exact rule i j t t' s _ _ ⟨.bl (g i j), H, I, rfl, q⟩
def CPow (i j : Int) : Prop := 0 ≤ j ∧ j ≤ 1000000 ∧ i.natAbs < 2 ^ 64
def CMul (i j : Int) : Prop := (-(2 ^ 64) < i ∧ i < 2 ^ 64) ∨ (-(2 ^ 64) < j ∧ j < 2 ^ 64)
theorem CMul.ok {i j : Int} (h : CMul i j) : IntMulOk i j := by
  rcases h with ⟨h1, h2⟩ | ⟨h1, h2⟩
  · exact .of_left (intBits_le_64 h1 h2)
  · exact .of_right (intBits_le_64 h1 h2)
theorem op_add : OpR X (binaryOp .Add) (rI0 fun i j => .int (i + j)) := opI0 fun _ _ _ _ _ _ _ q => add_int q
theorem op_sub : OpR X (binaryOp .Sub) (rI0 fun i j => .int (i - j)) := opI0 fun _ _ _ _ _ _ _ q => sub_int q
theorem op_mul : OpR X (binaryOp .Mult) (rI CMul fun i j => .int (i * j)) := opI fun _ _ _ _ _ _ _ hc q => mul_int q hc.ok
/-- % by a positive divisor of any size -/
theorem op_mod : OpR X (binaryOp .Mod) (rI (fun _ j => 0 < j) fun i j => .int (i % j)) := opI fun i j _ _ _ _ _ hc q => by
  have h1 : (0 : Int) < j := hc
  exact mod_int' (by omega) (by rw [Int.fmod_eq_emod_of_nonneg i (by omega)]; exact q)
theorem op_pow : OpR X (binaryOp .Pow) (rI CPow fun i j => .int (i ^ j.toNat)) := opI fun _ _ _ _ _ _ _ hc q => pow_int_small hc.1 hc.2.1 hc.2.2 q
theorem unI {f : Value → Sem Value} {g : Int → Int}
    (rule : ∀ (i : Int) (t : Tok) (s : Shared) (Q : Value → Shared → Prop) (E : Value → Shared → Prop), Q (.int (g i) s.toks) { s with toks := s.toks + 1 } → wpAny (model X.prog X.w) X.A (f (.int i t)) Q E s) :
    UnR X f (rU fun i => .int (g i)) := by
  intro pins s σ H x v Q I rx h
  obtain ⟨i, rfl, q⟩ := h
  obtain ⟨t, rfl⟩ := rx
  exact rule i t s _ _ ⟨.int (g i), H, I.tok _, ⟨_, rfl⟩, q⟩
theorem un_neg : UnR X (unaryOp .USub) (rU fun i => .int (-i)) := unI fun _ _ _ _ _ q => neg_int q
/-! ### bools among ints: n += (a < b) -/
end
/-! ### comparisons -/
/-- the scalars that == tells apart as data does -/
def scal : V → V → Bool
  | .non, .non => true | .non, .int _ => true | .int _, .non => true | .non, .bl _ => true | .bl _, .non => true | .non, .str _ => true | .str _, .non => true
  | .int _, .int _ => true | .bl _, .bl _ => true | .str _, .str _ => true | .byt _, .byt _ => true
  | .int _, .str _ => true | .str _, .int _ => true | .bl _, .str _ => true | .str _, .bl _ => true
  | _, _ => false
def rEq : R2 := fun x y H Q => scal x y = true ∧ Q (.bl (decide (x = y))) H
def rNe : R2 := fun x y H Q => scal x y = true ∧ Q (.bl (!decide (x = y))) H
theorem dec_int {i j : Int} : decide (V.int i = V.int j) = (i == j) := by
  rw [Bool.eq_iff_iff]
  simp
theorem dec_bl {i j : Bool} : decide (V.bl i = V.bl j) = (i == j) := by
  rw [Bool.eq_iff_iff]
  simp
theorem dec_str {i j : Str} : decide (V.str i = V.str j) = (i == j) := by
  rw [Bool.eq_iff_iff]
  simp
theorem dec_byt {i j : Array UInt8} : decide (V.byt i = V.byt j) = (i.toList == j.toList) := by
  rw [Bool.eq_iff_iff]
  cases i
  cases j
  simp
section
variable {X : Cx} {a b c : Expr} {ta tb tc : TE} {pos : Pos}
theorem fin_bl {pins : List (Addr × Obj)} {σ : St} {H : Hp} {s : Shared} {Q : VK} {k k' : Bool} (I : Inv X pins σ H s) (q : Q (.bl k) H) (e : k = k') : EP X pins σ Q (.bool k') s := by
  subst e
  exact ⟨.bl k, H, I, rfl, q⟩
theorem op_eq : OpR X (compareOp .Eq) rEq := by
  intro pins s σ H x y v u Q I rx ry h
  obtain ⟨hs, q⟩ := h
  cases x with
  | non =>
    cases rx
    cases y with
    | non => cases ry; exact PySem.EqNone.eq_none_none (fin_bl I q (by simp))
    | bl j => cases ry; exact PySem.EqNone.eq_none_bool (fin_bl I q (by simp))
    | int j => obtain ⟨t', rfl⟩ := ry; exact PySem.EqNone.eq_none_int (fin_bl I q (by simp))
    | str j => obtain ⟨t', rfl⟩ := ry; exact PySem.EqNone.eq_none_str (fin_bl I q (by simp))
    | _ => exact absurd (show false = true from hs) Bool.false_ne_true
  | bl i =>
    cases rx
    cases y with
    | non => cases ry; exact PySem.EqNone.eq_bool_none (fin_bl I q (by simp))
    | bl j => cases ry; exact eq_bool (fin_bl I q dec_bl)
    | str j => obtain ⟨t', rfl⟩ := ry; exact PySem.EqMixed.eq_bool_str (fin_bl I q (by simp))
    | _ => exact absurd (show false = true from hs) Bool.false_ne_true
  | int i =>
    obtain ⟨t, rfl⟩ := rx
    cases y with
    | non => cases ry; exact PySem.EqNone.eq_int_none (fin_bl I q (by simp))
    | int j => obtain ⟨t', rfl⟩ := ry; exact eq_int (fin_bl I q dec_int)
    | str j => obtain ⟨t', rfl⟩ := ry; exact PySem.EqMixed.eq_int_str (fin_bl I q (by simp))
    | _ => exact absurd (show false = true from hs) Bool.false_ne_true
  | str i =>
    obtain ⟨t, rfl⟩ := rx
    cases y with
    | non => cases ry; exact PySem.EqNone.eq_str_none (fin_bl I q (by simp))
    | bl j => cases ry; exact PySem.EqMixed.eq_str_bool (fin_bl I q (by simp))
    | int j => obtain ⟨t', rfl⟩ := ry; exact PySem.EqMixed.eq_str_int (fin_bl I q (by simp))
    | str j => obtain ⟨t', rfl⟩ := ry; exact eq_str (fin_bl I q dec_str)
    | _ => exact absurd (show false = true from hs) Bool.false_ne_true
  | byt i =>
    obtain ⟨t, rfl⟩ := rx
    cases y with
    | byt j => obtain ⟨t', rfl⟩ := ry; exact PySem.W.eq_bytes (fin_bl I q dec_byt)
    | _ => exact absurd (show false = true from hs) Bool.false_ne_true
  | _ => cases y <;> exact absurd (show false = true from hs) Bool.false_ne_true
theorem op_ne : OpR X (compareOp .NotEq) rNe := by
  intro pins s σ H x y v u Q I rx ry h
  obtain ⟨hs, q⟩ := h
  cases x with
  | non =>
    cases rx
    cases y with
    | non => cases ry; exact PySem.EqNone.ne_none_none (fin_bl I q (by simp))
    | bl j => cases ry; exact PySem.EqNone.ne_none_bool (fin_bl I q (by simp))
    | int j => obtain ⟨t', rfl⟩ := ry; exact PySem.EqNone.ne_none_int (fin_bl I q (by simp))
    | str j => obtain ⟨t', rfl⟩ := ry; exact PySem.EqNone.ne_none_str (fin_bl I q (by simp))
    | _ => exact absurd (show false = true from hs) Bool.false_ne_true
  | bl i =>
    cases rx
    cases y with
    | non => cases ry; exact PySem.EqNone.ne_bool_none (fin_bl I q (by simp))
    | bl j => cases ry; exact ne_bool (fin_bl I q (congrArg not dec_bl))
    | str j => obtain ⟨t', rfl⟩ := ry; exact PySem.EqMixed.ne_bool_str (fin_bl I q (by simp))
    | _ => exact absurd (show false = true from hs) Bool.false_ne_true
  | int i =>
    obtain ⟨t, rfl⟩ := rx
    cases y with
    | non => cases ry; exact PySem.EqNone.ne_int_none (fin_bl I q (by simp))
    | int j => obtain ⟨t', rfl⟩ := ry; exact ne_int (fin_bl I q (congrArg not dec_int))
    | str j => obtain ⟨t', rfl⟩ := ry; exact PySem.EqMixed.ne_int_str (fin_bl I q (by simp))
    | _ => exact absurd (show false = true from hs) Bool.false_ne_true
  | str i =>
    obtain ⟨t, rfl⟩ := rx
    cases y with
    | non => cases ry; exact PySem.EqNone.ne_str_none (fin_bl I q (by simp))
    | bl j => cases ry; exact PySem.EqMixed.ne_str_bool (fin_bl I q (by simp))
    | int j => obtain ⟨t', rfl⟩ := ry; exact PySem.EqMixed.ne_str_int (fin_bl I q (by simp))
    | str j => obtain ⟨t', rfl⟩ := ry; exact ne_str (fin_bl I q (congrArg not dec_str))
    | _ => exact absurd (show false = true from hs) Bool.false_ne_true
  | byt i =>
    obtain ⟨t, rfl⟩ := rx
    cases y with
    | byt j => obtain ⟨t', rfl⟩ := ry; exact PySem.W.ne_bytes (fin_bl I q (congrArg not dec_byt))
    | _ => exact absurd (show false = true from hs) Bool.false_ne_true
  | _ => cases y <;> exact absurd (show false = true from hs) Bool.false_ne_true
theorem op_lt : OpR X (compareOp .Lt) (rI0 fun i j => .bl (decide (i < j))) := opB0 fun _ _ _ _ _ _ _ q => lt_int q
theorem op_le : OpR X (compareOp .LtE) (rI0 fun i j => .bl (decide (i ≤ j))) := opB0 fun _ _ _ _ _ _ _ q => le_int q
theorem op_gt : OpR X (compareOp .Gt) (rI0 fun i j => .bl (decide (j < i))) := opB0 fun _ _ _ _ _ _ _ q => gt_int q
theorem op_ge : OpR X (compareOp .GtE) (rI0 fun i j => .bl (decide (j ≤ i))) := opB0 fun _ _ _ _ _ _ _ q => ge_int q
/-- is None, is not None: the right side a value none -/
theorem op_isN : OpR X (compareOp .Is) (fun x y H Q => y = .non ∧ Q (.bl (decide (x = .non))) H) := by
  intro pins s σ H x y v u Q I rx ry h
  obtain ⟨rfl, q⟩ := h
  cases ry
  refine is_none_gen (fin_bl I q ?_)
  cases x <;> first
    | (cases rx; rfl)
    | (obtain ⟨t, rfl⟩ := rx; rfl)
theorem op_notN : OpR X (compareOp .IsNot) (fun x y H Q => y = .non ∧ Q (.bl (!decide (x = .non))) H) := by
  intro pins s σ H x y v u Q I rx ry h
  obtain ⟨rfl, q⟩ := h
  cases ry
  refine isnot_none_gen (fin_bl I q ?_)
  cases x <;> first
    | (cases rx; rfl)
    | (obtain ⟨t, rfl⟩ := rx; rfl)
/-- two rules for one operation: by cases -/
theorem OpR.or {f : Value → Value → Sem Value} {r r' : R2} (h : OpR X f r) (h' : OpR X f r') : OpR X f (fun x y H Q => r x y H Q ∨ r' x y H Q) := by
  intro pins s σ H x y v u Q I rx ry q
  rcases q with q | q
  · exact h pins s σ H x y v u Q I rx ry q
  · exact h' pins s σ H x y v u Q I rx ry q
theorem nomark (b : Expr) {op : CmpOp} (h : op ≠ .In := by decide) (h2 : op ≠ .NotIn := by decide) : behindInMarks op b = false := by
  have e1 : (op == CmpOp.In) = false := by cases op <;> first | rfl | exact absurd rfl h
  have e2 : (op == CmpOp.NotIn) = false := by cases op <;> first | rfl | exact absurd rfl h2
  cases b <;> simp [behindInMarks, e1, e2]
/-- a comparison as a value; hm: nomark b, or (for in, not in) by with_unfolding_all rfl -/
theorem pe_cmpR {op : CmpOp} {r : R2} (ho : OpR X (compareOp op) r) (ha : PE X a ta) (hb : PE X b tb) (hm : behindInMarks op b = false) : PE X (.Compare a [op] [b] pos) (tOp r ta tb) := by
  intro pins s σ H Q I h
  exact wpAny_Compare1 (binT ha hb I h fun v u s2 x y H2 I2 rx ry q => ho pins s2 σ H2 x y v u Q I2 rx ry q) hm
/-- a reading of a value as a test -/
def tTest (t : TE) : TT := fun σ H Q => t σ H fun x H' => ∃ k, x = .bl k ∧ Q k H'
theorem pt_cmpR {op : CmpOp} {r : R2} (ho : OpR X (compareOp op) r) (ha : PE X a ta) (hb : PE X b tb) (hm : behindInMarks op b = false) : PT X (.Compare a [op] [b] pos) (tTest (tOp r ta tb)) := by
  intro pins s σ H Q I h
  refine wpAny_isTrue_Compare1 (thn (ha pins s σ H _ I h) fun v s1 ⟨x, H1, I1, r1, q1⟩ => thn (hb pins s1 σ H1 _ I1 q1) fun u s2 ⟨y, H2, I2, r2, q2⟩ =>
    thn (ho pins s2 σ H2 x y v u _ I2 r1 r2 q2) fun c s3 ⟨z, H3, I3, r3, k, e, q3⟩ => ?_) hm
  subst e
  cases r3
  exact wpAny_truthy_bool ⟨H3, I3, q3⟩
/-- a op1 b op2 c -/
def tChain (r r' : R2) (ta tb tc : TE) : TE := fun σ H Q => ta σ H fun x H1 => tb σ H1 fun y H2 => r x y H2 fun z H3 => ∃ k, z = .bl k ∧
  (if k = true then tc σ H3 fun w' H4 => r' y w' H4 Q else Q (.bl false) H3)
theorem pe_chain {op op' : CmpOp} {r r' : R2} (ho : OpR X (compareOp op) r) (ho' : OpR X (compareOp op') r') (ha : PE X a ta) (hb : PE X b tb) (hc : PE X c tc)
    (hm : lastMarks [op, op'] [b, c] = false := by with_unfolding_all rfl) : PE X (.Compare a [op, op'] [b, c] pos) (tChain r r' ta tb tc) := by
  intro pins s σ H Q I h
  refine Compare_chain (thn (ha pins s σ H _ I h) fun v s1 ⟨x, H1, I1, r1, q1⟩ => chain_link (thn (hb pins s1 σ H1 _ I1 q1) fun u s2 ⟨y, H2, I2, r2, q2⟩ =>
    thn (ho pins s2 σ H2 x y v u _ I2 r1 r2 q2) fun d s3 ⟨z, H3, I3, r3, k, e, q3⟩ => ?_)) hm
  subst e
  cases r3
  refine wpAny_truthy_bool ?_
  cases k with
  | false => exact ite_ff ⟨.bl false, H3, I3, rfl, q3⟩
  | true => exact ite_tt (chain_last (thn (hc pins s3 σ H3 _ I3 q3) fun w' s4 ⟨z', H4, I4, r4, q4⟩ => ho' pins s4 σ H4 y z' u w' Q I4 r2 r4 q4))
theorem pt_chain {op op' : CmpOp} {r r' : R2} (ho : OpR X (compareOp op) r) (ho' : OpR X (compareOp op') r') (ha : PE X a ta) (hb : PE X b tb) (hc : PE X c tc)
    (hm : lastMarks [op, op'] [b, c] = false := by with_unfolding_all rfl) : PT X (.Compare a [op, op'] [b, c] pos) (tTest (tChain r r' ta tb tc)) := by
  intro pins s σ H Q I h
  refine isTrue_chain (thn (ha pins s σ H _ I h) fun v s1 ⟨x, H1, I1, r1, q1⟩ => test_link (thn (hb pins s1 σ H1 _ I1 q1) fun u s2 ⟨y, H2, I2, r2, q2⟩ =>
    thn (ho pins s2 σ H2 x y v u _ I2 r1 r2 q2) fun d s3 ⟨z, H3, I3, r3, k, e, q3⟩ => ?_)) hm
  subst e
  cases r3
  refine wpAny_truthy_bool ?_
  cases k with
  | false =>
    obtain ⟨k', e', q'⟩ := q3
    cases e'
    exact ite_ff ⟨H3, I3, q'⟩
  | true =>
    refine ite_tt (test_last (thn (hc pins s3 σ H3 _ I3 q3) fun w' s4 ⟨z', H4, I4, r4, q4⟩ => thn (ho' pins s4 σ H4 y z' u w' _ I4 r2 r4 q4) fun d' s5 ⟨z2, H5, I5, r5, k2, e2, q5⟩ => ?_))
    subst e2
    cases r5
    exact wpAny_truthy_bool ⟨H5, I5, q5⟩
/-! ### truth -/
theorem line63 : (sizeLine : Nat) < 2 ^ 63 := by rw [sizeLine_eq]; decide
/-! ### strs and bytes -/
/-! ### scalar builtins, by CallR -/
theorem vals1 {x : V} {us : List Value} (r : Vals [x] us) : ∃ u, us = [u] ∧ RelV x u := by
  cases r with
  | cons r1 r2 => cases r2; exact ⟨_, rfl, r1⟩
theorem vals2 {x y : V} {us : List Value} (r : Vals [x, y] us) : ∃ u w', us = [u, w'] ∧ RelV x u ∧ RelV y w' := by
  cases r with
  | cons r1 r2 =>
    cases r2 with
    | cons r3 r4 => cases r4; exact ⟨_, _, rfl, r1, r3⟩
theorem call_abs : CallR X (.builtin "abs") (fun xs H Q => ∃ i, xs = [.int i] ∧ Q (.int (if i < 0 then -i else i)) H) := by
  intro pins s σ H xs us Q I r h
  obtain ⟨i, rfl, q⟩ := h
  obtain ⟨u, rfl, t, rfl⟩ := vals1 r
  exact call_abs_int fun u tk => ⟨.int (if i < 0 then -i else i), H, I.tok _, ⟨_, rfl⟩, q⟩
theorem call_min2 (hc : X.calm = true) : CallR X (.builtin "min") (fun xs H Q => ∃ i j, xs = [.int i, .int j] ∧ Q (.int (if j < i then j else i)) H) := by
  intro pins s σ H xs us Q I r h
  obtain ⟨i, j, rfl, q⟩ := h
  obtain ⟨u, w', rfl, ⟨t, rfl⟩, ⟨t', rfl⟩⟩ := vals2 r
  refine min_two_ints (I.ok.hd hc) fun h' tk k => ⟨_, H, I.kept k, ?_, q⟩
  by_cases hj : j < i
  · rw [if_pos hj, if_pos hj]; exact ⟨_, rfl⟩
  · rw [if_neg hj, if_neg hj]; exact ⟨_, rfl⟩
theorem call_int1 : CallR X (.type "int") (fun xs H Q => (∃ i, xs = [.int i] ∧ Q (.int i) H) ∨ ∃ k, xs = [.bl k] ∧ Q (.int (if k then 1 else 0)) H) := by
  intro pins s σ H xs us Q I r h
  rcases h with ⟨i, rfl, q⟩ | ⟨k, rfl, q⟩
  · obtain ⟨u, rfl, t, rfl⟩ := vals1 r
    exact call_int_int ⟨.int i, H, I, ⟨_, rfl⟩, q⟩
  · obtain ⟨u, rfl, r1⟩ := vals1 r
    cases r1
    exact call_int_bool ⟨.int (if k then 1 else 0), H, I.tok _, ⟨_, rfl⟩, q⟩
end
end L2
namespace L2
open PySem PySem.Spec PyProof.Rows
/-! ### an instance, its attributes a map -/
structure ObjM (h : Heap) (x dx C : Addr) (mA : Str → Option Value) : Prop where
  obj : h.get? x = some (PySem.W.instObj C dx)
  ns : h.Ns1 dx mA
  ne : dx ≠ x
theorem lookIn_ns {h : Heap} {dx : Addr} {mA : Str → Option Value} (n : h.Ns1 dx mA) : ∃ od, h.get? dx = some od ∧ ∀ name, PySem.W.lookIn name od = some (mA name) := by
  obtain ⟨o, es, ep, ho, hd, hk, _, hm⟩ := n
  refine ⟨o, ho, fun name => ?_⟩
  have e := hm name
  unfold nsFind findBy at e
  rw [← Array.find?_toList] at e
  unfold PySem.W.lookIn
  rw [hd]
  dsimp only
  split
  · rename_i y q
    rw [q] at e
    exact congrArg some e
  · rename_i q
    rw [q] at e
    have a : es.toList.any (·.refKey) = false := by
      rw [List.any_eq_false]
      intro y hy
      obtain ⟨z, t, hkey⟩ := hk y (Array.mem_toList_iff.mp hy)
      simp [DictEntry.refKey, hkey]
    have a' : ¬ es.toList.any (·.refKey) = true := by rw [a]; exact Bool.false_ne_true
    rw [if_neg a']
    exact congrArg some e
theorem ObjM.look {h : Heap} {x dx C : Addr} {mA : Str → Option Value} (I : ObjM h x dx C mA) : ∃ od, PySem.W.InstAt h x (PySem.W.instObj C dx) C (some od) ∧ ∀ name, PySem.W.lookIn name od = some (mA name) :=
  let ⟨od, ho, hl⟩ := lookIn_ns I.ns
  ⟨od, ⟨I.obj, rfl, rfl, ho⟩, hl⟩
section
variable {prog : Program} {w : World} {A : Around} {E : Value → Shared → Prop} {s : Shared} {K : PySem.W.Frag} {x dx C f : Addr} {mA : Str → Option Value} {name : Str} {v : Value}
theorem get_map {expr : Bool} {Q : Value → Shared → Prop} (X : K.In s.heap) (I : ObjM s.heap x dx C mA) (hg : PySem.W.plainGet K C name = true) (hh : PySem.W.hasDictIn K C = true)
    (ha : PySem.W.findIn K (.ref C) name = some none) (hv : mA name = some v) (hv' : PySem.W.handedIn v = true) (h : Q v { s with toks := s.toks + 1 }) :
    wpAny (model prog w) A (getAttr (.ref x) name expr) Q E s := by
  obtain ⟨od, J, hl⟩ := I.look
  exact PySem.W.get_value X J (PySem.W.plainGet_of hg).1 (PySem.W.findObj_own hh ha rfl (by rw [hl, hv])) hv' h
theorem get_meth {pl : Sem Bool} {Q : Value × List Value → Shared → Prop} (X : K.In s.heap) (I : ObjM s.heap x dx C mA) (hg : PySem.W.plainGet K C name = true)
    (hf : PySem.W.findIn K (.ref C) name = some (some (.ref f))) (ht : PySem.W.isFn K (.ref f) = true) (hv : mA name = none) (h : Q (.ref f, [.ref x]) s) :
    wpAny (model prog w) A (getMethod (.ref x) name pl) Q E s := by
  obtain ⟨od, J, hl⟩ := I.look
  exact PySem.W.method_fn X J (PySem.W.plainGet_of hg).1 (PySem.W.plainGet_of hg).2 hf (beq_iff_eq.mp ht) (by show (PySem.W.lookIn name od).map (·.isSome) = some false; rw [hl, hv]; rfl) h
theorem set_map {ns : List Str} {Q : Unit → Shared → Prop} (X : K.In s.heap) (I : ObjM s.heap x dx C mA)
    (hs : PySem.W.findIn K (.ref C) "__setattr__" = some (some (.builtin "object.__setattr__"))) (hp : PySem.W.plainOver K C = true) (ht : PySem.W.takerIn K C name = some none) (hh : PySem.W.hasDictIn K C = true)
    (hw : PySem.Within mA ns) (hsz : ns.length ≤ sizeLine)
    (h : ∀ h', ObjM h' x dx C (fun y => if y = name then some v else mA y) → Heap.SameBut dx s.heap h' → Q () { s with heap := h', toks := s.toks + 2 }) :
    wpAny (model prog w) A (setAttr (.ref x) name v) Q E s := by
  obtain ⟨od, J, hl⟩ := I.look
  refine PySem.W.set_plain X J hs (PySem.W.osa_open (s := { s with toks := s.toks + 1 }) (r := none) X J hp ht fun b => ?_)
  obtain ⟨cd, hc, hd'⟩ := PySem.W.any_some hh
  have hx : s.heap.get? x = some ⟨.ref C, some dx, .plain, #[]⟩ := I.obj
  refine wpAny_bind (wpAny_pure (wpAny_bind (wpAny_bind (wpAny_loadPart hx (wpAny_bind (PySem.W.Looks.here (s := { s with toks := s.toks + 1 }) (PySem.W.looks_clsIn X hc) ?_))))))
  rw [hd']
  refine wpAny_pure (a := some dx) (wpAny_bind (wpAny_pure (wpAny_bind ?_)))
  refine wpAny_nsSet1 (s := { s with toks := s.toks + 1 }) I.ns fun h' hn2 hs2 => ?_
  obtain ⟨oD, esD, epD, hoD, hdD, hcD⟩ := hn2.count (PySem.Within.cons name v hw)
  refine wpAny_bind (wpAny_lookBehind hoD (by rw [hdD]; exact pastItsLine_dict (Nat.le_trans hcD (by rw [List.length_cons]; omega))) ?_)
  exact wpAny_pure (h _ ⟨(hs2.2 _ (Ne.symm I.ne)).trans I.obj, hn2, I.ne⟩ hs2)
/-- C(..): the dict at the heap's end, the instance behind it; then its __init__ -/
theorem make_map {R : Result → Shared → Prop} {vs : List Value} {kw : List (Str × Value)} (X : K.In s.heap) (hm : PySem.W.makesIn K C = true)
    (hi : PySem.W.findIn K (.ref C) "__init__" = some (some (.ref f))) (hf : PySem.W.typeIn K (.ref f) = some (.type "function"))
    (h : codeAny (model prog w) (A.under (.builtin "type.__call__" ⟨.ref C :: vs, kw⟩)) (.call (.ref f) ⟨.ref (s.heap.objs.size + 1) :: vs, kw⟩) (PySem.W.InitBack (s.heap.objs.size + 1) R)
      { s with heap := (s.heap.push PySem.W.emptyDict).push (PySem.W.instObj C s.heap.objs.size) }) :
    codeAny (model prog w) A (.call (.ref C) ⟨vs, kw⟩) R s := by
  obtain ⟨hh, g, d, t, os⟩ := s
  exact PySem.W.make_core (PySem.W.makes_of X hm) (PySem.W.looks_findIn X hi) (fun self => PySem.W.bind_fn X self hf) (.inl rfl) h
end
/-! ### the attributes as a list of pairs -/
def putF (f : Str) (v : V) : List (Str × V) → List (Str × V)
  | [] => [(f, v)]
  | (g, x) :: r => if g = f then (g, v) :: r else (g, x) :: putF f v r
theorem lookup_putF (f g : Str) (v : V) : ∀ fs : List (Str × V), (putF f v fs).lookup g = if g = f then some v else fs.lookup g
  | [] => by
    show List.lookup g [(f, v)] = _
    by_cases h : g = f
    · have hb : (g == f) = true := beq_iff_eq.mpr h
      simp only [List.lookup, hb, if_pos h]
    · have hb : (g == f) = false := beq_eq_false_iff_ne.mpr h
      simp only [List.lookup, hb, if_neg h]
  | (k, x) :: r => by
    have ih := lookup_putF f g v r
    rw [show putF f v ((k, x) :: r) = (if k = f then (k, v) :: r else (k, x) :: putF f v r) from rfl]
    by_cases hk : k = f
    · rw [if_pos hk]
      by_cases h : g = k
      · have hb : (g == k) = true := beq_iff_eq.mpr h
        simp only [List.lookup, hb, if_pos (h.trans hk)]
      · have hb : (g == k) = false := beq_eq_false_iff_ne.mpr h
        simp only [List.lookup, hb, if_neg (fun e : g = f => h (e.trans hk.symm))]
    · rw [if_neg hk]
      by_cases h : g = k
      · have hb : (g == k) = true := beq_iff_eq.mpr h
        simp only [List.lookup, hb, if_neg (fun e : g = f => hk (h.symm.trans e))]
      · have hb : (g == k) = false := beq_eq_false_iff_ne.mpr h
        simp only [List.lookup, hb]
        exact ih
theorem keys_putF (f : Str) (v : V) : ∀ fs : List (Str × V), f ∈ (putF f v fs).map (·.1) ∧ ∀ g, g ∈ fs.map (·.1) → g ∈ (putF f v fs).map (·.1)
  | [] => ⟨by simp [putF], fun g h => by simp at h⟩
  | (k, x) :: r => by
    obtain ⟨i1, i2⟩ := keys_putF f v r
    rw [show putF f v ((k, x) :: r) = (if k = f then (k, v) :: r else (k, x) :: putF f v r) from rfl]
    by_cases hk : k = f
    · rw [if_pos hk]
      subst hk
      exact ⟨by simp, fun g h => by simpa using h⟩
    · rw [if_neg hk]
      refine ⟨?_, fun g h => ?_⟩
      · rw [List.map_cons]
        exact List.mem_cons_of_mem _ i1
      · rw [List.map_cons] at h ⊢
        rcases List.mem_cons.mp h with e | e
        · exact List.mem_cons.mpr (.inl e)
        · exact List.mem_cons_of_mem _ (i2 g e)
theorem length_putF (f : Str) (v : V) : ∀ fs : List (Str × V), (putF f v fs).length ≤ fs.length + 1
  | [] => by simp [putF]
  | (k, x) :: r => by
    have ih := length_putF f v r
    rw [show putF f v ((k, x) :: r) = (if k = f then (k, v) :: r else (k, x) :: putF f v r) from rfl]
    by_cases hk : k = f
    · rw [if_pos hk, List.length_cons, List.length_cons]; omega
    · rw [if_neg hk, List.length_cons, List.length_cons]; omega
theorem RelO.some_of {v : V} {o : Option Value} (r : RelO (some v) o) : ∃ u, o = some u ∧ RelV v u := by
  cases o with
  | none => exact (show False from r).elim
  | some u => exact ⟨u, rfl, r⟩
theorem RelO.none_of {o : Option Value} (r : RelO none o) : o = none := by
  cases o with
  | none => rfl
  | some u => exact (show False from r).elim
theorem handed_of {v : V} {u : Value} (r : RelV v u) : PySem.W.handedIn u = true := by
  cases v with
  | non => cases (show u = Value.none from r); rfl
  | bl b => cases (show u = Value.bool b from r); rfl
  | int i => obtain ⟨t, e⟩ := (show ∃ t, u = Value.int i t from r); cases e; rfl
  | str x => obtain ⟨t, e⟩ := (show ∃ t, u = Value.str x t from r); cases e; rfl
  | byt b => obtain ⟨t, e⟩ := (show ∃ t, u = Value.bytes b t from r); cases e; rfl
  | flt b => obtain ⟨t, e⟩ := (show ∃ t, u = Value.float b t from r); cases e; rfl
  | ref a => cases (show u = Value.ref a from r); rfl
  | ty n => cases (show u = Value.type n from r); rfl
section
variable {P : Program} {w : World} {H H' : Hp} {h h' : Heap} {a C dx : Addr} {fs fs' : List (Str × V)}
theorem ins_get (hok : HOk P w H h) (e : H a = some (.ins C dx fs)) : ∃ mA, ObjM h a dx C mA ∧ (∀ f, RelO (fs.lookup f) (mA f)) ∧ PySem.Within mA (fs.map (·.1)) ∧ fs.length ≤ 1000 ∧ H dx = some (.own a) := by
  obtain ⟨d, z, ne, ob, mA, n, r, q⟩ := (show ObjOk P w H h a (.ins C dx fs) from hok a _ e)
  exact ⟨mA, ⟨ob, n, ne⟩, r, q, z, d⟩
end
/-! ### what of the text a class must have -/
structure Cls (K : PySem.W.Frag) (C : Addr) : Prop where
  pg : PySem.W.plainGet K C Str.empty = true
  hd : PySem.W.hasDictIn K C = true
  po : PySem.W.plainOver K C = true
  sa : PySem.W.findIn K (.ref C) "__setattr__" = some (some (.builtin "object.__setattr__"))
theorem Cls.get {K : PySem.W.Frag} {C : Addr} (c : Cls K C) (f : Str) : PySem.W.plainGet K C f = true := c.pg
/-- no class of it has the name -/
def NoAttr (K : PySem.W.Frag) (C : Addr) (f : Str) : Prop := PySem.W.findIn K (.ref C) f = some none
theorem NoAttr.taker {K : PySem.W.Frag} {C : Addr} {f : Str} (n : NoAttr K C f) : PySem.W.takerIn K C f = some none := by
  unfold PySem.W.takerIn
  rw [show PySem.W.findIn K (.ref C) f = some none from n]
  rfl
/-- a method: a plain def of the class or of one above it -/
structure Meth (K : PySem.W.Frag) (C : Addr) (m : Str) (f : Addr) : Prop where
  at_ : PySem.W.findIn K (.ref C) m = some (some (.ref f))
  fn : PySem.W.isFn K (.ref f) = true
  kp : PySem.W.keepIn K (.ref f) = true
section
variable {X : Cx} {pins : List (Addr × Obj)} {σ : St} {H : Hp} {s : Shared} {a C dx : Addr} {fs : List (Str × V)} {f : Str} {v : V} {A : Around} {E : Value → Shared → Prop}
theorem getattr_ok {b : Bool} {Q : Value → Shared → Prop} (I : Inv X pins σ H s) (e : H a = some (.ins C dx fs)) (c : Cls X.K C) (n : NoAttr X.K C f) (l : fs.lookup f = some v)
    (h : ∀ u s', Inv X pins σ H s' → RelV v u → Q u s') : wpAny (model X.prog X.w) A (getAttr (.ref a) f b) Q E s := by
  obtain ⟨mA, O, r, _, _, _⟩ := ins_get I.hok e
  obtain ⟨u, hu, ru⟩ := RelO.some_of (v := v) (o := mA f) (by rw [← l]; exact r f)
  exact get_map I.kIn O (c.get f) c.hd n hu (handed_of ru) (h u _ (I.tok _) ru)
theorem getmeth_ok {m : Str} {g : Addr} {pl : Sem Bool} {Q : Value × List Value → Shared → Prop} (I : Inv X pins σ H s) (e : H a = some (.ins C dx fs)) (c : Cls X.K C) (k : Meth X.K C m g) (l : fs.lookup m = none)
    (h : Q (.ref g, [.ref a]) s) : wpAny (model X.prog X.w) A (getMethod (.ref a) m pl) Q E s := by
  obtain ⟨mA, O, r, _, _, _⟩ := ins_get I.hok e
  have hn : mA m = none := RelO.none_of (by rw [← l]; exact r m)
  exact get_meth I.kIn O (c.get m) k.at_ k.fn hn h
theorem setattr_ok {y : V} {u : Value} {Q : Unit → Shared → Prop} (I : Inv X pins σ H s) (e : H a = some (.ins C dx fs)) (c : Cls X.K C) (n : NoAttr X.K C f) (hl : fs.length < 1000) (ry : RelV y u)
    (h : ∀ s', Inv X pins σ (upd H a (.ins C dx (putF f y fs))) s' → Q () s') : wpAny (model X.prog X.w) A (setAttr (.ref a) f u) Q E s := by
  obtain ⟨mA, O, r, wi, _, ho⟩ := ins_get I.hok e
  have hz : (fs.map (·.1)).length ≤ sizeLine := by rw [List.length_map, sizeLine_eq]; omega
  refine set_map I.kIn O c.sa c.po n.taker c.hd wi hz fun h' O' sb => h _ ?_
  have hd : ∃ o, h'.get? dx = some o := let ⟨o, _, _, e', _⟩ := O'.ns; ⟨o, e'⟩
  refine I.write (x := a) (e := dx) (by rw [e]; exact True.intro) (.inr ho) (fun b q hb z => (sb.2 b hb).trans z) hd ?_
  refine ⟨by rw [upd_ne O.ne]; exact ho, ?_, O.ne, O'.obj, _, O'.ns, fun g => ?_, fun g hg => ?_⟩
  · have := length_putF f y fs; omega
  · show RelO ((putF f y fs).lookup g) (if g = f then some u else mA g)
    rw [lookup_putF]
    by_cases q : g = f
    · rw [if_pos q, if_pos q]; exact ry
    · rw [if_neg q, if_neg q]; exact r g
  · by_cases q : g = f
    · rw [q]; exact (keys_putF f y fs).1
    · refine (keys_putF f y fs).2 g (wi g fun z => hg ?_)
      show (if g = f then some u else mA g) = none
      rw [if_neg q]; exact z
/-- a new instance, tracked, without attributes -/
theorem Inv.made (I : Inv X pins σ H s) : Inv X pins σ (upd (upd H s.heap.objs.size (.own (s.heap.objs.size + 1))) (s.heap.objs.size + 1) (.ins C s.heap.objs.size []))
    { s with heap := (s.heap.push PySem.W.emptyDict).push (PySem.W.instObj C s.heap.objs.size) } := by
  have e1 : (s.heap.push PySem.W.emptyDict).get? s.heap.objs.size = some PySem.W.emptyDict := Heap.get?_push_size s.heap rfl
  have e2 : ((s.heap.push PySem.W.emptyDict).push (PySem.W.instObj C s.heap.objs.size)).get? (s.heap.objs.size + 1) = some (PySem.W.instObj C s.heap.objs.size) := by
    have := Heap.get?_push_size (s.heap.push PySem.W.emptyDict) (o := PySem.W.instObj C s.heap.objs.size) rfl
    rwa [Heap.size_push] at this
  have e3 : (s.heap.push PySem.W.emptyDict).Ns s.heap.objs.size (fun _ => none) := ⟨PySem.W.emptyDict, #[], _, e1, rfl, (fun e he => absurd he (by simp)), fun _ => rfl⟩
  have I1 := I.laid (a := s.heap.objs.size) (o := .own (s.heap.objs.size + 1)) (h' := s.heap.push PySem.W.emptyDict) (t' := s.toks) (fun b u q => Heap.get?_push_of_some _ q) (Nat.le_refl _) ⟨_, e1⟩
  refine I1.laid (a := s.heap.objs.size + 1) (o := .ins C s.heap.objs.size []) (t' := s.toks) (fun b u q => Heap.get?_push_of_some _ q) (Nat.le_of_eq (Heap.size_push _ _)) ?_
  have ne : s.heap.objs.size ≠ s.heap.objs.size + 1 := Nat.ne_of_lt (Nat.lt_succ_self _)
  refine ⟨by rw [upd_ne ne, upd_same], Nat.zero_le _, ne, e2, fun _ => none, (Heap.Ns1.of_empty e3).at fun o q => Heap.get?_push_of_some _ q, fun _ => True.intro, fun y hy => absurd rfl hy⟩
/-- e.f where nothing but the object is asked: through attributeBase (super) and the last hold -/
theorem attr_of {prog : Program} {w : World} {env : Env} {e : Expr} {f : Str} {pos : Pos} {s : Shared} {Q : Value → Shared → Prop} (hb : attributeBase e f env (eval e env) = eval e env)
    (h : wpAny (model prog w) A (eval e env) (fun o s₁ => wpAny (model prog w) A (getAttr o f true) Q E s₁) E s) : wpAny (model prog w) A (eval (.Attribute e f pos) env) Q E s :=
  Attribute_any_ h (by rw [arm_eval_Attribute, hb])
end
/-! ### readings and rules -/
/-- e.f, an attribute of the instance -/
def tFld (K : PySem.W.Frag) (ta : TE) (f : Str) : TE := fun σ H Q => ta σ H fun x H1 => ∃ a C dx fs v, x = .ref a ∧ H1 a = some (.ins C dx fs) ∧ Cls K C ∧ NoAttr K C f ∧ fs.lookup f = some v ∧ Q v H1
/-- e.f = value -/
def sFld (K : PySem.W.Frag) (ta tv : TE) (f : Str) : TS := fun D σ H => tv σ H fun y H1 => ta σ H1 fun x H2 => ∃ a C dx fs, x = .ref a ∧ H2 a = some (.ins C dx fs) ∧ Cls K C ∧ NoAttr K C f ∧ fs.length < 1000 ∧
  D.nx σ (upd H2 a (.ins C dx (putF f y fs)))
section
variable {X : Cx} {o e value : Expr} {f : Str} {pos pos' tpos : Pos} {ta tv : TE}
theorem pe_fld (he : PE X e ta) (hb : attributeBase e f X.env (eval e X.env) = eval e X.env) : PE X (.Attribute e f pos) (tFld X.K ta f) := by
  intro pins s σ H Q I h
  refine attr_of hb (thn (he pins s σ H _ I h) fun u s1 ⟨x, H1, I1, rx, a, C, dx, fs, v, ex, ea, c, n, l, q⟩ => ?_)
  subst ex
  obtain rfl : u = Value.ref a := rx
  exact getattr_ok I1 ea c n l fun u' s2 I2 ru => ⟨v, H1, I2, ru, q⟩
theorem ps_fld (ha : PE X o ta) (hv : PE X value tv) (hs : swapsWith value (some (.Attribute o f pos')) pos.line X.env = pure false) : PS X (.Assign [.Attribute o f pos'] value pos) (sFld X.K ta tv f) := by
  intro pins s σ H D I h
  refine plainObj_wpAny_Assign_Attribute (thn (hv pins s σ H _ I h) fun u s1 ⟨y, H1, I1, ry, q⟩ => thn (ha pins s1 σ H1 _ I1 q) fun ov s2 ⟨x, H2, I2, rx, a, C, dx, fs, ex, ea, c, n, l, q2⟩ => ?_) hs
  subst ex
  obtain rfl : ov = Value.ref a := rx
  exact setattr_ok I2 ea c n l ry fun s3 I3 => ⟨σ, _, I3, q2⟩
end
/-! ### isinstance -/
section
variable {X : Cx} {pins : List (Addr × Obj)} {σ : St} {H : Hp} {s : Shared} {A : Around} {E : Value → Shared → Prop} {Q : Value → Shared → Prop} {c : Value} {b : Bool}
/-- the type of a value, as the fragment's deciders take it; for an instance its class -/
inductive TyOf (K : PySem.W.Frag) (H : Hp) : V → Value → Prop where
  | non : TyOf K H .non (.type "NoneType")
  | bl (x : Bool) : TyOf K H (.bl x) (.type "bool")
  | int (i : Int) : TyOf K H (.int i) (.type "int")
  | str (x : Str) : TyOf K H (.str x) (.type "str")
  | flt (x : UInt64) : TyOf K H (.flt x) (.type "float")
  | lst {a : Addr} {xs : List V} (e : H a = some (.lst xs)) : TyOf K H (.ref a) (.type "list")
  | frz {a : Addr} {o : Obj} {xs : List V} (e : H a = some (.frz o (.lst xs))) : TyOf K H (.ref a) (.type "list")
  | tup {a : Addr} {xs : List V} (e : H a = some (.tup xs)) : TyOf K H (.ref a) (.type "tuple")
  | dK {a : Addr} {kvs : List (Key × V)} (e : H a = some (.dK kvs)) : TyOf K H (.ref a) (.type "dict")
  | dT {a : Addr} {kvs : List (List Key × V)} (e : H a = some (.dT kvs)) : TyOf K H (.ref a) (.type "dict")
  | ins {a C dx : Addr} {fs : List (Str × V)} (e : H a = some (.ins C dx fs)) (cl : Cls K C) (ha : PySem.W.findIn K (.ref C) "__class__" = some (some (.builtin "object.__class__")))
      (hn : PySem.W.specialIn K (.builtin "object.__class__") "__get__" = some (some (.builtin "getset_descriptor.__get__"))) (htk : PySem.W.takesIn K (.builtin "object.__class__") = some true)
      (hm : PySem.W.mroIn K C (.type "object") = some true) : TyOf K H (.ref a) (.ref C)
/-- isinstance(x, c) for one class c, a built-in or an own one: kitOne's answer -/
theorem isinst_ok {x : V} {u t : Value} (I : Inv X pins σ H s) (rx : RelV x u) (ty : TyOf X.K H x t) (e : PySem.W.kitOne X.K t c = some b) (h : ∀ tk, Q (.bool b) { s with toks := tk }) :
    wpAny (model X.prog X.w) A (call (.builtin "isinstance") [u, c]) Q E s := by
  cases ty with
  | non => cases (show u = Value.none from rx); exact PySem.W.kia_one PySem.W.kitx_none I.kIn True.intro e (fun z => nomatch z) h
  | bl y => cases (show u = Value.bool y from rx); exact PySem.W.kia_one PySem.W.kitx_bool I.kIn True.intro e (fun z => nomatch z) h
  | int i => obtain ⟨t, q⟩ := (show ∃ t, u = Value.int i t from rx); cases q; exact PySem.W.kia_one PySem.W.kitx_int I.kIn True.intro e (fun z => nomatch z) h
  | str y => obtain ⟨t, q⟩ := (show ∃ t, u = Value.str y t from rx); cases q; exact PySem.W.kia_one PySem.W.kitx_str I.kIn True.intro e (fun z => nomatch z) h
  | flt y => obtain ⟨t, q⟩ := (show ∃ t, u = Value.float y t from rx); cases q; exact PySem.W.kia_one PySem.W.kitx_float I.kIn True.intro e (fun z => nomatch z) h
  | @lst a xs ea =>
    cases (show u = Value.ref a from rx)
    obtain ⟨_, _, n, _, h1⟩ := (show ObjOk X.prog X.w H s.heap a (.lst xs) from I.hok a _ ea)
    exact PySem.W.kia_one PySem.W.kitx_list I.kIn ⟨_, h1, rfl⟩ e (fun z => nomatch z) h
  | @frz a ob xs ea =>
    cases (show u = Value.ref a from rx)
    obtain ⟨_, _, _, n, _, h1⟩ := (show ObjOk X.prog X.w H s.heap a (.frz ob (.lst xs)) from I.hok a _ ea)
    exact PySem.W.kia_one PySem.W.kitx_list I.kIn ⟨_, h1, rfl⟩ e (fun z => nomatch z) h
  | @tup a xs ea =>
    cases (show u = Value.ref a from rx)
    obtain ⟨_, _, _, p⟩ := (show ObjOk X.prog X.w H s.heap a (.tup xs) from I.hok a _ ea)
    obtain ⟨o, h1, h2, _⟩ := p
    exact PySem.W.kia_one PySem.W.kitx_tuple I.kIn ⟨o, h1, h2⟩ e (fun z => nomatch z) h
  | @dK a kvs ea =>
    cases (show u = Value.ref a from rx)
    obtain ⟨_, _, vs, _, p⟩ := (show ObjOk X.prog X.w H s.heap a (.dK kvs) from I.hok a _ ea)
    obtain ⟨o, es, ep, h1, h2, _⟩ := p
    exact PySem.W.kia_one PySem.W.kitx_dict I.kIn ⟨o, h1, h2.1⟩ e (fun z => nomatch z) h
  | @dT a kvs ea =>
    cases (show u = Value.ref a from rx)
    obtain ⟨_, _, xs, _, o, es, ep, h1, h2, _⟩ := (show ObjOk X.prog X.w H s.heap a (.dT kvs) from I.hok a _ ea)
    exact PySem.W.kia_one PySem.W.kitx_dict I.kIn ⟨o, h1, h2.1⟩ e (fun z => nomatch z) h
  | @ins a C dx fs ea cl ha hn htk hm =>
    cases (show u = Value.ref a from rx)
    obtain ⟨mA, O, _⟩ := ins_get I.hok ea
    obtain ⟨od, J, _⟩ := O.look
    exact PySem.W.kia_one (PySem.W.kitx_own (cl.get _) cl.hd ha hn htk hm) I.kIn J e (fun z => nomatch z) h
end
end L2
namespace L2
open PySem PySem.Spec PyProof.Rows
/-! ### room -/
structure Room (k : Nat) (A : Around) : Prop where
  hd : A.handled = none
  dp : A.depth + 3 * k + 5 < recursionLimit
  un : A.units + 16 * k + 200 < cLine
theorem Room.mono {j k : Nat} {A : Around} (r : Room k A) (h : j ≤ k) : Room j A := ⟨r.hd, by have := r.dp; omega, by have := r.un; omega⟩
theorem Room.deeper {k : Nat} {A : Around} (r : Room (k + 1) A) (env : Env) : Room k (A.deeper env) :=
  ⟨r.hd, by have := r.dp; show A.depth + 1 + 3 * k + 5 < _; omega, by have := r.un; show A.units + 3 + 16 * k + 200 < _; omega⟩
theorem Room.in1 {k : Nat} {A : Around} (r : Room (k + 1) A) : Room k A.in1 :=
  ⟨r.hd, by have := r.dp; show A.depth + 3 * k + 5 < _; omega, by have := r.un; show A.units + 1 + 16 * k + 200 < _; omega⟩
theorem make_depth {A : Around} {C : Addr} {us : List Value} {kw : List (Str × Value)} : (A.under (.builtin "type.__call__" ⟨.ref C :: us, kw⟩)).depth = A.depth + 1 := by
  first | rfl | simp [Around.under, Code.weight, Code.isCreation, Code.isGuard, Code.isCaller, Code.frames, Code.isFrame, guardIds]
theorem make_units {A : Around} {C : Addr} {us : List Value} {kw : List (Str × Value)} : (A.under (.builtin "type.__call__" ⟨.ref C :: us, kw⟩)).units = A.units + 1 := by
  first | rfl | simp [Around.under, Code.cUnits, Code.frames, Code.isFrame]
theorem Room.make {k : Nat} {A : Around} (r : Room (k + 1) A) (C : Addr) (us : List Value) (kw : List (Str × Value)) : Room k (A.under (.builtin "type.__call__" ⟨.ref C :: us, kw⟩)) :=
  ⟨r.hd, by have := r.dp; rw [make_depth]; omega, by have := r.un; rw [make_units]; omega⟩
theorem Room.depth {k : Nat} {A : Around} (r : Room k A) : A.depth < recursionLimit := by have := r.dp; omega
theorem Room.units {k : Nat} {A : Around} (r : Room k A) : A.units + 64 < cLine := by have := r.un; omega
/-! ### argument lists and displays -/
def tNil : TA := fun _ H Q => Q [] H
def tCons (ta : TE) (tr : TA) : TA := fun σ H Q => ta σ H fun x H1 => tr σ H1 fun xs H2 => Q (x :: xs) H2
section
variable {X : Cx} {e : Expr} {es : List Expr} {te : TE} {t : TA} {pos : Pos}
theorem pa_nil : PA X [] tNil := fun _ _ _ _ H Q I h => Calls.spliced_nil ⟨[], H, I, .nil, h⟩
theorem pa_cons (ha : PE X e te) (hr : PA X es t) (hs : starEach (e :: es) X.env = (false, eval e X.env) :: starEach es X.env := by rfl) : PA X (e :: es) (tCons te t) := by
  intro pos pins s σ H Q I h
  rw [hs]
  show wpAny _ _ (spliced ((false, eval e X.env) :: backTo pos (starEach es X.env))) _ _ s
  refine Calls.spliced_cons (thn (ha pins s σ H _ I h) fun u s1 ⟨x, H1, I1, r1, q1⟩ => ?_)
  exact thn (hr pos pins s1 σ H1 _ I1 q1) fun us s2 ⟨xs, H2, I2, r2, q2⟩ => ⟨x :: xs, H2, I2, .cons r1 r2, q2⟩
/-- a tuple, a list of written items -/
def tTup (t : TA) : TE := fun σ H Q => t σ H fun xs H1 => xs.length ≤ sizeLine ∧ ∀ p, H1 p = none → Q (.ref p) (upd H1 p (.tup xs))
def tLst (t : TA) : TE := fun σ H Q => t σ H fun xs H1 => xs.length ≤ sizeLine ∧ ∀ p, H1 p = none → Q (.ref p) (upd H1 p (.lst xs))
theorem pe_tup {x1} (h : PA X es t) : PE X (.Tuple es x1 pos) (tTup t) := by
  intro pins s σ H Q I hq
  refine wpAny_Tuple_spliced (thn (h pos pins s σ H _ I hq) fun us s1 ⟨xs, H1, I1, r, z, q⟩ => ⟨by rw [← r.length]; exact z, ?_⟩)
  have hf : H1 s1.heap.objs.size = none := I1.hok.fresh (Nat.le_refl _)
  refine ⟨.ref s1.heap.objs.size, upd H1 s1.heap.objs.size (.tup xs), I1.laid (t' := s1.toks) (fun b u e => Heap.get?_push_of_some _ e) (Nat.le_refl _) ?_, rfl, q _ hf⟩
  exact ⟨z, us, r, ⟨_, Heap.get?_push_size _ rfl, rfl, _, rfl⟩⟩
theorem pe_lst (h : PA X es t) : PE X (.List es pos) (tLst t) := by
  intro pins s σ H Q I hq
  refine wpAny_List_spliced (thn (h pos pins s σ H _ I hq) fun us s1 ⟨xs, H1, I1, r, z, q⟩ => ⟨by rw [← r.length]; exact z, ?_⟩)
  have hf : H1 s1.heap.objs.size = none := I1.hok.fresh (Nat.le_refl _)
  refine ⟨.ref s1.heap.objs.size, upd H1 s1.heap.objs.size (.lst xs), I1.laid (t' := s1.toks) (fun b u e => Heap.get?_push_of_some _ e) (Nat.le_refl _) ?_, rfl, q _ hf⟩
  exact ⟨z, us, 0, r, Heap.get?_push_size _ rfl⟩
end
/-! ### what a def promises -/
/-- a def's promise: the bound arguments in the parameters' order, the heap, the wanted end, the wanted exception -/
abbrev Sp := List V → Hp → VK → XK → Prop
/-- how an exception lies behind a call (file 08 gives it): the callers' frames, abstract heap and state ahead of the call, the wish, the exception, the state -/
abbrev CXT := List Env → Hp → Shared → XK → Value → Shared → Prop
/-- the state at a call -/
structure Env0 (P : Program) (w : World) (K : PySem.W.Frag) (mg : Str → Option Value) (base : Heap) (A : Around) (outer : List Env) (s : Shared) (H : Hp) : Prop where
  frames : A.frames = some outer
  mod : Mod K mg base
  bs : ∀ b o, base.get? b = some o → s.heap.get? b = some o ∧ H b = none
  bsz : base.objs.size ≤ s.heap.objs.size
  funs : s.heap.FunFrames base outer
  frf : ∀ b ∈ frs outer, H b = none
  hok : HOk P w H s.heap
  bare : AllBare s.gens
/-- a call's end -/
def CE (outer : List Env) (P : Program) (w : World) (H : Hp) (s : Shared) (Q : VK) (u : Value) (s' : Shared) : Prop :=
  ∃ v H', s'.os = s.os ∧ AllBare s'.gens ∧ Un (frs outer) [] H H' s.heap s'.heap ∧ HOk P w H' s'.heap ∧ RelV v u ∧ Q v H'
def CR (CX : CXT) (outer : List Env) (P : Program) (w : World) (H : Hp) (s : Shared) (Q : VK) (E : XK) (r : Result) (s' : Shared) : Prop :=
  match r with
  | .ok (.ret u) => CE outer P w H s Q u s'
  | .ok _ => False
  | .error e => CX outer H s E e s'
structure FnOk (P : Program) (w : World) (K : PySem.W.Frag) (mg : Str → Option Value) (base : Heap) (CX : CXT) (k : Nat) (f : Addr) (fd : FuncData) (ps : List Str) (sp : Sp) : Prop where
  len : ∀ vs H Q E, sp vs H Q E → vs.length = ps.length
  run : ∀ (A : Around) (outer : List Env) (s : Shared) (H : Hp) (args : Args) (us : List Value) (vs : List V) (Q : VK) (E : XK), Room k A → Env0 P w K mg base A outer s H → BindsTo s fd args (ps.zip us) → Vals vs us → sp vs H Q E →
    codeAny (model P w) A (.call (.ref f) args) (CR CX outer P w H s Q E) s
theorem FnOk.mono {P : Program} {w : World} {K : PySem.W.Frag} {mg : Str → Option Value} {base : Heap} {CX : CXT} {j k : Nat} {f : Addr} {fd : FuncData} {ps : List Str} {sp : Sp} (F : FnOk P w K mg base CX j f fd ps sp) (h : j ≤ k) :
    FnOk P w K mg base CX k f fd ps sp := ⟨F.len, fun A outer s H args us vs Q E hr => F.run A outer s H args us vs Q E (hr.mono h)⟩
/-- a weaker promise -/
theorem FnOk.imp {P : Program} {w : World} {K : PySem.W.Frag} {mg : Str → Option Value} {base : Heap} {CX : CXT} {k : Nat} {f : Addr} {fd : FuncData} {ps : List Str} {sp sp' : Sp} (F : FnOk P w K mg base CX k f fd ps sp)
    (h : ∀ vs H Q E, sp' vs H Q E → sp vs H Q E) : FnOk P w K mg base CX k f fd ps sp' :=
  ⟨fun vs H Q E q => F.len vs H Q E (h _ _ _ _ q), fun A outer s H args us vs Q E hr he hb hv hs => F.run A outer s H args us vs Q E hr he hb hv (h _ _ _ _ hs)⟩
theorem Env0.make {P : Program} {w : World} {K : PySem.W.Frag} {mg : Str → Option Value} {base : Heap} {A : Around} {outer : List Env} {s : Shared} {H : Hp} (e : Env0 P w K mg base A outer s H) (C : Addr) (us : List Value) (kw : List (Str × Value)) :
    Env0 P w K mg base (A.under (.builtin "type.__call__" ⟨.ref C :: us, kw⟩)) outer s H := ⟨by first | exact e.frames | (simpa [Around.under, Code.envs, Code.isFrame, pushEnvs] using e.frames), e.mod, e.bs, e.bsz, e.funs, e.frf, e.hok, e.bare⟩
theorem Env0.in1 {P : Program} {w : World} {K : PySem.W.Frag} {mg : Str → Option Value} {base : Heap} {A : Around} {outer : List Env} {s : Shared} {H : Hp} (e : Env0 P w K mg base A outer s H) :
    Env0 P w K mg base A.in1 outer s H := ⟨e.frames, e.mod, e.bs, e.bsz, e.funs, e.frf, e.hok, e.bare⟩
section
variable {X : Cx} {pins : List (Addr × Obj)} {σ : St} {H : Hp} {s s' : Shared}
/-- from a body: what a callee wants -/
theorem Inv.env0 (I : Inv X pins σ H s) : Env0 X.prog X.w X.K X.mg X.base X.A X.stack s H :=
  ⟨I.ok.frames, I.ok.mod, I.bs, Nat.le_trans I.ok.bsz I.sz, I.stack, I.stkFree, I.hok, I.bare⟩
/-- behind a call -/
theorem Inv.after {Q : VK} {u : Value} (I : Inv X pins σ H s) (h : CE X.stack X.prog X.w H s Q u s') : EP X pins σ Q u s' := by
  obtain ⟨v, H', os, bare, un, hok, r, q⟩ := h
  obtain ⟨hh, g, d, t, os'⟩ := s'
  obtain rfl : os' = s.os := os
  exact ⟨v, H', I.call (h' := hh) (g' := g) (d' := d) (t' := t) (ch := []) un hok bare (fun b z => absurd z (by simp)), r, q⟩
end
/-! ### calls -/
/-- f(..): the written arguments, then the defaults dvs; E: what is wanted of an exception -/
def tCall (sp : Sp) (dvs : List V) (E : XK) (t : TA) : TE := fun σ H Q => t σ H fun vs H1 => sp (vs ++ dvs) H1 Q E
/-- o.m(..) of an instance of the class at C -/
def tMeth (C : Addr) (m : Str) (sp : Sp) (dvs : List V) (E : XK) (ta : TE) (t : TA) : TE := fun σ H Q => ta σ H fun x H1 => ∃ a dx fs, x = .ref a ∧ H1 a = some (.ins C dx fs) ∧ fs.lookup m = none ∧
  t σ H1 fun vs H2 => sp (x :: (vs ++ dvs)) H2 Q E
/-- C(..): a new instance and its dict, then __init__ -/
def tMake (C : Addr) (sp : Sp) (dvs : List V) (E : XK) (t : TA) : TE := fun σ H Q => t σ H fun vs H1 => ∀ x dx, H1 x = none → H1 dx = none → dx ≠ x →
  sp (.ref x :: (vs ++ dvs)) (upd (upd H1 dx (.own x)) x (.ins C dx [])) (fun v H2 => v = .non ∧ Q (.ref x) H2) E
/-- how the parameters are bound: us the positional arguments, kw the keywords' values by name, ds the defaults that fill up -/
def Binds (K : PySem.W.Frag) (fd : FuncData) (ps : List Str) (ds : List Value) : Prop :=
  ∀ (s : Shared) (us : List Value), K.In s.heap → (us ++ ds).length = ps.length → BindsTo s fd ⟨us, []⟩ (ps.zip (us ++ ds))
/-- every parameter is given -/
theorem Binds.all {K : PySem.W.Frag} {fd : FuncData} {ps : List Str} (h : ∀ us : List Value, us.length = ps.length → bindArgs fd ⟨us, []⟩ = pure (ps.zip us)) : Binds K fd ps [] := fun s us _ hl => by
  rw [List.append_nil] at hl ⊢
  exact .of_eq (h us hl)
/-- an exception of a callee reaches what this body wants of exceptions -/
def Passes (CX : CXT) (X : Cx) (E : XK) : Prop := ∀ (pins : List (Addr × Obj)) (σ : St) (H : Hp) (s : Shared) (e : Value) (s' : Shared), Inv X pins σ H s → CX X.stack H s E e s' → X.xe e s'
section
variable {X : Cx} {CX : CXT} {k : Nat} {f C : Addr} {fd : FuncData} {ps : List Str} {sp : Sp} {dvs : List V} {ds : List Value} {E : XK} {x m : Str} {p pos apos : Pos} {e o : Expr} {es : List Expr} {ta : TE} {t : TA}
/-- the callee runs -/
theorem run_fn {pins : List (Addr × Obj)} {σ : St} {H : Hp} {s : Shared} {Q : VK} {us : List Value} {vs : List V} (F : FnOk X.prog X.w X.K X.mg X.base CX k f fd ps sp) (hr : Room k X.A) (hb : Binds X.K fd ps ds) (hd : Vals dvs ds) (hx : Passes CX X E)
    (I : Inv X pins σ H s) (r : Vals vs us) (h : sp (vs ++ dvs) H Q E) : wpAny (model X.prog X.w) X.A (call (.ref f) us) (EP X pins σ Q) X.xe s := by
  have r2 : Vals (vs ++ dvs) (us ++ ds) := r.append hd
  have hl : (us ++ ds).length = ps.length := by rw [← r2.length]; exact F.len _ _ _ _ h
  refine wpAny_call (codeAny_mono (F.run X.A X.stack s H ⟨us, []⟩ (us ++ ds) (vs ++ dvs) Q E hr I.env0 (hb s us I.kIn hl) r2 h) fun r s' hq => ?_)
  cases r with
  | error e => exact hx pins σ H s e s' I hq
  | ok fl =>
    cases fl with
    | ret u => exact I.after hq
    | next => exact False.elim hq
    | brk => exact False.elim hq
    | cont => exact False.elim hq
theorem pe_call (F : FnOk X.prog X.w X.K X.mg X.base CX k f fd ps sp) (hr : Room k X.A) (hg : Gl X x) (hm : X.mg x = some (.ref f)) (hk : PySem.W.keepIn X.K (.ref f) = true) (hb : Binds X.K fd ps ds) (hd : Vals dvs ds) (hx : Passes CX X E)
    (ha : PA X (e :: es) t) (hdb : (x == ("__debug__" : Str)) = false := by decide) (he : starEach (e :: es) X.env = (false, eval e X.env) :: starEach es X.env := by rfl) (hpl : (backTo pos (starEach es X.env)).any (·.1) = false := by rfl) :
    PE X (.Call (.Name x p) (e :: es) [] pos) (tCall sp dvs E t) := by
  intro pins s σ H Q I h
  refine wpAny_Call_Name_kw (ld_glob I hg hm ?_ hdb)
  refine PySem.W.callWith_K (h₀ := X.base) I.ok.mod.kin hk (thn (ha pos pins s σ H _ I h) fun us s1 ⟨vs, H1, I1, r, q⟩ => ⟨I1.kIn, ?_⟩) he hpl
  exact run_fn F hr hb hd hx I1 r q
/-- o.m(e, ..) -/
theorem pe_meth {pl : Sem Bool} (he : PE X o ta) (c : Cls X.K C) (hm : Meth X.K C m f) (F : FnOk X.prog X.w X.K X.mg X.base CX k f fd ps sp) (hr : Room k X.A) (hb : Binds X.K fd ps ds) (hd : Vals dvs ds) (hx : Passes CX X E) (ha : PA X (e :: es) t)
    (hst : starEach (e :: es) X.env = (false, eval e X.env) :: starEach es X.env := by rfl) (hpl : (backTo pos (starEach es X.env)).any (·.1) = false := by rfl)
    (ht : eval (.Call (.Attribute o m apos) (e :: es) [] pos) X.env = (do
      let ov ← eval o X.env
      standAt apos.atName
      let (f, first) ← holding [ov] (getMethod ov m pl)
      callWith pos f first (backTo pos (starEach (e :: es) X.env)) (backToKw pos (keywordEach [] X.env))) := by rfl) :
    PE X (.Call (.Attribute o m apos) (e :: es) [] pos) (tMeth C m sp dvs E ta t) := by
  intro pins s σ H Q I h
  refine PySem.W.methodCall_KW (pl := pl) (thn (he pins s σ H _ I h) fun u s1 ⟨x, H1, I1, rx, a, dx, fs, ex, ea, l, q⟩ => ?_) ht
  subst ex
  obtain rfl : u = Value.ref a := rx
  refine getmeth_ok I1 ea c hm l ?_
  refine PySem.W.callWith_K (first := [.ref a]) (h₀ := X.base) I.ok.mod.kin hm.kp (thn (ha pos pins s1 σ H1 _ I1 q) fun us s2 ⟨vs, H2, I2, r, q2⟩ => ⟨I2.kIn, ?_⟩) hst hpl
  exact run_fn (us := .ref a :: us) (vs := .ref a :: vs) F hr hb hd hx I2 (.cons rfl r) q2
/-- what a class must have to be made -/
structure Mk (K : PySem.W.Frag) (C f : Addr) : Prop where
  makes : PySem.W.makesIn K C = true
  init : PySem.W.findIn K (.ref C) "__init__" = some (some (.ref f))
  fn : PySem.W.isFn K (.ref f) = true
  kp : PySem.W.keepIn K (.ref C) = true
theorem run_make {pins : List (Addr × Obj)} {σ : St} {H : Hp} {s : Shared} {Q : VK} {us : List Value} {vs : List V} (M : Mk X.K C f) (F : FnOk X.prog X.w X.K X.mg X.base CX k f fd ps sp) (hr : Room (k + 1) X.A) (hb : Binds X.K fd ps ds) (hd : Vals dvs ds)
    (hx : Passes CX X E) (I : Inv X pins σ H s) (r : Vals vs us)
    (h : ∀ x dx, H x = none → H dx = none → dx ≠ x → sp (.ref x :: (vs ++ dvs)) (upd (upd H dx (.own x)) x (.ins C dx [])) (fun v H2 => v = .non ∧ Q (.ref x) H2) E) :
    wpAny (model X.prog X.w) X.A (call (.ref C) us) (EP X pins σ Q) X.xe s := by
  have hq := h (s.heap.objs.size + 1) s.heap.objs.size (I.hok.fresh (Nat.le_succ _)) (I.hok.fresh (Nat.le_refl _)) (Nat.ne_of_lt (Nat.lt_succ_self _))
  have I2 := Inv.made (C := C) I
  have r2 : Vals (V.ref (s.heap.objs.size + 1) :: (vs ++ dvs)) (Value.ref (s.heap.objs.size + 1) :: (us ++ ds)) := .cons rfl (r.append hd)
  have hl : (Value.ref (s.heap.objs.size + 1) :: us ++ ds).length = ps.length := by
    have e := r2.length
    rw [F.len _ _ _ _ hq] at e
    exact e.symm
  refine wpAny_call (make_map (f := f) I.kIn M.makes M.init (beq_iff_eq.mp M.fn) (codeAny_mono (F.run _ X.stack _ _ ⟨Value.ref (s.heap.objs.size + 1) :: us, []⟩ (Value.ref (s.heap.objs.size + 1) :: (us ++ ds)) _ _ E (hr.make C us [])
    (I2.env0.make C us []) (hb _ (Value.ref (s.heap.objs.size + 1) :: us) I2.kIn hl) r2 hq) fun r s' hq' => ?_))
  cases r with
  | error e => exact hx pins σ _ _ e s' I2 hq'
  | ok fl =>
    cases fl with
    | ret u =>
      obtain ⟨v, H', I3, rv, ev, q3⟩ := I2.after hq'
      subst ev
      exact ⟨rv, ⟨V.ref (s.heap.objs.size + 1), H', I3, rfl, q3⟩⟩
    | next => exact False.elim hq'
    | brk => exact False.elim hq'
    | cont => exact False.elim hq'
theorem pe_make (M : Mk X.K C f) (F : FnOk X.prog X.w X.K X.mg X.base CX k f fd ps sp) (hr : Room (k + 1) X.A) (hg : Gl X x) (hm : X.mg x = some (.ref C)) (hb : Binds X.K fd ps ds) (hd : Vals dvs ds) (hx : Passes CX X E)
    (ha : PA X (e :: es) t) (hdb : (x == ("__debug__" : Str)) = false := by decide) (he : starEach (e :: es) X.env = (false, eval e X.env) :: starEach es X.env := by rfl) (hpl : (backTo pos (starEach es X.env)).any (·.1) = false := by rfl) :
    PE X (.Call (.Name x p) (e :: es) [] pos) (tMake C sp dvs E t) := by
  intro pins s σ H Q I h
  refine wpAny_Call_Name_kw (ld_glob I hg hm ?_ hdb)
  refine PySem.W.callWith_K (h₀ := X.base) I.ok.mod.kin M.kp (thn (ha pos pins s σ H _ I h) fun us s1 ⟨vs, H1, I1, r, q⟩ => ⟨I1.kIn, ?_⟩) he hpl
  exact run_make M F hr hb hd hx I1 r q
end
/-! ### keywords -/
section
variable {X : Cx} {CX : CXT} {k : Nat} {f C : Addr} {fd : FuncData} {ps ks : List Str} {sp : Sp} {E : XK} {x m : Str} {p pos apos kpos : Pos} {e o : Expr} {es : List Expr} {kws : List Keyword} {te ta : TE} {t tk : TA} {nm : Option Str}
variable {g : List Value → List Value → List Value} {gV : List V → List V → List V}
end
/-! ### a def's body keeps its promise -/
/-- names: the parameters first -/
structure FnScope (N P : List Str) (sc : Scope) : Prop where
  kind : sc.kind = .function
  co : sc.isCoroutine = false
  gen : sc.isGenerator = false
  nd : N.Nodup
  pre : N.take P.length = P
  par : ∀ x ∈ P, sc.names.lookup x = some .local ∨ sc.names.lookup x = some .cell
  nofree : ∀ y ∈ sc.names, y.2 ≠ .free
theorem bindL_out {kindOf : Str → Option NameKind} {x : Str} : ∀ {binds : List (Str × Value)} {m : Str → Option Value}, (∀ v, (x, v) ∉ binds) → bindL kindOf binds m x = m x
  | [], _, _ => rfl
  | (n, v) :: r, m, h => by
    unfold bindL
    rw [bindL_out fun w hw => h w (List.mem_cons_of_mem _ hw)]
    split
    · have : x ≠ n := by rintro rfl; exact h v List.mem_cons_self
      simp [this]
    · rfl
theorem bindC_out {kindOf : Str → Option NameKind} {x : Str} : ∀ {binds : List (Str × Value)} {m : Str → Option Value}, (∀ v, (x, v) ∉ binds) → bindC kindOf binds m x = m x
  | [], _, _ => rfl
  | (n, v) :: r, m, h => by
    unfold bindC
    rw [bindC_out fun w hw => h w (List.mem_cons_of_mem _ hw)]
    split
    · rfl
    · have : x ≠ n := by rintro rfl; exact h v List.mem_cons_self
      simp [this]
theorem bindL_get {kindOf : Str → Option NameKind} {x : Str} {v : Value} : ∀ {P : List Str} {vs : List Value} {i : Nat} {m : Str → Option Value}, P.Nodup → P[i]? = some x → vs[i]? = some v → kindOf x = some .local →
    bindL kindOf (P.zip vs) m x = some v
  | [], _, _, _, _, h, _, _ => by simp at h
  | _ :: _, [], _, _, _, _, h, _ => by simp at h
  | p :: P, w :: vs, 0, m, nd, h1, h2, hk => by
    simp at h1 h2; subst h1; subst h2
    show bindL kindOf ((p, w) :: P.zip vs) m p = _
    unfold bindL
    rw [bindL_out fun v hv => (List.nodup_cons.mp nd).1 (List.of_mem_zip hv).1, if_pos hk]
    simp
  | p :: P, w :: vs, i + 1, m, nd, h1, h2, hk => by
    show bindL kindOf ((p, w) :: P.zip vs) m x = _
    unfold bindL
    exact bindL_get (i := i) (List.nodup_cons.mp nd).2 (by simpa using h1) (by simpa using h2) hk
theorem bindC_get {kindOf : Str → Option NameKind} {x : Str} {v : Value} : ∀ {P : List Str} {vs : List Value} {i : Nat} {m : Str → Option Value}, P.Nodup → P[i]? = some x → vs[i]? = some v → kindOf x ≠ some .local →
    bindC kindOf (P.zip vs) m x = some v
  | [], _, _, _, _, h, _, _ => by simp at h
  | _ :: _, [], _, _, _, _, h, _ => by simp at h
  | p :: P, w :: vs, 0, m, nd, h1, h2, hk => by
    simp at h1 h2; subst h1; subst h2
    show bindC kindOf ((p, w) :: P.zip vs) m p = _
    unfold bindC
    rw [bindC_out fun v hv => (List.nodup_cons.mp nd).1 (List.of_mem_zip hv).1, if_neg hk]
    simp
  | p :: P, w :: vs, i + 1, m, nd, h1, h2, hk => by
    show bindC kindOf ((p, w) :: P.zip vs) m x = _
    unfold bindC
    exact bindC_get (i := i) (List.nodup_cons.mp nd).2 (by simpa using h1) (by simpa using h2) hk
/-- the names' values at the entry -/
def start (N : List Str) (vs : List V) : St := vs.map some ++ List.replicate (N.length - vs.length) none
/-- the context of a def's body, at its entry; an exception leaves the frame, then lies as CX says -/
def cxOf (CX : CXT) (P : Program) (w : World) (K : PySem.W.Frag) (mg : Str → Option Value) (base : Heap) (N : List Str) (qual : Str) (scope : Scope) (f : Addr) (cd : Value) (A : Around) (outer : List Env) (s : Shared) (H : Hp) (E : XK) : Cx where
  prog := P
  w := w
  K := K
  mg := mg
  base := base
  A := A.deeper (envOfC qual scope s.heap.objs.size f cd)
  N := N
  s₀ := s
  H₀ := H
  env := envOfC qual scope s.heap.objs.size f cd
  outer := outer
  stack := envOfC qual scope s.heap.objs.size f cd :: outer
  ex := []
  calm := true
  fn := fun _ => true
  pn := []
  xe := fun e s' => wpAny (model P w) (A.deeper (envOfC qual scope s.heap.objs.size f cd)) (leaving (envOfC qual scope s.heap.objs.size f cd) e) (fun _ s'' => CX outer H s E e s'') (fun e' s'' => CX outer H s E e' s'') s'
theorem cell_has {sc : Scope} {n : Nat} {x : Str} (h : sc.names.lookup x = some .cell) : ∃ c, (cellsFrom n sc.names []).lookup x = some c := by
  have q := PySem.W.cellsFrom_some sc.names n [] (.inl h)
  exact Option.isSome_iff_exists.mp q
theorem inv_start {CX : CXT} {P : Program} {w : World} {K : PySem.W.Frag} {mg : Str → Option Value} {base : Heap} {N ps : List Str} {qual : Str} {scope : Scope} {f : Addr} {cd : Value} {A : Around} {outer : List Env} {s s1 : Shared} {H : Hp} {E : XK} {us : List Value} {vs : List V}
    (S : FnScope N ps scope) (hd : A.handled = none) (e0 : Env0 P w K mg base A outer s H) (hl : vs.length = ps.length) (r : Vals vs us)
    (x : InCallC s s.heap.objs.size (bindL (envOfC qual scope s.heap.objs.size f cd).kindOf (ps.zip us) fun _ => none) (cellsFrom (s.heap.objs.size + 1) scope.names []) (bindC (envOfC qual scope s.heap.objs.size f cd).kindOf (ps.zip us) fun _ => none) s1) :
    Inv (cxOf CX P w K mg base N qual scope f cd A outer s H E) [] (start N vs) H s1 := by
  have hpl : ps.length ≤ N.length := by have := congrArg List.length S.pre; rw [List.length_take] at this; omega
  obtain ⟨h1, tk, rfl, hk⟩ := x.done
  have noA : ∀ b : Addr, b ∉ (cxOf CX P w K mg base N qual scope f cd A outer s H E).ex := fun b z => absurd (show b ∈ ([] : List Addr) from z) (by simp)
  refine ⟨⟨e0.mod, S.kind, rfl, rfl, Nat.le_refl _, fun y z c h1 h2 => ?_, fun y hy => ?_, fun y c _ h => ?_, fun _ => hd, Around.frames_deeper e0.frames, .inr ⟨rfl, rfl⟩, fun b z => absurd z (noA b), e0.bs, e0.bsz, fun b _ _ => noA b, fun b z => absurd z (noA b), e0.funs, e0.frf⟩,
    rfl, e0.bare, Un.kept hk, ⟨_, x.toInCall.ns, fun i y v h1 h2 h3 => ?_⟩, fun y c h => ⟨_, x.cell y c h⟩, e0.hok.fresh (Nat.le_refl _), fun y c h => ?_, fun p hp => absurd (show p ∈ ([] : List (Addr × Obj)) from hp) (by simp), e0.hok.kept hk, ?_⟩
  · exact name_of_addr x.apart (PySem.mem_of_lookup h1) (PySem.mem_of_lookup h2)
  · have hy : scope.names.lookup y = some .cell ∨ scope.names.lookup y = some .free := hy
    rcases hy with hy | hy
    · exact cell_has hy
    · exact absurd rfl (S.nofree _ (PySem.mem_of_lookup hy))
  · exact Nat.le_of_lt (x.above y c (PySem.mem_of_lookup h))
  · have hi : i < vs.length := by
      unfold start at h2
      by_cases hi : i < vs.length
      · exact hi
      · rw [List.getElem?_append_right (by simpa using hi)] at h2
        rw [List.getElem?_replicate] at h2
        split at h2 <;> cases h2
    have ha : vs[i]? = some v := by
      unfold start at h2
      rw [List.getElem?_append_left (by simpa using hi), List.getElem?_map] at h2
      cases e : vs[i]? with
      | none => rw [e] at h2; cases h2
      | some a => rw [e] at h2; cases h2; rfl
    obtain ⟨u, hu, rv⟩ := r.get ha
    have hp : ps[i]? = some y := by
      rw [← S.pre, List.getElem?_take_of_lt (by omega)]; exact h1
    have ndP : ps.Nodup := by rw [← S.pre]; exact S.nd.sublist (List.take_sublist _ _)
    refine ⟨u, rv, ?_⟩
    rcases S.par y (List.mem_of_getElem? hp) with k | k
    · exact .inl ⟨k, bindL_get ndP hp hu k⟩
    · obtain ⟨c, e⟩ := cell_has (n := s.heap.objs.size + 1) k
      refine .inr ⟨.inl k, c, e, ?_⟩
      have q := x.cell y c e
      rw [bindC_get ndP hp hu (by show scope.names.lookup y ≠ _; rw [k]; decide)] at q
      exact q
  · exact e0.hok.fresh (Nat.le_of_lt (x.above y c (PySem.mem_of_lookup h)))
  · unfold start
    show _ = N.length
    rw [List.length_append, List.length_map, List.length_replicate]
    omega
/-- THE RULE: a def (or a method) of the text, by its body. The body's reading t is chosen for each entry; it is run at the parameters' values -/
theorem fn_of {CX : CXT} {P : Program} {w : World} {K : PySem.W.Frag} {mg : Str → Option Value} {base : Heap} {k : Nat} {f : Addr} {name qual : Str} {params : Arguments} {body : List Stmt} {scope : Scope} {dV kV doc pm cdv ct oc : Value} {an od : Option Addr}
    {osl : Array (Option Value)} {N ps : List Str} {sp : Sp} (lk : K.lookup f = some ⟨oc, od, .func (PySem.W.fnOf name qual params body scope dV kV doc pm an cdv ct), osl⟩) (hcd : PySem.W.codeIn K cdv qual = true) (S : FnScope N ps scope)
    (len : ∀ vs H Q E, sp vs H Q E → vs.length = ps.length)
    (hbody : ∀ (A : Around) (outer : List Env) (s : Shared) (H : Hp) (vs : List V) (Q : VK) (E : XK), Room k (A.deeper (envOfC qual scope s.heap.objs.size f cdv)) → sp vs H Q E →
      ∃ t, PSs (cxOf CX P w K mg base N qual scope f cdv A outer s H E) body t ∧ t { nx := fun _ H' => Q .non H', rt := Q } (start N vs) H) :
    FnOk P w K mg base CX (k + 1) f (PySem.W.fnOf name qual params body scope dV kV doc pm an cdv ct) ps sp := by
  refine ⟨len, fun A outer s H args us vs Q E hr e0 hb r hsp => ?_⟩
  have hl := len _ _ _ _ hsp
  have KX : K.In s.heap := e0.mod.kin.keeps fun b o e => (e0.bs b o e).1
  have lim : s.heap.NoLimit := e0.mod.nolimit.keeps fun b o e => (e0.bs b o e).1
  have hkind : ∀ y ∈ ps.zip us, scope.names.lookup y.1 = some .local ∨ (scope.names.lookup y.1 = some .cell ∧ ((cellsFrom (s.heap.objs.size + 1) scope.names []).lookup y.1).isSome = true) := fun ⟨n, v⟩ hy => by
    rcases S.par n (List.of_mem_zip hy).1 with q | q
    · exact .inl q
    · exact .inr ⟨q, PySem.W.cellsFrom_some _ _ _ (.inl q)⟩
  refine codeAny_call_function hr.depth (KX _ _ lk) rfl S.co S.gen rfl (PySem.W.codeRec_of KX hcd) (hb _ _ _ _ ?_)
  refine wpAny_newFunctionEnv_cells S.kind hkind fun env he s1 x => ?_
  subst he
  refine ⟨lim.keeps x.toInCall.keep, codeAny_func ?_⟩
  obtain ⟨t, ht, hq⟩ := hbody A outer s H vs Q E (hr.deeper _) hsp
  have I : Inv (cxOf CX P w K mg base N qual scope f cdv A outer s H E) [] (start N vs) H s1 := inv_start S hr.hd e0 hl r x
  refine wpAny_mono (ht [] s1 (start N vs) H _ I hq) (fun fl s' hs => ?_) fun e s' hs => hs
  have fin : ∀ {σ' : St} {H' : Hp} {v : V} {u : Value}, Inv (cxOf CX P w K mg base N qual scope f cdv A outer s H E) [] σ' H' s' → RelV v u → Q v H' → CE outer P w H s Q u s' :=
    fun {σ' H' v u} J rv q => ⟨v, H', J.os, J.bare, J.base, J.hok, rv, q⟩
  cases fl with
  | ret u =>
    obtain ⟨v, σ', H', J, rv, q⟩ := hs
    exact fin J rv q
  | next =>
    obtain ⟨σ', H', J, q⟩ := hs
    exact fin (v := V.non) (u := Value.none) J rfl q
  | brk =>
    obtain ⟨_, _, _, q⟩ := hs
    exact False.elim q
  | cont =>
    obtain ⟨_, _, _, q⟩ := hs
    exact False.elim q
end L2
namespace L2
open PySem PySem.Spec PyProof.Rows
section
variable {X : Cx} {x : Str} {p pos : Pos} {e : Expr} {es : List Expr} {t : TA} {id T : String} {r : List V → Hp → VK → Prop}
def tCB (r : List V → Hp → VK → Prop) (t : TA) : TE := fun σ H Q => t σ H fun vs H1 => r vs H1 Q
/-- f(e, ..), f a built-in function -/
theorem pe_callB (hc : CallR X (.builtin id) r) (hg : Gl X x) (hm : X.mg x = none) (hv : bootBuiltins x = some (.builtin id)) (ha : PA X (e :: es) t) (hn : x ≠ "__name__" := by decide) (hdb : (x == ("__debug__" : Str)) = false := by decide)
    (he : starEach (e :: es) X.env = (false, eval e X.env) :: starEach es X.env := by rfl) (hpl : (backTo pos (starEach es X.env)).any (·.1) = false := by rfl) : PE X (.Call (.Name x p) (e :: es) [] pos) (tCB r t) := by
  intro pins s σ H Q I h
  refine wpAny_Call_Name_kw (ld_blt I hg hm hv ?_ hn hdb)
  exact PyProof.Rows.callWith_builtin1 (thn (ha pos pins s σ H _ I h) fun us s1 ⟨vs, H1, I1, r1, q1⟩ => hc pins s1 σ H1 vs us Q I1 r1 q1) he hpl
/-- T(e, ..), T a built-in type -/
theorem pe_callTy (hc : CallR X (.type T) r) (hg : Gl X x) (hm : X.mg x = none) (hv : bootBuiltins x = some (.type T)) (ha : PA X (e :: es) t) (hn : x ≠ "__name__" := by decide) (hdb : (x == ("__debug__" : Str)) = false := by decide)
    (he : starEach (e :: es) X.env = (false, eval e X.env) :: starEach es X.env := by rfl) (hpl : (backTo pos (starEach es X.env)).any (·.1) = false := by rfl) : PE X (.Call (.Name x p) (e :: es) [] pos) (tCB r t) := by
  intro pins s σ H Q I h
  refine wpAny_Call_Name_kw (ld_blt I hg hm hv ?_ hn hdb)
  exact PyProof.Rows.callWith_type1 (thn (ha pos pins s σ H _ I h) fun us s1 ⟨vs, H1, I1, r1, q1⟩ => hc pins s1 σ H1 vs us Q I1 r1 q1) he hpl
end
end L2
namespace HT
open PySem PyProof.Rows
section
open PySem.SeqAt
open PySem.AutoSeq1 (wpAny_loadPart')
open PySem.MeetsSeq PySem.MeetsSeq2 PySem.MeetsSeq3
end
section
variable {prog : Program} {w : World} {A : Around} {E : Value → Shared → Prop} {s : Shared}
/-! ### t[a:b], not the whole -/
end
end HT
namespace L2
open PySem PySem.Spec PyProof.Rows
/-! ### the parts of a slice -/
abbrev TO := St → Hp → (Option Int → Hp → Prop) → Prop
theorem intsAre_of {ns : List Int} : ∀ {us : List Value}, Vals (ns.map V.int) us → IntsAre us ns := by
  induction ns with
  | nil => intro us r; rw [List.map_nil] at r; cases r; exact .nil
  | cons n ns ih =>
    intro us r
    rw [List.map_cons] at r
    cases r with
    | cons r1 r2 =>
      obtain ⟨t, e⟩ := r1
      subst e
      exact .cons n t (ih r2)
section
variable {X : Cx} {e : Expr} {te : TE} {lo hi : Option Expr} {tl th : TO} {pos p2 : Pos}
/-- what a slice of a value is, by values: the slice object stands at sl -/
def SlR (X : Cx) (r : V → Option Int → Option Int → Hp → VK → Prop) : Prop :=
  ∀ (pins : List (Addr × Obj)) (s : Shared) (σ : St) (H : Hp) (x : V) (v vl vu : Value) (lo hi : Option Int) (sl : Addr) (Q : VK), Inv X pins σ H s → RelV x v → s.heap.IsSliceOf sl vl vu .none → IsPart vl lo → IsPart vu hi → r x lo hi H Q →
    ∃ T id, typeLookup (.type T) "__getitem__" = pure (some (.builtin id)) ∧ s.TypeIs v T ∧ wpAny (model X.prog X.w) X.A (getItem v (.ref sl)) (EP X pins σ Q) X.xe s
theorem SlR.or {r r' : V → Option Int → Option Int → Hp → VK → Prop} (h : SlR X r) (h' : SlR X r') : SlR X (fun x lo hi H Q => r x lo hi H Q ∨ r' x lo hi H Q) := by
  intro pins s σ H x v vl vu lo hi sl Q I rx hs pl pu q
  rcases q with q | q
  · exact h pins s σ H x v vl vu lo hi sl Q I rx hs pl pu q
  · exact h' pins s σ H x v vl vu lo hi sl Q I rx hs pl pu q
/-! ### t < u, t + u -/
end
end L2
namespace L2
open PySem PySem.Spec PyProof.Rows
/-! ### places -/
/-- the place that an index of any sign means -/
def ixN (n : Nat) (i : Int) : Option Nat := if 0 ≤ i then (if i < n then some i.toNat else none) else if -(n : Int) ≤ i then some (i + n).toNat else none
def atI {α : Type} (xs : List α) (i : Int) : Option α := (ixN xs.length i).bind fun j => xs[j]?
theorem ixN_seq {n : Nat} {i : Int} {j : Nat} (h : ixN n i = some j) : seqIndex? i n = some j ∧ j < n ∧ -(n : Int) ≤ i ∧ i < n := by
  unfold ixN at h
  by_cases h0 : 0 ≤ i
  · rw [if_pos h0] at h
    by_cases h1 : i < n
    · rw [if_pos h1] at h
      have e : i.toNat = j := Option.some.inj h
      exact ⟨by rw [seqIndex_of h0 h1, e], by omega, by omega, h1⟩
    · rw [if_neg h1] at h; cases h
  · rw [if_neg h0] at h
    by_cases h1 : -(n : Int) ≤ i
    · rw [if_pos h1] at h
      have e : (i + n).toNat = j := Option.some.inj h
      exact ⟨by rw [seqIndex_neg (by omega) h1, e], by omega, h1, by omega⟩
    · rw [if_neg h1] at h; cases h
theorem atI_get {α : Type} {xs : List α} {i : Int} {v : α} (h : atI xs i = some v) : ∃ j, seqIndex? i xs.length = some j ∧ xs[j]? = some v ∧ j < xs.length ∧ -(xs.length : Int) ≤ i ∧ i < xs.length := by
  unfold atI at h
  cases e : ixN xs.length i with
  | none => rw [e] at h; cases h
  | some j =>
    rw [e] at h
    obtain ⟨h1, h2, h3, h4⟩ := ixN_seq e
    exact ⟨j, h1, h, h2, h3, h4⟩
theorem atI_nat {α : Type} {xs : List α} {j : Nat} {v : α} (h : xs[j]? = some v) : atI xs (j : Int) = some v := by
  have hj : j < xs.length := (List.getElem?_eq_some_iff.mp h).1
  have e : ixN xs.length (j : Int) = some j := by
    unfold ixN
    rw [if_pos (by omega), if_pos (by omega)]; simp
  unfold atI; rw [e]; exact h
/-! ### what may be subscripted -/
/-- what stands as an index of a plain subscript -/
def PlainIx (b : Expr) : Prop := ∀ o i, subscripted b false o i = operate [o, i] (getItem o i)
/-- a subscript by values -/
def IxR (X : Cx) (r : R2) : Prop :=
  ∀ (value slice : Expr) (pins : List (Addr × Obj)) (s : Shared) (σ : St) (H : Hp) (x y : V) (v u : Value) (Q : VK), Inv X pins σ H s → RelV x v → RelV y u → r x y H Q →
    subscripted slice false v u = operate [v, u] (getItem v u) → wpAny (model X.prog X.w) X.A (subscriptTail value slice v u) (EP X pins σ Q) X.xe s
/-- a call of a builtin's method by values: the receiver, the arguments -/
def MtR (X : Cx) (id : String) (r : V → List V → Hp → VK → Prop) : Prop :=
  ∀ (pins : List (Addr × Obj)) (s : Shared) (σ : St) (H : Hp) (x : V) (xs : List V) (v : Value) (us : List Value) (Q : VK), Inv X pins σ H s → RelV x v → Vals xs us → r x xs H Q →
    wpAny (model X.prog X.w) X.A (call (.builtin id) (v :: us)) (EP X pins σ Q) X.xe s
section
variable {X : Cx} {a b : Expr} {ta tb : TE} {pos : Pos}
theorem IxR.or {r r' : R2} (h : IxR X r) (h' : IxR X r') : IxR X (fun x y H Q => r x y H Q ∨ r' x y H Q) := by
  intro value slice pins s σ H x y v u Q I rx ry q hs
  rcases q with q | q
  · exact h value slice pins s σ H x y v u Q I rx ry q hs
  · exact h' value slice pins s σ H x y v u Q I rx ry q hs
theorem MtR.or {id : String} {r r' : V → List V → Hp → VK → Prop} (h : MtR X id r) (h' : MtR X id r') : MtR X id (fun x xs H Q => r x xs H Q ∨ r' x xs H Q) := by
  intro pins s σ H x xs v us Q I rx rs q
  rcases q with q | q
  · exact h pins s σ H x xs v us Q I rx rs q
  · exact h' pins s σ H x xs v us Q I rx rs q
/-- a[b] -/
theorem pe_ix {r : R2} (hr : IxR X r) (ha : PE X a ta) (hb : PE X b tb) (hs : PlainIx b) : PE X (.Subscript a b pos) (tOp r ta tb) := by
  intro pins s σ H Q I h
  exact Subscript_ (binT ha hb I h fun v u s2 x y H2 I2 rx ry q => hr a b pins s2 σ H2 x y v u Q I2 rx ry q (hs _ _))
def rIxL (K : PySem.W.Frag) : R2 := fun x y H Q => ∃ p xs i v, x = .ref p ∧ y = .int i ∧ SqL K H p xs ∧ atI xs i = some v ∧ Q v H
def rIxT (K : PySem.W.Frag) : R2 := fun x y H Q => ∃ p xs i v, x = .ref p ∧ y = .int i ∧ SqT K H p xs ∧ atI xs i = some v ∧ Q v H
theorem ix_list : IxR X (rIxL X.K) := by
  intro value slice pins s σ H x y v u Q I rx ry h hs
  obtain ⟨p, xs, i, z, rfl, rfl, hq, he, q⟩ := h
  cases rx
  obtain ⟨t, rfl⟩ := ry
  obtain ⟨its, r, pl, hz⟩ := I.list hq
  obtain ⟨j, h1, h2, h3, h4, h5⟩ := atI_get he
  obtain ⟨w, ew, rw'⟩ := r.get h2
  have hl := r.length
  have hn := line63
  have fin : EP X pins σ Q w s := ⟨z, H, I, rw', q⟩
  by_cases h0 : 0 ≤ i
  · have hj : i.toNat = j := by
      rw [seqIndex_of h0 h5] at h1
      exact Option.some.inj h1
    exact item_listR pl.isList h0 (by omega) (by rw [hj]; simpa using ew) fin hs
  · have hj : (i + (its.toArray.size : Int)).toNat = j := by
      rw [seqIndex_neg (by omega) h4] at h1
      rw [List.size_toArray, ← hl]
      exact Option.some.inj h1
    exact subscriptTail_builtinR (x := w) pl.isList.typeIs slot_list_getitem.lookup
      (wpAny_getItem_list_neg (Q := fun r s' => r = w ∧ EP X pins σ Q r s') pl.isList (by omega) (by rw [List.size_toArray] <;> omega) (by omega) (by rw [hj]; simpa using ew) ⟨rfl, fin⟩) hs
theorem ix_tup : IxR X (rIxT X.K) := by
  intro value slice pins s σ H x y v u Q I rx ry h hs
  obtain ⟨p, xs, i, z, rfl, rfl, hq, he, q⟩ := h
  cases rx
  obtain ⟨t, rfl⟩ := ry
  obtain ⟨its, r, pl, hz⟩ := I.tuple hq
  obtain ⟨j, h1, h2, h3, h4, h5⟩ := atI_get he
  obtain ⟨w, ew, rw'⟩ := r.get h2
  have hl := r.length
  have hn := line63
  have fin : EP X pins σ Q w s := ⟨z, H, I, rw', q⟩
  exact subscriptTail_builtinR (x := w) pl.typeIs slot_tuple_getitem.lookup
    (getItem_tuple (j := j) (Q := fun r s' => r = w ∧ EP X pins σ Q r s') pl (by omega) (by omega) (by rw [List.size_toArray, ← hl]; exact h1) (by simpa using ew) ⟨rfl, fin⟩) hs
/-! ### xs[i] = v, any sign -/
theorem Inv.lst {pins : List (Addr × Obj)} {σ : St} {H : Hp} {s : Shared} {p : Addr} {xs : List V} (I : Inv X pins σ H s) (h : H p = some (.lst xs)) :
    ∃ (its : List Value) (n : Nat), Vals xs its ∧ s.heap.get? p = some { cls := .type "list", data := .seq its.toArray n } ∧ xs.length ≤ sizeLine := by
  obtain ⟨z, its, n, r, e⟩ := I.hok p _ h
  exact ⟨its, n, r, e, z⟩
/-! ### slices -/
/-! ### in, not in: flat items -/
def flatV : V → Bool
  | .non => true
  | .bl _ => true
  | .int _ => true
  | .str _ => true
  | _ => false
/-- == of flat values -/
def eqV : V → V → Bool
  | .non, .non => true
  | .bl a, .bl b => a == b
  | .bl a, .int b => (if a then 1 else 0) == b
  | .int a, .bl b => a == (if b then 1 else 0)
  | .int a, .int b => a == b
  | .str a, .str b => a == b
  | _, _ => false
theorem eqAt_V {A : Around} {s : Shared} {y x : V} {u v : Value} (ry : RelV y u) (rx : RelV x v) (fy : flatV y = true) (fx : flatV x = true) : SeqAt.EqAt A s u v (eqV y x) := by
  cases y with
  | non =>
    cases ry
    cases x with
    | non => cases rx; exact SeqAt.EqAt.same _
    | bl b => cases rx; exact SeqAt.EqAt.none_bool b
    | int b => obtain ⟨t, rfl⟩ := rx; exact SeqAt.EqAt.none_int b t
    | str b => obtain ⟨t, rfl⟩ := rx; exact SeqAt.EqAt.none_str b t
    | _ => exact absurd (show false = true from fx) Bool.false_ne_true
  | bl a =>
    cases ry
    cases x with
    | non => cases rx; exact SeqAt.EqAt.bool_none a
    | bl b => cases rx; exact SeqAt.EqAt.bool_bool a b
    | int b => obtain ⟨t, rfl⟩ := rx; exact SeqAt.EqAt.bool_int a b t
    | str b => obtain ⟨t, rfl⟩ := rx; exact SeqAt.EqAt.bool_str a b t
    | _ => exact absurd (show false = true from fx) Bool.false_ne_true
  | int a =>
    obtain ⟨t', rfl⟩ := ry
    cases x with
    | non => cases rx; exact SeqAt.EqAt.int_none a t'
    | bl b => cases rx; exact SeqAt.EqAt.int_bool a t' b
    | int b => obtain ⟨t, rfl⟩ := rx; exact SeqAt.EqAt.int_int a t' b t
    | str b => obtain ⟨t, rfl⟩ := rx; exact SeqAt.EqAt.int_str a t' b t
    | _ => exact absurd (show false = true from fx) Bool.false_ne_true
  | str a =>
    obtain ⟨t', rfl⟩ := ry
    cases x with
    | non => cases rx; exact SeqAt.EqAt.str_none a t'
    | bl b => cases rx; exact SeqAt.EqAt.str_bool a t' b
    | int b => obtain ⟨t, rfl⟩ := rx; exact SeqAt.EqAt.str_int a t' b t
    | str b => obtain ⟨t, rfl⟩ := rx; exact SeqAt.EqAt.str_str a t' b t
    | _ => exact absurd (show false = true from fx) Bool.false_ne_true
  | _ => exact absurd (show false = true from fy) Bool.false_ne_true
/-- the items' answers, read off the values (a value's own answer does not lean on its token) -/
def eqU (x : V) (u : Value) : Bool := match u with
  | .none => eqV .non x
  | .bool b => eqV (.bl b) x
  | .int i _ => eqV (.int i) x
  | .str z _ => eqV (.str z) x
  | _ => false
theorem eqU_of {x y : V} {u : Value} (r : RelV y u) (f : flatV y = true) : eqU x u = eqV y x := by
  cases y with
  | non => cases r; rfl
  | bl b => cases r; rfl
  | int i => obtain ⟨t, rfl⟩ := r; rfl
  | str z => obtain ⟨t, rfl⟩ := r; rfl
  | _ => exact absurd (show false = true from f) Bool.false_ne_true
theorem any_eqU {x : V} : ∀ {xs : List V} {us : List Value}, Vals xs us → xs.all flatV = true → us.any (eqU x) = xs.any fun y => eqV y x
  | _, _, .nil, _ => rfl
  | y :: xs, u :: us, .cons r t, f => by
    rw [List.all_cons, Bool.and_eq_true] at f
    rw [List.any_cons, List.any_cons, eqU_of r f.1, any_eqU t f.2]
theorem mem_eqAt {A : Around} {s : Shared} {x : V} {v : Value} (rx : RelV x v) (fx : flatV x = true) : ∀ {xs : List V} {us : List Value}, Vals xs us → xs.all flatV = true → ∀ u ∈ us, SeqAt.EqAt A s u v (eqU x u)
  | _, _, .nil, _ => fun u hu => by cases hu
  | y :: xs, u :: us, .cons r t, f => fun u' hu => by
    rw [List.all_cons, Bool.and_eq_true] at f
    rcases List.mem_cons.mp hu with rfl | hu
    · rw [eqU_of r f.1]; exact eqAt_V r rx f.1 fx
    · exact mem_eqAt rx fx t f.2 u' hu
def inV (x : V) (xs : List V) : Bool := xs.any fun y => eqV y x
/-- x in a list or tuple of flat items -/
def rIn (K : PySem.W.Frag) (neg : Bool) : R2 := fun x y H Q => ∃ p xs, y = .ref p ∧ (SqL K H p xs ∨ SqT K H p xs) ∧ flatV x = true ∧ xs.all flatV = true ∧ Q (.bl (if neg then !inV x xs else inV x xs)) H
theorem op_in_seq : OpR X (compareOp .In) (rIn X.K false) := by
  intro pins s σ H x y v u Q I rx ry h
  obtain ⟨p, xs, rfl, hq, fx, fs, q⟩ := h
  cases ry
  rcases hq with hq | hq
  · obtain ⟨its, r, pl, hz⟩ := I.list hq
    refine SeqAt.in_listAt (eqU x) pl.isList (fun w hw => mem_eqAt rx fx r fs w (by simpa using hw)) ⟨.bl _, H, I, rfl, ?_⟩
    rw [show its.toArray.any (eqU x) = its.any (eqU x) by simp, any_eqU r fs]
    exact q
  · obtain ⟨its, r, pl, hz⟩ := I.tuple hq
    refine SeqAt.in_tupleAt (eqU x) pl (fun w hw => mem_eqAt rx fx r fs w (by simpa using hw)) ⟨.bl _, H, I, rfl, ?_⟩
    rw [show its.toArray.any (eqU x) = its.any (eqU x) by simp, any_eqU r fs]
    exact q
theorem op_notIn_seq : OpR X (compareOp .NotIn) (rIn X.K true) := by
  intro pins s σ H x y v u Q I rx ry h
  obtain ⟨p, xs, rfl, hq, fx, fs, q⟩ := h
  cases ry
  rcases hq with hq | hq
  · obtain ⟨its, r, pl, hz⟩ := I.list hq
    refine SeqAt.notIn_listAt (eqU x) pl.isList (fun w hw => mem_eqAt rx fx r fs w (by simpa using hw)) ⟨.bl _, H, I, rfl, ?_⟩
    rw [show its.toArray.any (eqU x) = its.any (eqU x) by simp, any_eqU r fs]
    exact q
  · obtain ⟨its, r, pl, hz⟩ := I.tuple hq
    refine SeqAt.notIn_tupleAt (eqU x) pl (fun w hw => mem_eqAt rx fx r fs w (by simpa using hw)) ⟨.bl _, H, I, rfl, ?_⟩
    rw [show its.toArray.any (eqU x) = its.any (eqU x) by simp, any_eqU r fs]
    exact q
/-! ### len, list(x), tuple(x) of any list or tuple that is read -/
theorem call_len_seq : CallR X (.builtin "len") (fun xs H Q => ∃ p ys, xs = [.ref p] ∧ (SqL X.K H p ys ∨ SqT X.K H p ys) ∧ Q (.int ys.length) H) := by
  intro pins s σ H xs us Q I r h
  obtain ⟨p, ys, rfl, hq, q⟩ := h
  obtain ⟨u, rfl, rx⟩ := vals1 r
  cases rx
  have hn := line63
  rcases hq with hq | hq
  · obtain ⟨its, r', pl, hz⟩ := I.list hq
    have hlen := r'.length
    exact Calls.call_len_list pl.isList (by simp only [List.size_toArray] <;> omega) ⟨.int ys.length, H, I.tok _, ⟨s.toks + 1, by rw [List.size_toArray, hlen]⟩, q⟩
  · obtain ⟨its, r', pl, hz⟩ := I.tuple hq
    have hlen := r'.length
    exact len_tuple pl (by simp only [List.size_toArray] <;> omega) ⟨.int ys.length, H, I.tok _, ⟨s.toks + 1, by rw [List.size_toArray, hlen]⟩, q⟩
theorem CallR.or {f : Value} {r r' : List V → Hp → VK → Prop} (h : CallR X f r) (h' : CallR X f r') : CallR X f (fun xs H Q => r xs H Q ∨ r' xs H Q) := by
  intro pins s σ H xs us Q I rs q
  rcases q with q | q
  · exact h pins s σ H xs us Q I rs q
  · exact h' pins s σ H xs us Q I rs q
theorem call_list_of : CallR X (.type "list") (fun xs H Q => ∃ p ys, xs = [.ref p] ∧ (SqL X.K H p ys ∨ SqT X.K H p ys) ∧ ∀ l, H l = none → Q (.ref l) (upd H l (.lst ys))) := by
  intro pins s σ H xs us Q I r h
  obtain ⟨p, ys, rfl, hq, q⟩ := h
  obtain ⟨u, rfl, rx⟩ := vals1 r
  cases rx
  have fin : ∀ (its : List Value), Vals ys its → ys.length ≤ sizeLine → ∀ (h' : Heap) (c' : Nat), (∀ b o', s.heap.get? b = some o' → h'.get? b = some o') →
      h'.get? s.heap.objs.size = some { cls := .type "list", dict := none, data := .seq its.toArray c', slots := #[] } → EP X pins σ Q (.ref s.heap.objs.size) { s with heap := h' } := fun its r' hz h' c' kp e =>
    ⟨.ref s.heap.objs.size, _, I.laid (t' := s.toks) kp (Nat.le_refl _) (show ObjOk X.prog X.w _ h' _ (.lst ys) from ⟨hz, its, c', r', e⟩), rfl, q _ (I.hok.fresh (Nat.le_refl _))⟩
  rcases hq with hq | hq
  · obtain ⟨its, r', pl, hz⟩ := I.list hq
    have hlen := r'.length
    obtain ⟨o, ho, hc, n, hd⟩ := pl.isList
    exact call_list_seq p (.inl rfl) ho hc hd (fun h' c' kp e => fin its r' hz h' c' kp e) (by simp only [List.size_toArray] <;> omega)
  · obtain ⟨its, r', pl, hz⟩ := I.tuple hq
    have hlen := r'.length
    obtain ⟨o, ho, hc, n, hd⟩ := pl
    exact call_list_seq p (.inr rfl) ho hc hd (fun h' c' kp e => fin its r' hz h' c' kp e) (by simp only [List.size_toArray] <;> omega)
/-! ### the call of a builtin's method: o.m(..) -/
/-- the value is of that builtin type -/
def tyV (K : PySem.W.Frag) (T : String) (x : V) (H : Hp) : Prop := match x with
  | .str _ => T = "str"
  | .int _ => T = "int"
  | .ref p => (T = "list" ∧ ∃ xs, SqL K H p xs) ∨ (T = "tuple" ∧ ∃ o, K.lookup p = some o ∧ o.cls = .type "tuple" ∧ o.dict = none) ∨
      (T = "dict" ∧ ((∃ kvs, H p = some (.dK kvs)) ∨ ∃ kvs, H p = some (.dT kvs))) ∨ (T = "set" ∧ ∃ S n, H p = some (.set S n))
  | _ => False
theorem tyV_is {pins : List (Addr × Obj)} {σ : St} {H : Hp} {s : Shared} {T : String} {x : V} {v : Value} (I : Inv X pins σ H s) (r : RelV x v) (ty : tyV X.K T x H) :
    s.TypeIs v T ∧ ∀ a, v = .ref a → ∃ ob, s.heap.get? a = some ob ∧ ob.dict = none := by
  cases x with
  | str z =>
    obtain ⟨t, rfl⟩ := r
    cases (show T = "str" from ty)
    exact ⟨typeIs_str s z t, fun _ e => nomatch e⟩
  | int i =>
    obtain ⟨t, rfl⟩ := r
    cases (show T = "int" from ty)
    exact ⟨typeIs_int s i t, fun _ e => nomatch e⟩
  | ref p =>
    cases r
    rcases ty with ⟨rfl, xs, hq⟩ | ⟨rfl, o, hk, hc, hd⟩ | ⟨rfl, hk⟩ | ⟨rfl, S, n, hk⟩
    · obtain ⟨its, _, pl, _⟩ := I.list hq
      refine ⟨pl.isList.typeIs, fun a e => ?_⟩
      cases e
      obtain ⟨o, n, e, c, hd, _⟩ := pl
      exact ⟨o, e, hd⟩
    · refine ⟨⟨o, I.kIn p o hk, hc⟩, fun a e => ?_⟩
      cases e
      exact ⟨o, I.kIn _ o hk, hd⟩
    · have z : ∃ o, s.heap.get? p = some o ∧ o.ExactDict := by
        rcases hk with ⟨kvs, hk⟩ | ⟨kvs, hk⟩
        · obtain ⟨_, _, _, _, o, _, _, e, ex, _⟩ := I.hok p _ hk
          exact ⟨o, e, ex⟩
        · obtain ⟨_, _, _, _, o, _, _, e, ex, _⟩ := I.hok p _ hk
          exact ⟨o, e, ex⟩
      obtain ⟨o, e, ex⟩ := z
      refine ⟨⟨o, e, ex.1⟩, fun a e2 => ?_⟩
      cases e2
      exact ⟨o, e, ex.2.1⟩
    · obtain ⟨o, _, _, _, e, ex, _⟩ := I.hok p _ hk
      refine ⟨⟨o, e, ex.1⟩, fun a e2 => ?_⟩
      cases e2
      exact ⟨o, e, ex.2.1⟩
  | _ => exact False.elim ty
def tBM (K : PySem.W.Frag) (T : String) (r : V → List V → Hp → VK → Prop) (to : TE) (t : TA) : TE := fun σ H Q => to σ H fun x H1 => tyV K T x H1 ∧ t σ H1 fun xs H2 => r x xs H2 Q
variable {o e : Expr} {es : List Expr} {to : TE} {t : TA} {name : Str} {apos cpos : Pos} {T id : String} {r : V → List V → Hp → VK → Prop}
theorem pe_bm (pa : PlainAttrs T) (slot : Slot T name id) (hty : typeOf (.builtin id) = pure (.type "method_descriptor")) (hm : MtR X id r) (ho : PE X o to) (ha : PA X (e :: es) t)
    (hbase : attributeBase o name X.env (eval o X.env) = eval o X.env := by rfl)
    (hfew : ((backTo cpos (starEach (e :: es) X.env)).all (fun x => !x.1) && (backToKw cpos (keywordEach [] X.env)).all (fun x => x.1.isSome)
      && decide ((e :: es).length + ([] : List Keyword).length + (if ([] : List Keyword).isEmpty then 0 else 1) < 30)) = true := by rfl)
    (hline : (apos.endLine == cpos.line) = true := by rfl) (hs : starEach (e :: es) X.env = (false, eval e X.env) :: starEach es X.env := by rfl) (hplain : (backTo cpos (starEach es X.env)).any (·.1) = false := by rfl) :
    PE X (.Call (.Attribute o name apos) (e :: es) [] cpos) (tBM X.K T r to t) := by
  intro pins s σ H Q I h
  refine wpAny_Call_method_late hbase hfew hline rfl (thn (ho pins s σ H _ I h) fun v s1 ⟨x, H1, I1, r1, ty, q1⟩ => ?_)
  obtain ⟨h1, h2⟩ := tyV_is I1 r1 ty
  refine ⟨T, id, pa, slot, hty, h1, h2, ?_⟩
  have hA := ha cpos pins s1 σ H1 _ I1 q1
  rw [hs] at hA ⊢
  refine Calls.callWith_builtin (by show (false || (backTo cpos (starEach es X.env)).any (·.1)) = false; rw [hplain] <;> rfl) (Calls.evalArgs_plain ?_)
  exact thn hA fun us s2 ⟨vs, H2, I2, r2, q2⟩ => hm pins s2 σ H2 x vs v us Q I2 r1 r2 q2
/- xs.append(e), list.index on a module's tuple .. are MtR facts of 06m -/
end
end L2
namespace L2
open PySem PySem.Spec PyProof.Rows
def MtM (X : Cx) (id : String) (r : V → List V → Hp → VK → Prop) : Prop :=
  ∀ (pins : List (Addr × Obj)) (s : Shared) (σ : St) (H : Hp) (x : V) (xs : List V) (v : Value) (us : List Value) (Q : VK), Inv X pins σ H s → RelV x v → Vals xs us → r x xs H Q →
    wpAny (model X.prog X.w) X.A (call (.builtin id) (v :: us)) (EP X pins σ Q) X.xe s
/-! ### lists of values -/
theorem Vals.one : ∀ {x : V} {us : List Value}, Vals [x] us → ∃ u, us = [u] ∧ RelV x u
  | _, _, .cons r .nil => ⟨_, rfl, r⟩
theorem Vals.two : ∀ {x y : V} {us : List Value}, Vals [x, y] us → ∃ u v, us = [u, v] ∧ RelV x u ∧ RelV y v
  | _, _, _, .cons r (.cons q .nil) => ⟨_, _, rfl, r, q⟩
theorem Vals.zero : ∀ {us : List Value}, Vals [] us → us = []
  | _, .nil => rfl
theorem Vals.dropLast {xs : List V} {us : List Value} (h : Vals xs us) : Vals xs.dropLast us.dropLast := by
  induction h with
  | nil => exact .nil
  | cons r t ih =>
    cases t with
    | nil => exact .nil
    | cons q t' => exact .cons r ih
theorem Vals.eraseIdx : ∀ {xs : List V} {us : List Value} (i : Nat), Vals xs us → Vals (xs.eraseIdx i) (us.eraseIdx i)
  | _, _, _, .nil => .nil
  | _, _, 0, .cons _ t => t
  | _, _, i + 1, .cons r t => .cons r (Vals.eraseIdx i t)
theorem Vals.reverse {xs : List V} {us : List Value} (h : Vals xs us) : Vals xs.reverse us.reverse := by
  induction h with
  | nil => exact .nil
  | cons r t ih => rw [List.reverse_cons, List.reverse_cons]; exact Vals.append ih (.cons r .nil)
section
variable {X : Cx} {pins : List (Addr × Obj)} {σ : St} {H : Hp} {s : Shared} {l b : Addr} {xs ys zs : List V}
/-! ### the two steps: a tracked list is rewritten, a new list is laid -/
theorem Inv.lset {its its' : List Value} {n : Nat} {f : Array Value → Array Value} {t' : Nat} (I : Inv X pins σ H s) (hH : H l = some (.lst xs))
    (e : s.heap.get? l = some { cls := .type "list", data := .seq its.toArray n }) (hf : f its.toArray = its'.toArray) (hv : Vals ys its') (hz : ys.length ≤ sizeLine) :
    Inv X pins σ (upd H l (.lst ys)) { s with heap := s.heap.update l (Obj.mapSeq f), toks := t' } := by
  have q := PySem.IsL.update e f
  rw [hf] at q
  refine I.write (x := l) (e := l) (by rw [hH]; exact trivial) (.inl rfl) (fun b' u hb hu => (Heap.get?_update_other s.heap (Obj.mapSeq f) (Ne.symm hb)).trans hu) ⟨_, q⟩ ?_
  exact ⟨hz, its', _, hv, q⟩
theorem Inv.lnew {its : List Value} {t' : Nat} (I : Inv X pins σ H s) (hv : Vals ys its) (hz : ys.length ≤ sizeLine) :
    Inv X pins σ (upd H s.heap.objs.size (.lst ys)) { s with heap := s.heap.push { cls := .type "list", data := .seq its.toArray }, toks := t' } :=
  I.laid (fun _ _ q => Heap.get?_push_of_some _ q) (Nat.le_refl _) ⟨hz, its, 0, hv, Heap.get?_push_size _ rfl⟩
theorem Inv.fresh (I : Inv X pins σ H s) : H s.heap.objs.size = none := I.hok.fresh (Nat.le_refl _)
theorem Inv.lstM (I : Inv X pins σ H s) (hH : H l = some (.lst xs)) : xs.length ≤ sizeLine ∧ ∃ (its : List Value) (n : Nat), Vals xs its ∧ xs.length = its.length ∧ s.heap.get? l = some { cls := .type "list", data := .seq its.toArray n } := by
  obtain ⟨z, its, n, r, e⟩ := I.hok l _ hH
  exact ⟨z, its, n, r, r.length, e⟩
end
section
variable {X : Cx}
/-! ### methods -/
def rAppend : V → List V → Hp → VK → Prop := fun x vs H Q => ∃ l xs y, x = .ref l ∧ vs = [y] ∧ H l = some (.lst xs) ∧ xs.length < sizeLine ∧ Q .non (upd H l (.lst (xs ++ [y])))
theorem mt_append : MtM X "list.append" rAppend := by
  intro pins s σ H x vs v us Q I rx rv h
  obtain ⟨l, xs, y, rfl, rfl, hH, hz, q⟩ := h
  cases rx
  obtain ⟨u, rfl, ru⟩ := rv.one
  obtain ⟨z, its, n, r, hl, e⟩ := I.lstM hH
  refine call_meets F.slot_list_append ⟨_, e, rfl⟩ F.entry_list_append (F.args_list_append_2 _ _) (PySem.list_append l its.toArray n u (by rw [List.size_toArray]; omega)) ⟨e, ?_⟩
  refine ⟨.non, _, I.lset (its' := its ++ [u]) hH e (by simp) (r.append (.cons ru .nil)) ?_, rfl, q⟩
  rw [List.length_append, List.length_singleton]
  omega
/-! ### list + list, list += list, list * int -/
def rCat : R2 := fun x y H Q => ∃ l b xs zs, x = .ref l ∧ y = .ref b ∧ H l = some (.lst xs) ∧ H b = some (.lst zs) ∧ xs.length + zs.length ≤ sizeLine ∧ ∀ p, H p = none → Q (.ref p) (upd H p (.lst (xs ++ zs)))
theorem op_cat : OpR X (binaryOp .Add) rCat := by
  intro pins s σ H x y v u Q I rx ry h
  obtain ⟨l, b, xs, zs, rfl, rfl, hH, hB, hz, q⟩ := h
  cases rx
  cases ry
  obtain ⟨z, its, n, r, hl, e⟩ := I.lstM hH
  obtain ⟨z2, its2, n2, r2, hl2, e2⟩ := I.lstM hB
  refine PySem.P.add_list e e2 ?_ (by rw [List.size_toArray, List.size_toArray]; omega)
  have ea : its.toArray ++ its2.toArray = (its ++ its2).toArray := by simp
  rw [ea]
  exact ⟨.ref _, _, I.lnew (t' := s.toks) (r.append r2) (by rw [List.length_append]; omega), rfl, q _ I.fresh⟩
/-! ### del xs[i] -/
end
/-! ### xs[a:b] = ys -/
section
variable {prog : Program} {w : World} {A : Around} {E : Value → Shared → Prop} {s : Shared}
end
section
variable {X : Cx}
end
end L2
namespace L2
open PySem PySem.Spec PyProof.Rows
/-! ### lists of pairs as tables -/
section
variable {κ : Type} [DecidableEq κ]
def valV (kvs : List (κ × V)) (k : κ) : Option V := (kvs.find? fun kv => decide (kv.1 = k)).map (·.2)
/-- in its place, or at the end -/
def putK (kvs : List (κ × V)) (k : κ) (v : V) : List (κ × V) :=
  if (kvs.any fun kv => decide (kv.1 = k)) = true then kvs.map (fun kv => if kv.1 = k then (kv.1, v) else kv) else kvs ++ [(k, v)]
def dropK (kvs : List (κ × V)) (k : κ) : List (κ × V) := kvs.filter fun kv => decide (kv.1 ≠ k)
theorem valV_pos {p : κ × V} {r : List (κ × V)} {k : κ} (e : p.1 = k) : valV (p :: r) k = some p.2 := by simp [valV, List.find?_cons, e]
theorem valV_neg {p : κ × V} {r : List (κ × V)} {k : κ} (e : ¬ p.1 = k) : valV (p :: r) k = valV r k := by simp [valV, List.find?_cons, e]
theorem valV_any (k : κ) : ∀ kvs : List (κ × V), (kvs.any fun kv => decide (kv.1 = k)) = (valV kvs k).isSome
  | [] => rfl
  | p :: r => by
    rw [List.any_cons]
    by_cases e : p.1 = k
    · simp only [valV_pos e, decide_eq_true e, Bool.true_or, Option.isSome_some]
    · rw [valV_neg e, decide_eq_false e, Bool.false_or]; exact valV_any k r
theorem valV_map (k j : κ) (y : V) : ∀ kvs : List (κ × V), valV (kvs.map fun kv => if kv.1 = k then (kv.1, y) else kv) j = (valV kvs j).map fun x => if j = k then y else x
  | [] => rfl
  | p :: r => by
    have ih := valV_map k j y r
    rw [List.map_cons]
    by_cases h : p.1 = k
    · rw [if_pos h]
      by_cases e : p.1 = j
      · rw [valV_pos (p := (p.1, y)) e, valV_pos e, Option.map_some, if_pos (e.symm.trans h)]
      · rw [valV_neg (p := (p.1, y)) e, valV_neg e, ih]
    · rw [if_neg h]
      by_cases e : p.1 = j
      · rw [valV_pos (p := p) e, valV_pos e, Option.map_some, if_neg (fun z => h (e.trans z))]
      · rw [valV_neg (p := p) e, valV_neg e, ih]
theorem valV_snoc (k j : κ) (y : V) : ∀ kvs : List (κ × V), valV kvs k = none → valV (kvs ++ [(k, y)]) j = if j = k then some y else valV kvs j
  | [], _ => by
    by_cases e : k = j
    · rw [if_pos e.symm]; exact valV_pos (p := (k, y)) e
    · rw [if_neg (fun z => e z.symm)]; exact valV_neg (p := (k, y)) e
  | p :: r, hn => by
    rw [List.cons_append]
    have hk : ¬ p.1 = k := fun z => by rw [valV_pos z] at hn; cases hn
    rw [valV_neg hk] at hn
    have ih := valV_snoc k j y r hn
    by_cases e : p.1 = j
    · rw [valV_pos e, valV_pos e, if_neg (fun z => hk (e.trans z))]
    · rw [valV_neg e, valV_neg e, ih]
theorem valV_put (kvs : List (κ × V)) (k j : κ) (y : V) : valV (putK kvs k y) j = if j = k then some y else valV kvs j := by
  unfold putK
  by_cases a : (kvs.any fun kv => decide (kv.1 = k)) = true
  · rw [if_pos a, valV_map]
    rw [valV_any] at a
    by_cases e : j = k
    · obtain ⟨x, hx⟩ := Option.isSome_iff_exists.mp a
      rw [if_pos e, e, hx, Option.map_some, if_pos rfl]
    · rw [if_neg e]
      cases valV kvs j with
      | none => rfl
      | some x => rw [Option.map_some, if_neg e]
  · rw [if_neg a]
    refine valV_snoc k j y kvs ?_
    rw [valV_any] at a
    cases q : valV kvs k with
    | none => rfl
    | some x => rw [q] at a; exact (a rfl).elim
theorem length_putK (kvs : List (κ × V)) (k : κ) (v : V) : (putK kvs k v).length ≤ kvs.length + 1 := by
  unfold putK
  split
  · rw [List.length_map]; omega
  · rw [List.length_append, List.length_cons, List.length_nil]; omega
theorem RelO.isSome_eq {o : Option V} {u : Option Value} (r : RelO o u) : o.isSome = u.isSome := by
  cases o with
  | none => cases u with
    | none => rfl
    | some _ => exact (show False from r).elim
  | some _ => cases u with
    | none => exact (show False from r).elim
    | some _ => rfl
theorem RelO.getD {o : Option V} {u : Option Value} {d : V} {d' : Value} (r : RelO o u) (rd : RelV d d') : RelV (o.getD d) (u.getD d') := by
  cases o with
  | none => cases u with
    | none => exact rd
    | some _ => exact (show False from r).elim
  | some _ => cases u with
    | none => exact (show False from r).elim
    | some _ => exact r
/-- raw tables of the same keys -/
theorem KV.val {kvs : List (κ × V)} {vs : List (κ × Value)} (r : KV kvs vs) (k : κ) : RelO (valV kvs k) (valueAt vs k) := by
  unfold KV at r
  induction r with
  | nil => exact True.intro
  | @cons p q ps qs h t ih =>
    obtain ⟨h1, h2⟩ := h
    by_cases e : p.1 = k
    · have e' : q.1 = k := h1.symm.trans e
      have b : valueAt (q :: qs) k = some q.2 := by simp [valueAt, List.find?_cons, e']
      rw [valV_pos e, b]; exact h2
    · have e' : ¬ q.1 = k := fun z => e (h1.trans z)
      have b : valueAt (q :: qs) k = valueAt qs k := by simp [valueAt, List.find?_cons, e']
      rw [valV_neg e, b]; exact ih
theorem KV.any {kvs : List (κ × V)} {vs : List (κ × Value)} (r : KV kvs vs) (k : κ) : (kvs.any fun kv => decide (kv.1 = k)) = vs.any fun kv => decide (kv.1 = k) := by
  unfold KV at r
  induction r with
  | nil => rfl
  | cons h t ih => rw [List.any_cons, List.any_cons, ih, h.1]
theorem KV.repl {kvs : List (κ × V)} {vs : List (κ × Value)} (r : KV kvs vs) (k : κ) {y : V} {u : Value} (ry : RelV y u) :
    KV (kvs.map fun kv => if kv.1 = k then (kv.1, y) else kv) (vs.map fun kv => if kv.1 = k then (kv.1, u) else kv) := by
  unfold KV at r ⊢
  induction r with
  | nil => exact .nil
  | @cons p q ps qs h t ih =>
    rw [List.map_cons, List.map_cons]
    refine .cons ?_ ih
    obtain ⟨h1, h2⟩ := h
    by_cases e : p.1 = k
    · rw [if_pos e, if_pos (h1.symm.trans e)]; exact ⟨h1, ry⟩
    · rw [if_neg e, if_neg (fun z => e (h1.trans z))]; exact ⟨h1, h2⟩
theorem KV.put {kvs : List (κ × V)} {vs : List (κ × Value)} (r : KV kvs vs) (k : κ) {y : V} {u : Value} (ry : RelV y u) : KV (putK kvs k y) (stored vs k u) := by
  unfold putK stored
  rw [r.any k]
  by_cases e : (vs.any fun kv => decide (kv.1 = k)) = true
  · rw [if_pos e, if_pos e]; exact r.repl k ry
  · rw [if_neg e, if_neg e]; exact Paired.snoc r ⟨rfl, ry⟩
theorem KV.drop {kvs : List (κ × V)} {vs : List (κ × Value)} (r : KV kvs vs) (k : κ) : KV (dropK kvs k) (without vs k) := by
  unfold KV at r ⊢
  unfold dropK without
  induction r with
  | nil => exact .nil
  | @cons p q ps qs h t ih =>
    obtain ⟨h1, h2⟩ := h
    rw [List.filter_cons, List.filter_cons]
    by_cases e : p.1 = k
    · have a : ¬ decide (p.1 ≠ k) = true := by simp [e]
      have b : ¬ decide (q.1 ≠ k) = true := by simp [h1.symm.trans e]
      rw [if_neg a, if_neg b]; exact ih
    · have e' : ¬ q.1 = k := fun z => e (h1.trans z)
      have a : decide (p.1 ≠ k) = true := by simp [e]
      have b : decide (q.1 ≠ k) = true := by simp [e']
      rw [if_pos a, if_pos b]; exact .cons ⟨h1, h2⟩ ih
theorem KV.keys {kvs : List (κ × V)} {vs : List (κ × Value)} (r : KV kvs vs) : kvs.map (·.1) = vs.map (·.1) := by
  unfold KV at r
  induction r with
  | nil => rfl
  | cons h t ih => rw [List.map_cons, List.map_cons, ih, h.1]
theorem KV.length {kvs : List (κ × V)} {vs : List (κ × Value)} (r : KV kvs vs) : kvs.length = vs.length := Paired.length r
end
/-! ### a tracked dict, its keys ints and texts or tuples of these -/
theorem kV_is {P : Program} {w : World} {k : Key} {u : Value} (r : RelV (kV k) u) : (mixKind P w).is k u = true := by
  cases k with
  | inl i => obtain ⟨t, e⟩ := (show ∃ t, u = Value.int i t from r); subst e; exact mixKind_int P w i t
  | inr x => obtain ⟨t, e⟩ := (show ∃ t, u = Value.str x t from r); subst e; exact mixKind_str P w x t
theorem items_are {P : Program} {w : World} : ∀ {ks : List Key} {us : List Value}, Vals (ks.map kV) us → ItemsAre (mixKind P w) ks us
  | [], _, r => by rw [List.map_nil] at r; cases r; exact .nil
  | k :: ks, _, r => by
    rw [List.map_cons] at r
    cases r with
    | cons h t => exact .cons (kV_is h) (items_are t)
/-- raw entries of a dict with tuple keys -/
abbrev KT (H : Hp) : List (List Key × V) → List (List Key × Addr × Value) → Prop := Paired fun p q => p.1 = q.1 ∧ H q.2.1 = some (.tup (p.1.map kV)) ∧ RelV p.2 q.2.2
theorem KT.val {H : Hp} {kvs : List (List Key × V)} {xs : List (List Key × Addr × Value)} (r : KT H kvs xs) (k : List Key) : RelO (valV kvs k) ((atKey xs k).map (·.2)) := by
  induction r with
  | nil => exact True.intro
  | @cons p q ps qs h t ih =>
    obtain ⟨h1, _, h2⟩ := h
    by_cases e : p.1 = k
    · have e' : q.1 = k := h1.symm.trans e
      have b : atKey (q :: qs) k = some q.2 := by simp [atKey, List.find?_cons, e']
      rw [valV_pos e, b]; exact h2
    · have e' : ¬ q.1 = k := fun z => e (h1.trans z)
      have b : atKey (q :: qs) k = atKey qs k := by simp [atKey, List.find?_cons, e']
      rw [valV_neg e, b]; exact ih
theorem KT.repl {H : Hp} {kvs : List (List Key × V)} {xs : List (List Key × Addr × Value)} (r : KT H kvs xs) (k : List Key) {y : V} {u : Value} (ry : RelV y u) :
    KT H (kvs.map fun kv => if kv.1 = k then (kv.1, y) else kv) (xs.map (putAt k u)) := by
  induction r with
  | nil => exact .nil
  | @cons p q ps qs h t ih =>
    rw [List.map_cons, List.map_cons]
    refine .cons ?_ ih
    obtain ⟨h1, h2, h3⟩ := h
    unfold putAt
    by_cases e : p.1 = k
    · rw [if_pos e, if_pos (h1.symm.trans e)]; exact ⟨h1, h2, ry⟩
    · rw [if_neg e, if_neg (fun z => e (h1.trans z))]; exact ⟨h1, h2, h3⟩
theorem KT.put {H : Hp} {kvs : List (List Key × V)} {xs : List (List Key × Addr × Value)} (r : KT H kvs xs) (k : List Key) {b : Addr} {y : V} {u : Value} (hb : H b = some (.tup (k.map kV))) (ry : RelV y u) :
    KT H (putK kvs k y) (storedH xs k b u) := by
  have e : (kvs.any fun kv => decide (kv.1 = k)) = (atKey xs k).isSome := by
    rw [valV_any, (r.val k).isSome_eq, Option.isSome_map]
  unfold putK storedH
  rw [e]
  by_cases q : (atKey xs k).isSome = true
  · rw [if_pos q, if_pos q]; exact r.repl k ry
  · rw [if_neg q, if_neg q]; exact Paired.snoc r ⟨rfl, hb, ry⟩
theorem KT.keeps {H H' : Hp} {kvs : List (List Key × V)} {xs : List (List Key × Addr × Value)} (r : KT H kvs xs) (ht : ∀ b ys, H b = some (.tup ys) → H' b = some (.tup ys)) : KT H' kvs xs :=
  Paired.mapP r fun _ _ z => ⟨z.1, ht _ _ z.2.1, z.2.2⟩
section
variable {P : Program} {w : World} {H : Hp} {h : Heap} {a : Addr}
theorem rd_of {u : HO} (ok : HOk P w H h) (e : Rd H a u) : ObjOk P w H h a u := e.ok ok
theorem dk_rd {kvs : List (Key × V)} (ok : HOk P w H h) (e : Rd H a (.dK kvs)) : kvs.length ≤ sizeLine ∧ (a == sysModules) = false ∧ ∃ vs, KV kvs vs ∧ h.DictOf (mixKind P w) a vs :=
  show ObjOk P w H h a (.dK kvs) from rd_of ok e
theorem dk_of {kvs : List (Key × V)} (ok : HOk P w H h) (e : H a = some (.dK kvs)) : kvs.length ≤ sizeLine ∧ (a == sysModules) = false ∧ ∃ vs, KV kvs vs ∧ h.DictOf (mixKind P w) a vs := dk_rd ok (.inl e)
/-- a tracked tuple of ints and texts is a key -/
theorem key_of {ks : List Key} (ok : HOk P w H h) (e : H a = some (.tup (ks.map kV))) : (tupleKind (mixKind P w)).is h ks a := by
  obtain ⟨_, its, r, o, h1, h2, n, h3⟩ := (show ObjOk P w H h a (.tup (ks.map kV)) from ok a _ e)
  exact ⟨o, its.toArray, n, h1, h2, h3, by simpa using items_are r⟩
theorem dt_rd {kvs : List (List Key × V)} (ok : HOk P w H h) (e : Rd H a (.dT kvs)) : kvs.length ≤ sizeLine ∧ (a == sysModules) = false ∧
    ∃ xs, KT H kvs xs ∧ h.DictOfH (tupleKind (mixKind P w)) a xs := by
  obtain ⟨z, y, xs, r, o, es, ep, h1, h2, h3, h4, h5⟩ := (show ObjOk P w H h a (.dT kvs) from rd_of ok e)
  refine ⟨z, y, xs, r, o, es, ep, h1, h2, h3, h4, fun x hx => ?_, h5⟩
  have all : ∀ {l : List (List Key × V)} {m : List (List Key × Addr × Value)}, KT H l m → ∀ x ∈ m, (tupleKind (mixKind P w)).is h x.1 x.2.1 := by
    intro l m q
    induction q with
    | nil => intro x hx; exact nomatch hx
    | @cons p q ps qs hq t ih =>
      intro x hx
      rcases List.mem_cons.mp hx with e | hx
      · subst e
        exact key_of ok (by rw [← hq.1]; exact hq.2.1)
      · exact ih x hx
  exact all r x hx
theorem dt_of {kvs : List (List Key × V)} (ok : HOk P w H h) (e : H a = some (.dT kvs)) : kvs.length ≤ sizeLine ∧ (a == sysModules) = false ∧
    ∃ xs, KT H kvs xs ∧ h.DictOfH (tupleKind (mixKind P w)) a xs := dt_rd ok (.inl e)
end
/-- what the dict at a holds at the key y -/
def DGet (H : Hp) (a : Addr) (y : V) (r : Option V) : Prop :=
  (∃ kvs k, Rd H a (.dK kvs) ∧ y = kV k ∧ r = valV kvs k) ∨ ∃ kvs k b, Rd H a (.dT kvs) ∧ y = .ref b ∧ H b = some (.tup (k.map kV)) ∧ r = valV kvs k
/-- the heap behind a[y] = v -/
def DPut (H : Hp) (a : Addr) (y v : V) (H' : Hp) : Prop :=
  (∃ kvs k, H a = some (.dK kvs) ∧ y = kV k ∧ kvs.length < sizeLine ∧ H' = upd H a (.dK (putK kvs k v))) ∨
  ∃ kvs k b, H a = some (.dT kvs) ∧ y = .ref b ∧ H b = some (.tup (k.map kV)) ∧ kvs.length < sizeLine ∧ H' = upd H a (.dT (putK kvs k v))
theorem DGet.k {H : Hp} {a : Addr} {kvs : List (Key × V)} {k : Key} (e : H a = some (.dK kvs)) : DGet H a (kV k) (valV kvs k) := .inl ⟨kvs, k, .inl e, rfl, rfl⟩
theorem DGet.t {H : Hp} {a b : Addr} {kvs : List (List Key × V)} {k : List Key} (e : H a = some (.dT kvs)) (eb : H b = some (.tup (k.map kV))) : DGet H a (.ref b) (valV kvs k) := .inr ⟨kvs, k, b, .inl e, rfl, eb, rfl⟩
theorem DPut.k {H : Hp} {a : Addr} {kvs : List (Key × V)} {k : Key} {v : V} (e : H a = some (.dK kvs)) (hl : kvs.length < sizeLine) : DPut H a (kV k) v (upd H a (.dK (putK kvs k v))) := .inl ⟨kvs, k, e, rfl, hl, rfl⟩
theorem DPut.t {H : Hp} {a b : Addr} {kvs : List (List Key × V)} {k : List Key} {v : V} (e : H a = some (.dT kvs)) (eb : H b = some (.tup (k.map kV))) (hl : kvs.length < sizeLine) :
    DPut H a (.ref b) v (upd H a (.dT (putK kvs k v))) := .inr ⟨kvs, k, b, e, rfl, eb, hl, rfl⟩
section
variable {X : Cx} {pins : List (Addr × Obj)} {σ : St} {H : Hp} {s : Shared} {a : Addr} {y v : V} {u r : Value} {o : Option V} {A : Around} {E : Value → Shared → Prop}
theorem Inv.big (I : Inv X pins σ H s) : sysModules < s.heap.objs.size := by
  have h : mainGlobals < s.heap.objs.size := (I.mod.glob.keeps I.bk).lt
  exact Nat.lt_trans (by decide) h
/-- d[y], there -/
theorem d_getItem {Q : Value → Shared → Prop} (hu : A.units + 1 < cLine) (I : Inv X pins σ H s) (g : DGet H a y (some v)) (ry : RelV y u) (h : ∀ w' s', Inv X pins σ H s' → RelV v w' → Q w' s') :
    wpAny (model X.prog X.w) A (getItem (.ref a) u) Q E s := by
  rcases g with ⟨kvs, k, e, ey, l⟩ | ⟨kvs, k, b, e, ey, eb, l⟩
  · subst ey
    obtain ⟨z, hd, vs, rel, dd⟩ := dk_rd I.hok e
    obtain ⟨w', hw, rw'⟩ := RelO.some_of (v := v) (o := valueAt vs k) (by rw [l]; exact rel.val k)
    exact wpAny_getItem_of (kV_is ry) dd.mapOf hw (h w' _ (I.tok _) rw')
  · subst ey
    cases (show u = Value.ref b from ry)
    obtain ⟨z, hd, xs, rel, dd⟩ := dt_rd I.hok e
    obtain ⟨w', hw, rw'⟩ := RelO.some_of (v := v) (o := (atKey xs k).map (·.2)) (by rw [l]; exact rel.val k)
    obtain ⟨p, hp, hp2⟩ := Option.map_eq_some_iff.mp hw
    refine wpAny_getItem_heap (tupleKind_room_in1 hu) (key_of I.hok eb) dd hp ?_
    rw [hp2]
    exact h w' _ (I.tok _) rw'
theorem d_notIn {Q : Value → Shared → Prop} (hu : A.units + 1 < cLine) (I : Inv X pins σ H s) (g : DGet H a y o) (ry : RelV y u) (h : ∀ s', Inv X pins σ H s' → Q (.bool (!o.isSome)) s') :
    wpAny (model X.prog X.w) A (compareOp .NotIn u (.ref a)) Q E s := by
  rcases g with ⟨kvs, k, e, ey, l⟩ | ⟨kvs, k, b, e, ey, eb, l⟩
  · subst ey
    obtain ⟨z, hd, vs, rel, dd⟩ := dk_rd I.hok e
    refine wpAny_notIn_of (kV_is ry) hd dd.mapOf ?_
    rw [← (rel.val k).isSome_eq, ← l]
    exact h _ (I.tok _)
  · subst ey
    cases (show u = Value.ref b from ry)
    obtain ⟨z, hd, xs, rel, dd⟩ := dt_rd I.hok e
    refine wpAny_notIn_heap (tupleKind_room_in1 hu) (key_of I.hok eb) hd dd ?_
    have q := (rel.val k).isSome_eq
    rw [Option.isSome_map] at q
    rw [← q, ← l]
    exact h _ (I.tok _)
/-- a dict's object is replaced -/
theorem d_write {h' : Heap} {t' : Nat} {ob : HO} (I : Inv X pins σ H s) (mu : Mut (H a)) (hs : Heap.SameBut a s.heap h') (he : ∃ q, h'.get? a = some q) (new : ObjOk X.prog X.w (upd H a ob) h' a ob) :
    Inv X pins σ (upd H a ob) { s with heap := h', toks := t' } :=
  I.write (x := a) (e := a) mu (.inl rfl) (fun b q hb z => (hs.2 b hb).trans z) he new
theorem dk_new {P : Program} {w : World} {H' : Hp} {h' : Heap} {kvs : List (Key × V)} {vs : List (Key × Value)} (z : kvs.length ≤ sizeLine) (hd : (a == sysModules) = false) (rel : KV kvs vs) (dd : h'.DictOf (mixKind P w) a vs) :
    ObjOk P w H' h' a (.dK kvs) := ⟨z, hd, vs, rel, dd⟩
/-- d[y] = v -/
theorem d_setItem {H' : Hp} {Q : Unit → Shared → Prop} (hu : A.units + 1 < cLine) (I : Inv X pins σ H s) (g : DPut H a y v H') (ry : RelV y u) (rv : RelV v r) (h : ∀ s', Inv X pins σ H' s' → Q () s') :
    wpAny (model X.prog X.w) A (setItem (.ref a) u r) Q E s := by
  rcases g with ⟨kvs, k, e, ey, l, eH⟩ | ⟨kvs, k, b, e, ey, eb, l, eH⟩
  · subst ey eH
    obtain ⟨z, hd, vs, rel, dd⟩ := dk_of I.hok e
    have hz : vs.length ≤ sizeLine := by rw [← rel.length]; exact z
    have hl : (putK kvs k v).length ≤ sizeLine := by have := length_putK kvs k v; omega
    refine wpAny_setItem_pairs (hsz := hz) (kV_is ry) dd fun h' dd' hs => h _ ?_
    have he : ∃ q, h'.get? a = some q := let ⟨q, _, _, hq, _⟩ := dd'; ⟨q, hq⟩
    exact d_write I (by rw [e]; exact True.intro) hs he (dk_new hl hd (rel.put k rv) dd')
  · subst ey eH
    cases (show u = Value.ref b from ry)
    obtain ⟨z, hd, xs, rel, dd⟩ := dt_of I.hok e
    have hz : xs.length ≤ sizeLine := by rw [← Paired.length rel]; exact z
    have hl : (putK kvs k v).length ≤ sizeLine := by have := length_putK kvs k v; omega
    refine wpAny_setItem_heap (hsz := hz) (tupleKind_room_in1 hu) (key_of I.hok eb) dd fun h' dd' hs => h _ ?_
    obtain ⟨q, es, ep, hq, h2, h3, h4, _, h5⟩ := dd'
    refine d_write I (by rw [e]; exact True.intro) hs ⟨q, hq⟩ ⟨hl, hd, _, (rel.put k eb rv).keeps fun c ys ec => ?_, q, es, ep, hq, h2, h3, h4, h5⟩
    rw [upd_ne (ne_of ec e (fun z => nomatch z))]
    exact ec
end
section
variable {X : Cx} {pins : List (Addr × Obj)} {σ : St} {H : Hp} {s : Shared} {a : Addr} {kvs : List (Key × V)} {k : Key} {u : Value} {A : Around} {E : Value → Shared → Prop}
end
/-! ### readings and rules -/
/-- the element of a subscription, not a slice -/
def NoSl (i : Expr) : Prop := ∀ ov iv, subscripted i false ov iv = operate [ov, iv] (getItem ov iv)
theorem subD_of {prog : Program} {w : World} {A : Around} {E : Value → Shared → Prop} {s : Shared} {env : Env} {value slice : Expr} {pos : Pos} {T id : String} {Q : Value → Shared → Prop}
    (hl : typeLookup (.type T) "__getitem__" = pure (some (.builtin id))) (hs : NoSl slice)
    (h : wpAny (model prog w) A (eval value env) (fun o s₁ => wpAny (model prog w) A (eval slice env) (fun i s₂ => s₂.TypeIs o T ∧ wpAny (model prog w) A (getItem o i) Q E s₂) E s₁) E s) :
    wpAny (model prog w) A (eval (.Subscript value slice pos) env) Q E s := by
  refine Subscript_ (wpAny_mono h (fun o s₁ h₁ => wpAny_mono h₁ (fun i s₂ h₂ => ?_) fun _ _ x => x) fun _ _ x => x)
  obtain ⟨hT, h₂⟩ := h₂
  unfold subscriptTail
  refine wpAny_bind ?_
  rw [getitemInPython_of_ne hT.not_modules]
  refine wpAny_bind (wpAny_specialOf hT hl ?_)
  have fin : wpAny (model prog w) A (subscripted slice false o i) (fun r s₃ => wpAny (model prog w) A (letTemporaryGo value o r >>= fun _ => pure r) Q E s₃) E s₂ := by
    rw [hs o i]
    exact wpAny_operating (wpAny_mono h₂ (fun r s₃ h₃ => wpAny_bind (wpAny_letTemporaryGo (wpAny_pure h₃))) fun _ _ x => x)
  first
    | exact wpAny_pure (wpAny_bind fin)
    | exact wpAny_bind (wpAny_pure (wpAny_bind fin))
    | exact wpAny_bind fin
theorem dict_typeIs {X : Cx} {pins : List (Addr × Obj)} {σ : St} {H : Hp} {s : Shared} {a : Addr} {y : V} {o : Option V} (I : Inv X pins σ H s) (g : DGet H a y o) : s.TypeIs (.ref a) "dict" := by
  rcases g with ⟨kvs, k, e, _, _⟩ | ⟨kvs, k, b, e, _, _, _⟩
  · obtain ⟨_, _, vs, _, dd⟩ := dk_rd I.hok e
    exact dd.typeIs
  · obtain ⟨_, _, xs, _, dd⟩ := dt_rd I.hok e
    exact dd.typeIs
/-- d[y] -/
def tDGet (td ty : TE) : TE := fun σ H Q => td σ H fun x H1 => ty σ H1 fun y H2 => ∃ a v, x = .ref a ∧ DGet H2 a y (some v) ∧ Q v H2
def tDNotIn (ty td : TE) : TE := fun σ H Q => ty σ H fun y H1 => td σ H1 fun x H2 => ∃ a o, x = .ref a ∧ DGet H2 a y o ∧ Q (.bl (!o.isSome)) H2
/-- d[y] = v -/
def sDPut (td ty tv : TE) : TS := fun D σ H => tv σ H fun v H1 => td σ H1 fun x H2 => ty σ H2 fun y H3 => ∃ a H4, x = .ref a ∧ DPut H3 a y v H4 ∧ D.nx σ H4
section
variable {X : Cx} {o i e value : Expr} {pos pos' tpos : Pos} {td ty tv : TE}
theorem pe_dget (hu : X.A.units + 1 < cLine) (ho : PE X o td) (hi : PE X i ty) (hs : NoSl i) : PE X (.Subscript o i pos) (tDGet td ty) := by
  intro pins s σ H Q I h
  refine subD_of PySem.F.slot_dict_getitem.lookup hs (thn (ho pins s σ H _ I h) fun u s1 ⟨x, H1, I1, rx, q1⟩ => thn (hi pins s1 σ H1 _ I1 q1) fun iv s2 ⟨y, H2, I2, ry, a, v, ex, g, q2⟩ => ?_)
  subst ex
  obtain rfl : u = Value.ref a := rx
  exact ⟨dict_typeIs I2 g, d_getItem hu I2 g ry fun w' s3 I3 rw' => ⟨v, H2, I3, rw', q2⟩⟩
theorem pc_dnotin (hu : X.A.units + 1 < cLine) (hi : PE X i ty) (ho : PE X o td) : PC X .NotIn i o (tDNotIn ty td) := by
  intro pins s σ H Q I h
  refine thn (hi pins s σ H _ I h) fun iv s1 ⟨y, H1, I1, ry, q1⟩ => thn (ho pins s1 σ H1 _ I1 q1) fun u s2 ⟨x, H2, I2, rx, a, ov, ex, g, q2⟩ => ?_
  subst ex
  obtain rfl : u = Value.ref a := rx
  exact d_notIn hu I2 g ry fun s3 I3 => ⟨.bl (!ov.isSome), H2, I3, rfl, q2⟩
theorem ps_dput (hu : X.A.units + 1 < cLine) (ho : PE X o td) (hi : PE X i ty) (hv : PE X value tv) (hs : swapsWith value (some (.Subscript o i pos')) pos.line X.env = pure false) :
    PS X (.Assign [.Subscript o i pos'] value pos) (sDPut td ty tv) := by
  intro pins s σ H D I h
  refine wpAny_Assign_Subscript (thn (hv pins s σ H _ I h) fun r s1 ⟨v, H1, I1, rv, q1⟩ => thn (ho pins s1 σ H1 _ I1 q1) fun u s2 ⟨x, H2, I2, rx, q2⟩ => thn (hi pins s2 σ H2 _ I2 q2) fun iv s3 ⟨y, H3, I3, ry, a, H4, ex, g, q3⟩ => ?_) hs
  subst ex
  obtain rfl : u = Value.ref a := rx
  exact d_setItem hu I3 g ry rv fun s4 I4 => ⟨σ, H4, I4, q3⟩
end
/-! ### displays -/
theorem dk_empty {P : Program} {w : World} {H : Hp} (h : Heap) (hb : sysModules < h.objs.size) : ObjOk P w H (h.push { cls := .type "dict", data := .dict #[] }) h.objs.size (.dK []) :=
  ⟨Nat.zero_le _, beq_eq_false_iff_ne.mpr (Ne.symm (Nat.ne_of_lt hb)), [], .nil, Heap.DictOf.new h⟩
theorem dt_empty {P : Program} {w : World} {H : Hp} (h : Heap) (hb : sysModules < h.objs.size) : ObjOk P w H (h.push { cls := .type "dict", data := .dict #[] }) h.objs.size (.dT []) :=
  ⟨Nat.zero_le _, beq_eq_false_iff_ne.mpr (Ne.symm (Nat.ne_of_lt hb)), [], .nil, _, #[], 0, Heap.get?_push_size _ rfl, ⟨rfl, rfl, rfl⟩, rfl, rfl, List.nodup_nil⟩
/-- {}, to be a dict of the kind that is wanted -/
def tDNewK : TE := fun _ H Q => ∀ p, H p = none → Q (.ref p) (upd H p (.dK []))
def tDNewT : TE := fun _ H Q => ∀ p, H p = none → Q (.ref p) (upd H p (.dT []))
section
variable {X : Cx} {pos : Pos}
theorem pe_dnewK : PE X (.Dict [] [] pos) tDNewK := fun pins s σ H Q I h =>
  wpAny_Dict_empty ⟨.ref s.heap.objs.size, _, I.laid (a := s.heap.objs.size) (o := .dK []) (t' := s.toks) (fun _ _ q => Heap.get?_push_of_some _ q) (Nat.le_refl _) (dk_empty s.heap I.big), rfl, h _ (I.hok.fresh (Nat.le_refl _))⟩
theorem pe_dnewT : PE X (.Dict [] [] pos) tDNewT := fun pins s σ H Q I h =>
  wpAny_Dict_empty ⟨.ref s.heap.objs.size, _, I.laid (a := s.heap.objs.size) (o := .dT []) (t' := s.toks) (fun _ _ q => Heap.get?_push_of_some _ q) (Nat.le_refl _) (dt_empty s.heap I.big), rfl, h _ (I.hok.fresh (Nat.le_refl _))⟩
end
/-! ### methods -/
structure M2 (X : Cx) (o : Expr) (m : Str) (apos : Pos) (e f : Expr) (cpos : Pos) : Prop where
  base : attributeBase o m X.env (eval o X.env) = eval o X.env
  few : ((backTo cpos (starEach [e, f] X.env)).all (fun x => !x.1) && (backToKw cpos (keywordEach [] X.env)).all (fun x => x.1.isSome)
    && decide (([e, f] : List Expr).length + ([] : List Keyword).length + (if ([] : List Keyword).isEmpty then 0 else 1) < 30)) = true
  line : (apos.endLine == cpos.line) = true
  trees : backTo cpos (starEach [e, f] X.env) = [(false, eval e X.env), (false, eval f X.env)]
/-- a is a dict, whatever its keys -/
def IsD (H : Hp) (a : Addr) : Prop := (∃ kvs, Rd H a (.dK kvs)) ∨ ∃ kvs, Rd H a (.dT kvs)
theorem isD_at {X : Cx} {pins : List (Addr × Obj)} {σ : St} {H : Hp} {s : Shared} {a : Addr} (I : Inv X pins σ H s) (d : IsD H a) :
    s.TypeIs (.ref a) "dict" ∧ (∀ b, Value.ref a = .ref b → ∃ ob, s.heap.get? b = some ob ∧ ob.dict = none) ∧ (a == sysModules) = false := by
  rcases d with ⟨kvs, e⟩ | ⟨kvs, e⟩
  · obtain ⟨_, hd, vs, _, dd⟩ := dk_rd I.hok e
    refine ⟨dd.typeIs, fun b q => ?_, hd⟩
    cases q
    obtain ⟨ob, _, _, h1, h2, _⟩ := dd
    exact ⟨ob, h1, h2.2.1⟩
  · obtain ⟨_, hd, xs, _, dd⟩ := dt_rd I.hok e
    refine ⟨dd.typeIs, fun b q => ?_, hd⟩
    cases q
    obtain ⟨ob, _, _, h1, h2, _⟩ := dd
    exact ⟨ob, h1, h2.2.1⟩
section
variable {X : Cx} {pins : List (Addr × Obj)} {σ : St} {H : Hp} {s : Shared} {a : Addr} {y d : V} {u r : Value} {o : Option V} {A : Around} {E : Value → Shared → Prop}
/-- d.get(y, x) -/
theorem d_get2 {Q : Value → Shared → Prop} (hu : A.units + 1 < cLine) (I : Inv X pins σ H s) (g : DGet H a y o) (ry : RelV y u) (rd : RelV d r) (h : ∀ w' s', Inv X pins σ H s' → RelV (o.getD d) w' → Q w' s') :
    wpAny (model X.prog X.w) A (call (.builtin "dict.get") [.ref a, u, r]) Q E s := by
  rcases g with ⟨kvs, k, e, ey, l⟩ | ⟨kvs, k, b, e, ey, eb, l⟩
  · subst ey
    obtain ⟨z, hd, vs, rel, dd⟩ := dk_rd I.hok e
    refine call_meetsIn PySem.F.slot_dict_get dd.typeIs PySem.F.entry_dict_get (PySem.F.args_dict_get_3 _ _ _) (meets_dict_get_default (mixKind X.prog X.w) a (kV_is ry) hd r) ⟨_, dd.mapOf, h _ _ (I.tok _) ?_⟩
    rw [l]
    exact (rel.val k).getD rd
  · subst ey
    cases (show u = Value.ref b from ry)
    obtain ⟨z, hd, xs, rel, dd⟩ := dt_rd I.hok e
    refine call_meetsIn PySem.F.slot_dict_get dd.typeIs PySem.F.entry_dict_get (PySem.F.args_dict_get_3 _ _ _) (meetsH_dict_get_default (tupleKind (mixKind X.prog X.w)) a b hd r) ⟨tupleKind_room_in1 hu, k, xs, key_of I.hok eb, dd, h _ _ (I.tok _) ?_⟩
    rw [l]
    exact (rel.val k).getD rd
end
def tDGet2 (td ty tx : TE) : TE := fun σ H Q => td σ H fun x H1 => ∃ a, x = .ref a ∧ IsD H1 a ∧ ty σ H1 fun y H2 => tx σ H2 fun z H3 => ∃ o, DGet H3 a y o ∧ Q (o.getD z) H3
section
variable {X : Cx} {o e f : Expr} {apos cpos : Pos} {td ty tx : TE}
theorem pe_dget2 (hu : X.A.units + 1 < cLine) (ho : PE X o td) (he : PE X e ty) (hf : PE X f tx) (m : M2 X o "get" apos e f cpos) : PE X (.Call (.Attribute o "get" apos) [e, f] [] cpos) (tDGet2 td ty tx) := by
  intro pins s σ H Q I h
  refine wpAny_Call_method m.base m.few m.line PySem.F.plainAttrs_dict PySem.F.slot_dict_get PySem.F.type_dict_get (thn (ho pins s σ H _ I h) fun u s1 ⟨x, H1, I1, rx, a, ex, d, q1⟩ => ?_)
  subst ex
  obtain rfl : u = Value.ref a := rx
  obtain ⟨t1, t2, _⟩ := isD_at I1 d
  refine ⟨t1, t2, ?_⟩
  rw [m.trees]
  refine Calls.callWith_builtin rfl (Calls.evalArgs_plain (Calls.spliced_cons (thn (he pins s1 σ H1 _ I1 q1) fun iv s2 ⟨y, H2, I2, ry, q2⟩ =>
    Calls.spliced_cons (thn (hf pins s2 σ H2 _ I2 q2) fun fv s3 ⟨z, H3, I3, rz, ov, g, q3⟩ => Calls.spliced_nil ?_))))
  exact d_get2 hu I3 g ry rz fun w' s4 I4 rw' => ⟨_, H3, I4, rw', q3⟩
end
/-! ### dict(d): a copy -/
section
variable {X : Cx} {pins : List (Addr × Obj)} {σ : St} {H : Hp} {s : Shared} {a : Addr} {kvs : List (Key × V)} {A : Around} {E : Value → Shared → Prop}
end
section
variable {X : Cx} {pins : List (Addr × Obj)} {σ : St} {H : Hp} {s : Shared} {a : Addr} {y : V} {u : Value} {A : Around} {E : Value → Shared → Prop}
end
end L2
namespace Att
open PySem PySem.W PySem.Calls PyProof.Rows
/-! ### the script -/
theorem ints_of_wellAll {P : Params} {h : Heap} : ∀ (ns : List Int) (vs : List Value), WellAll P h vs (ns.map WData.int) → IntsAre vs ns := by
  intro ns
  induction ns with
  | nil =>
    intro vs w
    rw [List.map_nil] at w
    cases w
    exact .nil
  | cons n ns ih =>
    intro vs w
    rw [List.map_cons] at w
    cases w with
    | cons a b =>
      cases a
      exact .cons _ _ (ih _ b)
theorem script_of {l : OpenLaw} {n : Nat} (hn : l.most = some n) {P : Params} {h : Heap} {args : List WData} {vals : List Value}
    (hpre : l.row.toRowW.claim.pre args = true) (hwl : WellAll P h vals args) :
    ∃ a vs ns, vals = [Value.ref a] ∧ args = [WData.list (ns.map WData.int)] ∧ h.get? a = some { cls := .type "list", data := .seq vs.toArray } ∧ IntsAre vs ns ∧ ns.length ≤ n := by
  have hsh : WShape.hasAll [] args [.list .int] = true := (pre_splitW hpre).1
  have hc : l.pre.holds [] { args := args } = true := (pre_splitW hpre).2
  obtain ⟨d, r, rfl, h1, h2⟩ := hasAllW_cons hsh
  obtain rfl := hasAllW_nil h2
  obtain ⟨xs, rfl, h3⟩ := hasW_list h1
  obtain ⟨ns, rfl⟩ := items_int h3
  have hlen : ns.length ≤ n := by
    unfold OpenLaw.pre at hc
    have h4 : (WTm.not (.lt (.lit (.int (n : Int))) (.len (.arg 0)))).holds [] { args := [.list (ns.map .int)] } = true := by
      have h4 := (holds_andW hc).1
      rw [hn] at h4
      exact h4
    have h5 := condW_of h4 (w_not (w_lt w_lit (w_len_list (w_arg rfl))))
    rw [List.length_map] at h5
    refine Nat.le_of_not_lt fun q => ?_
    have q' : (n : Int) < ((ns.length : Nat) : Int) := by omega
    first
      | (rw [decide_eq_true q'] at h5; exact absurd h5 (by decide))
      | (simp at h5; omega)
  cases hwl with
  | cons w1 w2 =>
    cases w2
    cases w1 with
    | list ho hall => exact ⟨_, _, ns, rfl, rfl, ho, ints_of_wellAll ns _ hall, hlen⟩
theorem post_true (l : OpenLaw) (args : List WData) : l.row.toRowW.claim.post args (.bool true) args = true :=
  postW_of (r := l.row.toRowW) (X := (true == true))
    (show WShape.has [] (.bool true) .bool = true by first | rfl | decide | simp [WShape.has, WShape.arms, WShape.armsAll])
    (show (WTm.eq .res (.lit (.bool true))).value [] { args := args, res := some (.bool true), after := args } = some (.bool (true == true)) from w_eq_bool (w_res rfl) w_lit) rfl
/-! ### the attachment: holds_open's last premise (the goal 'hc' behind k_head) from a wpAny of the law's body -/
/-- the same from a codeAny of the CALL (for a layer whose function contracts speak of calls) -/
theorem attach_call {l : OpenLaw} {n : Nat} {q : Program} {loose : List Str} {XP : (Str → Option Value) → Heap → Prop} {YP : World → Heap → Prop} {d : DefRec}
    (hn : l.most = some n) (hdf : d.params.defaults = [])
    (call : ∀ (w : World) (s₀ s₁ : Shared) (mg mb : Str → Option Value) (fa : Addr) (o : Obj) (pm cd doc : Value) (a : Addr) (vs : List Value) (ns : List Int),
      Ground q loose [] XP w s₀ mg mb s₁.heap → YP w s₁.heap →
      s₁.heap.get? fa = some o → o.data = .func (docDef d.name d.params d.body d.scope pm cd doc) → s₁.heap.CodeRec cd d.name → mg d.name = some (.ref fa) →
      s₁.heap.get? a = some { cls := .type "list", data := .seq vs.toArray } → IntsAre vs ns → ns.length ≤ n → s₁.gens = #[] →
      codeAny (model l.prog w) callerA (.call (.ref fa) ⟨[.ref a], []⟩) (fun r s' => r = .ok (.ret (.bool true)) ∧ OldK s₁.heap s'.heap ∧ s'.os = s₁.os ∧ AllBare s'.gens) s₁) :
    WalkO q loose XP YP l.row.toRowW d [] (fun f vs => PySem.call f vs) := by
  intro w s₀ s₁ mg mb G Y fa o pm cd doc dV kV ho hd hcd hD hmg hg args vals as hpre hlay hrd hwl hlo
  obtain rfl : dV = .none := Dflts.none hD hdf
  obtain rfl : kV = .none := Dflts.noKw hD
  obtain ⟨a, vs, ns, rfl, rfl, hobj, hints, hlen⟩ := script_of hn hpre hwl
  refine enter_call (codeAny_mono (call w s₀ s₁ mg mb fa o pm cd doc a vs ns G Y ho (fd_plain hd) hcd hmg hobj hints hlen hg) fun r s' hq => ?_)
  obtain ⟨rfl, h2, h3, h4⟩ := hq
  exact ⟨.inl ⟨.bool true, .bool true, [], rfl, fun _ => rfl, .bool true, post_true l _, fun _ => ⟨List.Pairwise.nil, fun _ hm => (nomatch hm)⟩⟩, h2, h3, h4⟩
/-! ### rules over ANY heap (no ledger) from facts about the written part K: the library's own take a ledger (News) for what they write -/
section
variable {prog : Program} {w : World} {A : Around} {E : Value → Shared → Prop} {s : Shared} {K : Frag}
/-! the whole heap as the ledger: makes every rule that writes through a ledger a rule over any heap -/
end
end Att
namespace L2
open PySem PySem.Spec PyProof.Rows
theorem vals_ints : ∀ {vs : List Value} {ns : List Int}, IntsAre vs ns → Vals (ns.map V.int) vs
  | _, _, .nil => .nil
  | _, _, .cons n t h => .cons ⟨t, rfl⟩ (vals_ints h)
/-- nothing is tracked but the script, known to the object (or it is an object of the module) -/
def Only (H : Hp) : Prop := ∀ b, H b = none ∨ ∃ o xs, H b = some (.frz o (.lst xs))
/-- THE HEAD: the law's promise, at the heap behind the top. F, the promise of the law's def, may use that base is part of the heap (so K.In base, base.Ns mainGlobals mg stand in Mod) -/
theorem law_call {P : Program} {w : World} {K : PySem.W.Frag} {mg mb : Str → Option Value} {CX : CXT} {k : Nat} {fa a : Addr} {fd : FuncData} {x : Str} {sp : Sp} {s₁ : Shared} {vs : List Value} {ns : List Int}
    (KX : K.In s₁.heap) (hns : s₁.heap.Ns mainGlobals mg) (hb : s₁.heap.Ns builtinsNs mb) (hbb : ∀ x : Str, x ≠ "__name__" → mb x = bootBuiltins x) (hlim : s₁.heap.NoLimit) (hg : s₁.gens = #[])
    (ha : s₁.heap.get? a = some { cls := .type "list", data := .seq vs.toArray }) (hi : IntsAre vs ns) (hl : ns.length ≤ sizeLine) (hr : Room k callerA)
    (F : ∀ base : Heap, K.In base → base.Ns mainGlobals mg → FnOk P w K mg base CX k fa fd [x] sp) (hbind : ∀ (s : Shared) (u : Value), BindsTo s fd ⟨[u], []⟩ [(x, u)])
    (hsp : ∀ H : Hp, Only H → SqL K H a (ns.map V.int) → sp [.ref a] H (fun v _ => v = .bl true) fun _ _ _ => False)
    (hCX : ∀ H e s', CX [] H s₁ (fun _ _ _ => False) e s' → False) :
    codeAny (model P w) callerA (.call (.ref fa) ⟨[.ref a], []⟩) (fun r s' => r = .ok (.ret (.bool true)) ∧ OldK s₁.heap s'.heap ∧ s'.os = s₁.os ∧ AllBare s'.gens) s₁ := by
  have rv := vals_ints hi
  have lenV := hi.length
  -- from an abstract heap in which nothing but the script may be tracked
  have core : ∀ H : Hp, Only H → SqL K H a (ns.map V.int) → HOk P w H s₁.heap → (∀ b, H b ≠ none → b = a) → (H a ≠ none → K.lookup a = none) →
      codeAny (model P w) callerA (.call (.ref fa) ⟨[.ref a], []⟩) (fun r s' => r = .ok (.ret (.bool true)) ∧ OldK s₁.heap s'.heap ∧ s'.os = s₁.os ∧ AllBare s'.gens) s₁ := by
    intro H hO hS hok hA hK
    have base_of : ∀ {b : Addr} {o : Obj}, s₁.heap.get? b = some o → H b = none → (hidT s₁.heap H).get? b = some o := fun e n => hidT_get e n
    have noA : ∀ {b : Addr} {o : Obj} {es : Array DictEntry} {ep : Nat}, s₁.heap.get? b = some o → o.data = .dict es ep → H b = none := fun {b o es ep} e d => by
      cases q : H b with
      | none => rfl
      | some u =>
        have e' : b = a := hA b (by rw [q]; simp)
        subst e'
        rw [ha] at e; cases e
        have d' : Data.seq vs.toArray _ = Data.dict es ep := d
        cases d'
    have nsK : ∀ {b : Addr} {m : Str → Option Value}, s₁.heap.Ns b m → (hidT s₁.heap H).Ns b m := fun {b m} ⟨o, es, ep, e, d, r⟩ => ⟨o, es, ep, base_of e (noA e d), d, r⟩
    have hKb : K.In (hidT s₁.heap H) := fun b o e => base_of (KX b o e) (by
      cases q : H b with
      | none => rfl
      | some u =>
        have e' : b = a := hA b (by rw [q]; simp)
        subst e'
        rw [hK (by rw [q]; simp)] at e; cases e)
    have hM : Mod K mg (hidT s₁.heap H) := ⟨hKb, nsK hns, ⟨mb, nsK hb, hbb⟩, let ⟨mc, h1, h2⟩ := hlim; ⟨mc, nsK h1, h2⟩⟩
    have e0 : Env0 P w K mg (hidT s₁.heap H) callerA [] s₁ H := ⟨rfl, hM, fun b o e => of_hidT e, Nat.le_of_eq (hidT_size _ _), trivial, fun b hb => absurd (show b ∈ ([] : List Addr) from hb) (by simp), hok, .of_eq hg⟩
    refine codeAny_mono ((F _ hKb (nsK hns)).run callerA [] s₁ H ⟨[.ref a], []⟩ [.ref a] [.ref a] _ _ hr e0 (hbind s₁ (.ref a)) (.cons rfl .nil) (hsp H hO hS)) fun r s' h => ?_
    cases r with
    | error e => exact (hCX H e s' h).elim
    | ok fl =>
      cases fl with
      | next => exact False.elim h
      | brk => exact False.elim h
      | cont => exact False.elim h
      | ret u =>
        obtain ⟨v, H', os, bare, un, hok', r', q⟩ := h
        have q' : v = .bl true := q
        subst q'
        obtain rfl : u = Value.bool true := r'
        refine ⟨rfl, OldK.of_keep fun b o e => ?_, os, bare⟩
        cases q : H b with
        | none => exact un.keep b o e q (by intro z; exact absurd (show b ∈ ([] : List Addr) from z) (by simp)) (by simp)
        | some u =>
          rcases hO b with z | ⟨ob, xs, z⟩
          · rw [q] at z; cases z
          · have z2 := un.frzs b ob _ z
            obtain ⟨e1, _⟩ := hok b _ z
            obtain ⟨e2, _⟩ := hok' b _ z2
            rw [e] at e1; cases e1
            exact e2
  cases hk : K.lookup a with
  | some o =>
    -- the script is one of the module's own objects
    have e := KX a o hk
    rw [ha] at e
    cases e
    refine core (fun _ => none) (fun _ => .inl rfl) (.inr ⟨_, vs.toArray, _, hk, rfl, rfl, rfl, by rw [List.size_toArray, lenV]; exact hl, by simpa using rv⟩) (fun b u z => by have z' : (none : Option HO) = some u := z; cases z') (fun b z => absurd rfl z) fun z => absurd rfl z
  | none =>
    refine core (fun b => if b = a then some (.frz { cls := .type "list", data := .seq vs.toArray } (.lst (ns.map V.int))) else none) (fun b => ?_) (.inl (.inr ⟨{ cls := .type "list", data := .seq vs.toArray }, if_pos rfl⟩)) (fun b u z => ?_) (fun b z => ?_) fun _ => hk
    · by_cases hb : b = a
      · exact .inr ⟨_, _, if_pos hb⟩
      · exact .inl (if_neg hb)
    · by_cases hb : b = a
      · have z' := (if_pos hb).symm.trans z
        cases z'
        subst hb
        exact ⟨ha, by rw [List.length_map]; exact hl, vs, _, rv, ha⟩
      · have z' := (if_neg hb).symm.trans z
        cases z'
    · by_cases hb : b = a
      · exact hb
      · exact absurd (if_neg hb) z
end L2
namespace L2
open PySem PySem.Spec PyProof.Rows
abbrev KOf {K : PySem.W.Frag} {h : Heap} (_ : K.In h) : PySem.W.Frag := K
/-- the goal that k_head leaves (case hc), from the law's promise. F gives the function object fd (K's own) once, then the promise over every base -/
theorem walk_of {l : PySem.W.OpenLaw} {n k : Nat} {q : Program} {loose : List Str} {XP : (Str → Option Value) → Heap → Prop} {YP : World → Heap → Prop} {d : DefRec} {K : Params → PySem.W.Frag} {CX : World → CXT} {sp : World → Sp} {x : Str}
    (hn : l.most = some n) (hn2 : n ≤ sizeLine) (hdf : d.params.defaults = []) (hr : Room k callerA)
    (hY : ∀ (w : World) (h : Heap), YP w h → (K w.params).In h)
    (F : ∀ (w : World) (mg : Str → Option Value) (fa : Addr) (h : Heap), (K w.params).In h → h.Ns mainGlobals mg → mg d.name = some (.ref fa) →
      ∃ fd : FuncData, (∀ (s : Shared) (u : Value), BindsTo s fd ⟨[u], []⟩ [(x, u)]) ∧
        ∀ base : Heap, (K w.params).In base → base.Ns mainGlobals mg → FnOk l.prog w (K w.params) mg base (CX w) k fa fd [x] (sp w))
    (hsp : ∀ (w : World) (H : Hp) (a : Addr) (ns : List Int), ns.length ≤ n → Only H → SqL (K w.params) H a (ns.map V.int) → sp w [.ref a] H (fun v _ => v = .bl true) fun _ _ _ => False)
    (hCX : ∀ (w : World) (H : Hp) (s : Shared) (e : Value) (s' : Shared), CX w [] H s (fun _ _ _ => False) e s' → False) :
    PySem.W.WalkO q loose XP YP l.row.toRowW d [] (fun f vs => PySem.call f vs) := by
  refine Att.attach_call hn hdf fun w s₀ s₁ mg mb fa o pm cd doc a vs ns G Y ho hd hcd hmg hobj hints hlen hg => ?_
  have KX := hY w _ Y
  obtain ⟨fd, hb, hF⟩ := F w mg fa _ KX G.T.g hmg
  exact law_call KX G.T.g G.T.b G.T.builtins G.T.nolimit hg hobj hints (Nat.le_trans hlen hn2) hr hF hb (fun H hO hS => hsp w H a ns hlen hO hS) fun H e s' => hCX w H s₁ e s'
end L2
/- THE LAST THEOREM (shape; LID, My.* are yours):
   My.Adr: a structure of the addresses that your layer names (classes, functions); My.Txt K t: a structure (Prop) of the equations over K;
   My.txt_mk : {K} {implicit addresses ..} (e1 : nsIn K mainGlobals "law" = some (some (.ref f))) (e2 : K.lookup f = some ⟨oc, od, .func (fnOf "law" "law" params body scope dV kV doc pm an cdv ct), sl⟩) (e3 : codeIn K cdv "law" = true) .. : ∃ t, My.Txt K t
set_option maxRecDepth 100000 in
set_option maxHeartbeats 0 in
theorem PySem.Challenge.cw_LID_holds : PySem.Challenge.rw_LID.Holds := by
  w_on; o_law; k_head; (case hw => w_witness2)
  k_fill
  refine L2.walk_of (l := PySem.Challenge.rw_LID) (n := 63) (k := 40) (x := "script") (CX := fun w => ..) (sp := fun _ => My.sp_law) rfl (by decide) rfl ⟨rfl, by decide, by decide⟩ (fun w h Y => PySem.W.kIn_of Y) ?F ?S ?C
  case F =>
    intro w mg fa h KX G hmg
    have T : ∃ t, My.Txt (L2.KOf KX) t := by
      dsimp only [L2.KOf]                          -- K must stand as «<heap const> w.params» for k_is
      refine' My.txt_mk ?e1 ?e2 ?e3 ..
      (case e1 => PySem.W.k_is)                    -- in the order: a name -> its address -> its object -> its parts
      (case e2 => PySem.W.k_is)
      ..
    obtain ⟨t, T⟩ := T
    have e0 := hmg.symm.trans (PySem.W.mg_of KX G T.law)
    cases e0                                       -- fa is the law's own address
    exact ⟨_, fun s u => .of_eq rfl, fun base kb nb => My.law_fn T kb nb⟩     -- if «.of_eq rfl» comes too early: refine' ⟨_, ?b, fun base kb nb => My.law_fn T kb nb⟩; exact fun s u => .of_eq rfl
  case S => exact fun w H a ns hl hO hS => ..
  case C => exact ..
(the tactic k_is has no namespace: write k_is) -/
/-! SHORT WORDS over the layer: a def of the text, its body, what a loop and a test want. -/
namespace L2
open PySem PySem.Spec PyProof.Rows
/-! ### the text by places -/
/-- the j-th statement of a class's body -/
def inClass (s : Stmt) (j : Nat) : Stmt := match s with
  | .ClassDef _ _ _ body _ _ _ _ _ _ _ => body.getD j (.Pass ⟨0, 0, 0, 0⟩)
  | _ => .Pass ⟨0, 0, 0, 0⟩
def defArgs (s : Stmt) : Arguments := match s with
  | .FunctionDef _ a _ _ _ _ _ _ _ _ => a
  | _ => { posonlyargs := [], args := [], vararg := none, kwonlyargs := [], kw_defaults := [], kwarg := none, defaults := [] }
def defBody (s : Stmt) : List Stmt := match s with
  | .FunctionDef _ _ b _ _ _ _ _ _ _ => b
  | _ => []
def defScope (s : Stmt) : Scope := match s with
  | .FunctionDef _ _ _ _ _ _ sc _ _ _ => sc
  | _ => { kind := .function, names := [], isGenerator := false, isCoroutine := false }
/-! ### no exception leaves a def -/
abbrev CX0 : CXT := fun _ _ _ _ _ _ => False
abbrev E0 : XK := fun _ _ _ => False
theorem pass0 {X : Cx} : Passes CX0 X E0 := fun _ _ _ _ _ _ _ h => h.elim
/-! ### a def (or method) of the text as it stands behind the top -/
structure Fun (K : PySem.W.Frag) (x qual : Str) (st : Stmt) (f : Addr) (fd : FuncData) : Prop where
  ex : ∃ (oc : Value) (od : Option Addr) (kV doc pm : Value) (an : Option Addr) (cdv ct : Value) (osl : Array (Option Value)),
    fd = PySem.W.fnOf x qual (defArgs st) (defBody st) (defScope st) .none kV doc pm an cdv ct ∧ K.lookup f = some ⟨oc, od, .func fd, osl⟩ ∧ PySem.W.codeIn K cdv qual = true
  kp : PySem.W.keepIn K (.ref f) = true
section
variable {P : Program} {w : World} {K : PySem.W.Frag} {mg : Str → Option Value} {base : Heap}
/-- THE RULE for a def: its body as a term of rules, and the reading of that term -/
theorem Fun.ok {x qual : Str} {st : Stmt} {f : Addr} {fd : FuncData} {N ps : List Str} {k : Nat} {sp : Sp} (F : Fun K x qual st f fd) (S : FnScope N ps (defScope st)) (len : ∀ vs H Q E, sp vs H Q E → vs.length = ps.length)
    (hbody : ∀ (cdv : Value) (A : Around) (outer : List Env) (s : Shared) (H : Hp) (vs : List V) (Q : VK) (E : XK), Room k (A.deeper (envOfC qual (defScope st) s.heap.objs.size f cdv)) → sp vs H Q E →
      ∃ t, PSs (cxOf CX0 P w K mg base N qual (defScope st) f cdv A outer s H E).nox (defBody st) t ∧ t { nx := fun _ H' => Q .non H', rt := Q } (start N vs) H) : FnOk P w K mg base CX0 (k + 1) f fd ps sp := by
  obtain ⟨oc, od, kV, doc, pm, an, cdv, ct, osl, rfl, lk, hcd⟩ := F.ex
  refine fn_of lk hcd S len fun A outer s H vs Q E hr hsp => ?_
  obtain ⟨t, h, q⟩ := hbody cdv A outer s H vs Q E hr hsp
  exact ⟨t, h.nox, q⟩
/-- how its arguments bind (no defaults): h is «fun _ _ _ _ _ _ us hl => match us, hl with | [_, _], _ => rfl», one _ a parameter -/
theorem Fun.binds {x qual : Str} {st : Stmt} {f : Addr} {fd : FuncData} {ps : List Str} (F : Fun K x qual st f fd)
    (h : ∀ (kV doc pm : Value) (an : Option Addr) (cdv ct : Value) (us : List Value), us.length = ps.length → bindArgs (PySem.W.fnOf x qual (defArgs st) (defBody st) (defScope st) .none kV doc pm an cdv ct) ⟨us, []⟩ = pure (ps.zip us)) : Binds K fd ps [] := by
  obtain ⟨oc, od, kV, doc, pm, an, cdv, ct, osl, rfl, lk, hcd⟩ := F.ex
  exact .all (h kV doc pm an cdv ct)
theorem fun_mk {x qual : Str} {st : Stmt} {f : Addr} {oc : Value} {od an : Option Addr} {osl : Array (Option Value)} {kV doc pm cdv ct : Value} (l : K.lookup f = some ⟨oc, od, .func (PySem.W.fnOf x qual (defArgs st) (defBody st) (defScope st) .none kV doc pm an cdv ct), osl⟩)
    (c : PySem.W.codeIn K cdv qual = true) (k : PySem.W.keepIn K (.ref f) = true) : Fun K x qual st f (PySem.W.fnOf x qual (defArgs st) (defBody st) (defScope st) .none kV doc pm an cdv ct) := ⟨⟨oc, od, kV, doc, pm, an, cdv, ct, osl, rfl, l, c⟩, k⟩
end
theorem hu_of {A : Around} {k : Nat} (hr : Room k A) : A.units + 1 < cLine := Nat.lt_of_le_of_lt (Nat.add_le_add_left (by decide : 1 ≤ 64) _) hr.units
theorem small1000 {n : Nat} (h : n ≤ 1000) : n < sizeLine := Nat.lt_of_le_of_lt h (by decide)
/-! ### expressions in short: the name that stands in the i-th slot -/
section
variable {X : Cx}
theorem pv (i : Nat) {x : Str} {pos : Pos} (hN : X.N[i]? = some x := by rfl) (hv : Vis X.env.scope x := by first | exact Or.inl rfl | exact Or.inr (Or.inl rfl) | exact Or.inr (Or.inr rfl)) (hd : (x == ("__debug__" : Str)) = false := by decide)
    (hcd : (x == ("__classdict__" : Str)) = false := by decide) : PE X (.Name x pos) (tVar i) := pe_var hN hv hd hcd
end
/-! ### tests -/
theorem ite2 {c A B : Prop} [Decidable c] (h1 : c → A) (h2 : ¬ c → B) : if c then A else B := by
  by_cases h : c
  · rw [if_pos h]
    exact h1 h
  · rw [if_neg h]
    exact h2 h
/-! ### heaps -/
/-- all that was tracked is as it was -/
def Same (H H' : Hp) : Prop := ∀ b o, H b = some o → H' b = some o
theorem Same.refl (H : Hp) : Same H H := fun _ _ h => h
theorem Same.trans {H H1 H2 : Hp} (a : Same H H1) (b : Same H1 H2) : Same H H2 := fun c o h => b c o (a c o h)
theorem Same.free {H H' : Hp} (e : Same H H') {l : Addr} (h : H' l = Option.none) : H l = Option.none := by
  cases q : H l with
  | none => rfl
  | some o =>
    rw [e l o q] at h
    cases h
theorem Same.seq {K : PySem.W.Frag} {H H' : Hp} {a : Addr} {xs : List V} (e : Same H H') (h : SqL K H a xs) : SqL K H' a xs := by
  rcases h with (h | ⟨o, h⟩) | h
  · exact .inl (.inl (e _ _ h))
  · exact .inl (.inr ⟨o, e _ _ h⟩)
  · exact .inr h
end L2
namespace L2
open PySem PySem.Spec PyProof.Rows
section
variable {X : Cx}
end
/-! ### a dict's pairs: keys that differ -/
section
variable {κ : Type} [DecidableEq κ]
theorem valV_not {kvs : List (κ × V)} {k : κ} (h : valV kvs k = none) : ¬ k ∈ kvs.map (·.1) := by
  intro m
  obtain ⟨p, hp, e⟩ := List.mem_map.mp m
  have q : (kvs.any fun kv => decide (kv.1 = k)) = true := List.any_eq_true.mpr ⟨p, hp, decide_eq_true e⟩
  rw [valV_any, h] at q
  exact absurd q (by simp)
theorem valV_in {kvs : List (κ × V)} {k : κ} {v : V} (h : valV kvs k = some v) : k ∈ kvs.map (·.1) := by
  have q : (kvs.any fun kv => decide (kv.1 = k)) = true := by
    rw [valV_any, h]
    all_goals rfl
  obtain ⟨p, hp, e⟩ := List.any_eq_true.mp q
  exact List.mem_map.mpr ⟨p, hp, of_decide_eq_true e⟩
end
end L2
set_option Elab.async false
set_option linter.all false
set_option maxRecDepth 100000
set_option maxHeartbeats 4000000
/-! DATA in the heap: numbers, texts, lists, pairs, as plain Lean data; == and != of two of them. -/
namespace L2
open PySem PySem.Spec PyProof.Rows
theorem Same.tup {K : PySem.W.Frag} {H H' : Hp} {a : Addr} {xs : List V} (e : Same H H') (h : SqT K H a xs) : SqT K H' a xs := by
  rcases h with (h | ⟨o, h⟩) | h
  · exact .inl (.inl (e _ _ h))
  · exact .inl (.inr ⟨o, e _ _ h⟩)
  · exact .inr h
theorem Same.upd_new {G H : Hp} {p : Addr} {o : HO} (e : Same G H) (h : G p = none) : Same G (upd H p o) := fun b u q => by
  rw [upd_ne (ne_of_none q h)]
  exact e b u q
theorem pgetL {α β : Type} {F : α → β → Prop} : ∀ {l : List α} {r : List β} {i : Nat} {x : α}, Paired F l r → l[i]? = some x → ∃ y, r[i]? = some y ∧ F x y
  | _, _, _, _, .nil, e => by simp at e
  | _, _, 0, _, .cons f _, e => by simp at e; subst e; exact ⟨_, rfl, f⟩
  | _, _, i + 1, x, .cons _ t, e => by
    obtain ⟨y, h1, h2⟩ := pgetL (i := i) (x := x) t (by simpa using e)
    exact ⟨y, by simpa using h1, h2⟩
theorem pgetR {α β : Type} {F : α → β → Prop} : ∀ {l : List α} {r : List β} {i : Nat} {y : β}, Paired F l r → r[i]? = some y → ∃ x, l[i]? = some x ∧ F x y
  | _, _, _, _, .nil, e => by simp at e
  | _, _, 0, _, .cons f _, e => by simp at e; subst e; exact ⟨_, rfl, f⟩
  | _, _, i + 1, x, .cons _ t, e => by
    obtain ⟨y, h1, h2⟩ := pgetR (i := i) (y := x) t (by simpa using e)
    exact ⟨y, by simpa using h1, h2⟩
theorem pinj {α β : Type} {F G : α → β → Prop} (h : ∀ x a b, F x a → G x b → a = b) : ∀ {l : List α} {r r' : List β}, Paired F l r → Paired G l r' → r = r'
  | _, _, _, .nil, .nil => rfl
  | _, _, _, .cons f t, .cons f' t' => by rw [h _ _ _ f f', pinj h t t']
theorem papp {α β : Type} {F : α → β → Prop} : ∀ {l l' : List α} {r r' : List β}, Paired F l r → Paired F l' r' → Paired F (l ++ l') (r ++ r')
  | _, _, _, _, .nil, s => s
  | _, _, _, _, .cons f t, s => .cons f (papp t s)
theorem range_all {α : Type} [DecidableEq α] {as bs : List α} {n : Nat} (h1 : as.length = n) (h2 : bs.length = n) : (List.range n).all (fun j => decide (as[j]? = bs[j]?)) = decide (as = bs) := by
  rw [Bool.eq_iff_iff, List.all_eq_true, decide_eq_true_iff]
  constructor
  · intro h
    refine List.ext_getElem? fun j => ?_
    by_cases hj : j < n
    · exact of_decide_eq_true (h j (List.mem_range.mpr hj))
    · rw [List.getElem?_eq_none (by omega), List.getElem?_eq_none (by omega)]
  · intro e j _
    subst e
    exact decide_eq_true rfl
structure Rep (α : Type) [DecidableEq α] where
  rel : PySem.W.Frag → Hp → V → α → Prop
  dep : Nat
  mono : ∀ {K : PySem.W.Frag} {H H' : Hp} {v : V} {a : α}, Same H H' → rel K H v a → rel K H' v a
  inj : ∀ {X : Cx} {pins : List (Addr × Obj)} {σ : St} {H : Hp} {s : Shared} {v : V} {a b : α}, Inv X pins σ H s → rel X.K H v a → rel X.K H v b → a = b
  rc : ∀ {X : Cx} {pins : List (Addr × Obj)} {σ : St} {H : Hp} {s : Shared} {A : Around} {u w : Value} {x y : V} {a b : α}, Inv X pins σ H s → A.units + dep < cLine → RelV x u → RelV y w → rel X.K H x a → rel X.K H y b →
    SeqAt.RcAt A s u w (decide (a = b))
  rn : ∀ {X : Cx} {pins : List (Addr × Obj)} {σ : St} {H : Hp} {s : Shared} {A : Around} {u w : Value} {x y : V} {a b : α}, Inv X pins σ H s → A.units + dep < cLine → RelV x u → RelV y w → rel X.K H x a → rel X.K H y b →
    SeqAt.RcNeAt A s u w (!decide (a = b))
  eq : ∀ {X : Cx} {pins : List (Addr × Obj)} {σ : St} {H : Hp} {s : Shared} {A : Around} {u w : Value} {x y : V} {a b : α}, Inv X pins σ H s → A.units + dep < cLine → RelV x u → RelV y w → rel X.K H x a → rel X.K H y b →
    SeqAt.EqAt A s u w (decide (a = b))
theorem beq_dec {α : Type} [DecidableEq α] [BEq α] [LawfulBEq α] (a b : α) : (a == b) = decide (a = b) := by
  rw [Bool.eq_iff_iff]
  simp
def repInt : Rep Int where
  rel := fun _ _ v i => v = .int i
  dep := 0
  mono := fun _ h => h
  inj := fun _ h h' => by subst h; injection h'
  rc := fun {X pins σ H s A u w x y a b} _ _ rx ry ha hb => by
    subst ha hb
    obtain ⟨t, rfl⟩ := rx
    obtain ⟨t', rfl⟩ := ry
    rw [← beq_dec]
    exact SeqAt.RcAt.int_int a t b t'
  rn := fun {X pins σ H s A u w x y a b} _ _ rx ry ha hb => by
    subst ha hb
    obtain ⟨t, rfl⟩ := rx
    obtain ⟨t', rfl⟩ := ry
    rw [← beq_dec]
    exact SeqAt.RcNeAt.int_int a t b t'
  eq := fun {X pins σ H s A u w x y a b} _ _ rx ry ha hb => by
    subst ha hb
    obtain ⟨t, rfl⟩ := rx
    obtain ⟨t', rfl⟩ := ry
    rw [← beq_dec]
    exact SeqAt.EqAt.int_int a t b t'
def repBl : Rep Bool where
  rel := fun _ _ v i => v = .bl i
  dep := 0
  mono := fun _ h => h
  inj := fun _ h h' => by subst h; injection h'
  rc := fun {X pins σ H s A u w x y a b} _ _ rx ry ha hb => by
    subst ha hb
    cases rx
    cases ry
    rw [← beq_dec]
    exact SeqAt.RcAt.bool_bool a b
  rn := fun {X pins σ H s A u w x y a b} _ _ rx ry ha hb => by
    subst ha hb
    cases rx
    cases ry
    rw [← beq_dec]
    exact SeqAt.RcNeAt.bool_bool a b
  eq := fun {X pins σ H s A u w x y a b} _ _ rx ry ha hb => by
    subst ha hb
    cases rx
    cases ry
    rw [← beq_dec]
    exact SeqAt.EqAt.bool_bool a b
/-- a number or a text -/
def repKey : Rep Key where
  rel := fun _ _ v k => v = kV k
  dep := 0
  mono := fun _ h => h
  inj := fun {X pins σ H s v a b} _ h h' => by
    subst h
    cases a <;> cases b <;> first
      | (injection h' with e; rw [e])
      | exact nomatch h'
  rc := fun {X pins σ H s A u w x y a b} _ _ rx ry ha hb => by
    subst ha hb
    cases a <;> cases b <;> obtain ⟨t, rfl⟩ := rx <;> obtain ⟨t', rfl⟩ := ry
    · rw [key_ll]; exact SeqAt.RcAt.int_int _ t _ t'
    · rw [key_lr]; exact SeqAt.RcAt.int_str _ t _ t'
    · rw [key_rl]; exact SeqAt.RcAt.str_int _ t _ t'
    · rw [key_rr, ← beq_dec]; exact SeqAt.RcAt.str_str _ t _ t'
  rn := fun {X pins σ H s A u w x y a b} _ _ rx ry ha hb => by
    subst ha hb
    cases a <;> cases b <;> obtain ⟨t, rfl⟩ := rx <;> obtain ⟨t', rfl⟩ := ry
    · rw [key_ll]; exact SeqAt.RcNeAt.int_int _ t _ t'
    · rw [key_lr]; exact SeqAt.RcNeAt.int_str _ t _ t'
    · rw [key_rl]; exact SeqAt.RcNeAt.str_int _ t _ t'
    · rw [key_rr, ← beq_dec]; exact SeqAt.RcNeAt.str_str _ t _ t'
  eq := fun {X pins σ H s A u w x y a b} _ _ rx ry ha hb => by
    subst ha hb
    cases a <;> cases b <;> obtain ⟨t, rfl⟩ := rx <;> obtain ⟨t', rfl⟩ := ry
    · rw [key_ll]; exact SeqAt.EqAt.int_int _ t _ t'
    · rw [key_lr]; exact SeqAt.EqAt.int_str _ t _ t'
    · rw [key_rl]; exact SeqAt.EqAt.str_int _ t _ t'
    · rw [key_rr, ← beq_dec]; exact SeqAt.EqAt.str_str _ t _ t'
theorem units_in1 (A : Around) : A.in1.units = A.units + 1 := by rfl
section
variable {α : Type} [DecidableEq α] (R : Rep α) {X : Cx} {pins : List (Addr × Obj)} {σ : St} {H : Hp} {s : Shared} {A : Around}
/-- the items of two lists, place by place -/
theorem items_eq {xs ys : List V} {us ws : List Value} {as bs : List α} (I : Inv X pins σ H s) (hu : A.units + (R.dep + 1) < cLine) (r1 : Vals xs us) (r2 : Vals ys ws) (p1 : Paired (R.rel X.K H) xs as) (p2 : Paired (R.rel X.K H) ys bs) :
    ∀ j (h1 : j < us.toArray.size) (h2 : j < ws.toArray.size), SeqAt.EqAt A.in1 s us.toArray[j] ws.toArray[j] (decide (as[j]? = bs[j]?)) := by
  intro j h1 h2
  have l1 := r1.length
  have l2 := r2.length
  have g1 : j < us.length := by simpa using h1
  have g2 : j < ws.length := by simpa using h2
  have hx : xs[j]? = some (xs[j]'(by omega)) := by simp
  have hy : ys[j]? = some (ys[j]'(by omega)) := by simp
  obtain ⟨u, e1, q1⟩ := r1.get hx
  obtain ⟨w, e2, q2⟩ := r2.get hy
  obtain ⟨a, ea, qa⟩ := pgetL p1 hx
  obtain ⟨b, eb, qb⟩ := pgetL p2 hy
  have eu : us.toArray[j] = u := by
    have : us[j]? = some us[j] := by simp
    rw [e1] at this
    simpa using (Option.some.inj this).symm
  have ew : ws.toArray[j] = w := by
    have : ws[j]? = some ws[j] := by simp
    rw [e2] at this
    simpa using (Option.some.inj this).symm
  rw [eu, ew, ea, eb, show decide (some a = some b) = decide (a = b) by rw [Bool.eq_iff_iff]; simp]
  exact R.eq I (by rw [units_in1]; omega) q1 q2 qa qb
end
def repList {α : Type} [DecidableEq α] (R : Rep α) : Rep (List α) where
  rel := fun K H v as => ∃ p xs, v = .ref p ∧ H p = some (.lst xs) ∧ Paired (R.rel K H) xs as
  dep := R.dep + 1
  mono := fun e ⟨p, xs, h1, h2, h3⟩ => ⟨p, xs, h1, e _ _ h2, Paired.mapP h3 fun _ _ q => R.mono e q⟩
  inj := fun {X pins σ H s v a b} I ⟨p, xs, h1, h2, h3⟩ ⟨p', xs', h1', h2', h3'⟩ => by
    subst h1
    cases h1'
    cases I.list_inj (SqL.of h2) (SqL.of h2')
    exact pinj (F := R.rel X.K H) (G := R.rel X.K H) (fun _ _ _ q q' => R.inj I q q') h3 h3'
  rc := fun {X pins σ H s A u w x y a b} I hu rx ry ⟨p, xs, h1, h2, h3⟩ ⟨p', ys, h1', h2', h3'⟩ => by
    subst h1 h1'
    cases rx
    cases ry
    obtain ⟨us, r1, l1, _⟩ := I.list (SqL.of h2)
    obtain ⟨ws, r2, l2, _⟩ := I.list (SqL.of h2')
    have e1 := r1.length
    have e2 := r2.length
    have e3 := h3.length
    have e4 := h3'.length
    by_cases hs : us.length = ws.length
    · rw [← range_all (n := us.toArray.size) (as := a) (bs := b) (by simp; omega) (by simp; omega)]
      exact SeqAt.RcAt.lists l1.isList l2.isList (by simpa using hs) (by omega) (items_eq R I hu r1 r2 h3 h3')
    · rw [decide_eq_false (fun z => hs (by rw [← e1, ← e2, e3, e4, z]))]
      exact SeqAt.RcAt.lists_lengths l1.isList l2.isList (by simpa using hs) (by omega)
  rn := fun {X pins σ H s A u w x y a b} I hu rx ry ⟨p, xs, h1, h2, h3⟩ ⟨p', ys, h1', h2', h3'⟩ => by
    subst h1 h1'
    cases rx
    cases ry
    obtain ⟨us, r1, l1, _⟩ := I.list (SqL.of h2)
    obtain ⟨ws, r2, l2, _⟩ := I.list (SqL.of h2')
    have e1 := r1.length
    have e2 := r2.length
    have e3 := h3.length
    have e4 := h3'.length
    by_cases hs : us.length = ws.length
    · rw [← range_all (n := us.toArray.size) (as := a) (bs := b) (by simp; omega) (by simp; omega)]
      exact SeqAt.RcNeAt.lists l1.isList l2.isList (by simpa using hs) (by omega) (items_eq R I hu r1 r2 h3 h3')
    · rw [decide_eq_false (fun z => hs (by rw [← e1, ← e2, e3, e4, z]))]
      exact SeqAt.RcNeAt.lists_lengths l1.isList l2.isList (by simpa using hs) (by omega)
  eq := fun {X pins σ H s A u w x y a b} I hu rx ry ⟨p, xs, h1, h2, h3⟩ ⟨p', ys, h1', h2', h3'⟩ => by
    subst h1 h1'
    cases rx
    cases ry
    by_cases hp : p = p'
    · subst hp
      cases I.list_inj (SqL.of h2) (SqL.of h2')
      rw [decide_eq_true (pinj (F := R.rel X.K H) (G := R.rel X.K H) (fun _ _ _ q q' => R.inj I q q') h3 h3')]
      exact SeqAt.EqAt.same _
    · refine SeqAt.EqAt.of_refs hp ?_
      obtain ⟨us, r1, l1, _⟩ := I.list (SqL.of h2)
      obtain ⟨ws, r2, l2, _⟩ := I.list (SqL.of h2')
      have e1 := r1.length
      have e2 := r2.length
      have e3 := h3.length
      have e4 := h3'.length
      by_cases hs : us.length = ws.length
      · rw [← range_all (n := us.toArray.size) (as := a) (bs := b) (by simp; omega) (by simp; omega)]
        exact SeqAt.RcAt.lists l1.isList l2.isList (by simpa using hs) (by omega) (items_eq R I hu r1 r2 h3 h3')
      · rw [decide_eq_false (fun z => hs (by rw [← e1, ← e2, e3, e4, z]))]
        exact SeqAt.RcAt.lists_lengths l1.isList l2.isList (by simpa using hs) (by omega)
theorem tup_all {α : Type} [DecidableEq α] {as bs : List α} {n m : Nat} (h1 : as.length = n) (h2 : bs.length = m) : ((List.range (min n m)).all (fun j => decide (as[j]? = bs[j]?)) && (n == m)) = decide (as = bs) := by
  by_cases h : n = m
  · subst h
    rw [Nat.min_self, beq_self_eq_true, Bool.and_true, range_all h1 h2]
  · rw [show (n == m) = false by simpa using h, Bool.and_false, decide_eq_false (fun z => h (by rw [← h1, ← h2, z]))]
/-- a tuple of things of one kind, of whatever length -/
def repTupL {α : Type} [DecidableEq α] (R : Rep α) : Rep (List α) where
  rel := fun K H v as => ∃ p xs, v = .ref p ∧ H p = some (.tup xs) ∧ Paired (R.rel K H) xs as
  dep := R.dep + 1
  mono := fun e ⟨p, xs, h1, h2, h3⟩ => ⟨p, xs, h1, e _ _ h2, Paired.mapP h3 fun _ _ q => R.mono e q⟩
  inj := fun {X pins σ H s v a b} I ⟨p, xs, h1, h2, h3⟩ ⟨p', xs', h1', h2', h3'⟩ => by
    subst h1
    cases h1'
    cases I.tuple_inj (SqT.of h2) (SqT.of h2')
    exact pinj (F := R.rel X.K H) (G := R.rel X.K H) (fun _ _ _ q q' => R.inj I q q') h3 h3'
  rc := fun {X pins σ H s A u w x y a b} I hu rx ry ⟨p, xs, h1, h2, h3⟩ ⟨p', ys, h1', h2', h3'⟩ => by
    subst h1 h1'
    cases rx
    cases ry
    obtain ⟨us, r1, l1, _⟩ := I.tuple (SqT.of h2)
    obtain ⟨ws, r2, l2, _⟩ := I.tuple (SqT.of h2')
    have e1 := r1.length
    have e2 := r2.length
    have e3 := h3.length
    have e4 := h3'.length
    rw [← tup_all (n := us.toArray.size) (m := ws.toArray.size) (as := a) (bs := b) (by simp; omega) (by simp; omega)]
    exact SeqAt.RcAt.tuples l1 l2 (by omega) (items_eq R I hu r1 r2 h3 h3')
  rn := fun {X pins σ H s A u w x y a b} I hu rx ry ⟨p, xs, h1, h2, h3⟩ ⟨p', ys, h1', h2', h3'⟩ => by
    subst h1 h1'
    cases rx
    cases ry
    obtain ⟨us, r1, l1, _⟩ := I.tuple (SqT.of h2)
    obtain ⟨ws, r2, l2, _⟩ := I.tuple (SqT.of h2')
    have e1 := r1.length
    have e2 := r2.length
    have e3 := h3.length
    have e4 := h3'.length
    rw [← tup_all (n := us.toArray.size) (m := ws.toArray.size) (as := a) (bs := b) (by simp; omega) (by simp; omega)]
    exact SeqAt.RcNeAt.tuples l1 l2 (by omega) (items_eq R I hu r1 r2 h3 h3')
  eq := fun {X pins σ H s A u w x y a b} I hu rx ry ⟨p, xs, h1, h2, h3⟩ ⟨p', ys, h1', h2', h3'⟩ => by
    subst h1 h1'
    cases rx
    cases ry
    by_cases hp : p = p'
    · subst hp
      cases I.tuple_inj (SqT.of h2) (SqT.of h2')
      rw [decide_eq_true (pinj (F := R.rel X.K H) (G := R.rel X.K H) (fun _ _ _ q q' => R.inj I q q') h3 h3')]
      exact SeqAt.EqAt.same _
    · refine SeqAt.EqAt.of_refs hp ?_
      obtain ⟨us, r1, l1, _⟩ := I.tuple (SqT.of h2)
      obtain ⟨ws, r2, l2, _⟩ := I.tuple (SqT.of h2')
      have e1 := r1.length
      have e2 := r2.length
      have e3 := h3.length
      have e4 := h3'.length
      rw [← tup_all (n := us.toArray.size) (m := ws.toArray.size) (as := a) (bs := b) (by simp; omega) (by simp; omega)]
      exact SeqAt.RcAt.tuples l1 l2 (by omega) (items_eq R I hu r1 r2 h3 h3')
theorem two_all {α β : Type} [DecidableEq α] [DecidableEq β] (a a' : α) (b b' : β) : ((List.range (min 2 2)).all (fun j => if j = 0 then decide (a = a') else decide (b = b')) && ((2 : Nat) == 2)) = decide ((a, b) = (a', b')) := by
  rw [Bool.eq_iff_iff]
  simp [List.range_succ]
section
variable {α β : Type} [DecidableEq α] [DecidableEq β] (R : Rep α) (S : Rep β) {X : Cx} {pins : List (Addr × Obj)} {σ : St} {H : Hp} {s : Shared} {A : Around}
theorem items2_eq {x y x' y' : V} {u w u' w' : Value} {a a' : α} {b b' : β} (I : Inv X pins σ H s) (hu : A.units + (max R.dep S.dep + 1) < cLine) (r1 : RelV x u) (r2 : RelV y w) (r3 : RelV x' u') (r4 : RelV y' w')
    (p1 : R.rel X.K H x a) (p2 : S.rel X.K H y b) (p3 : R.rel X.K H x' a') (p4 : S.rel X.K H y' b') :
    ∀ j (h1 : j < ([u, w].toArray).size) (h2 : j < ([u', w'].toArray).size), SeqAt.EqAt A.in1 s [u, w].toArray[j] [u', w'].toArray[j] (if j = 0 then decide (a = a') else decide (b = b')) := by
  intro j h1 h2
  match j, h1, h2 with
  | 0, _, _ => exact R.eq I (by rw [units_in1]; omega) r1 r3 p1 p3
  | 1, _, _ => exact S.eq I (by rw [units_in1]; omega) r2 r4 p2 p4
end
/-- a pair -/
def repPair {α β : Type} [DecidableEq α] [DecidableEq β] (R : Rep α) (S : Rep β) : Rep (α × β) where
  rel := fun K H v ab => ∃ p x y, v = .ref p ∧ H p = some (.tup [x, y]) ∧ R.rel K H x ab.1 ∧ S.rel K H y ab.2
  dep := max R.dep S.dep + 1
  mono := fun e ⟨p, x, y, h1, h2, h3, h4⟩ => ⟨p, x, y, h1, e _ _ h2, R.mono e h3, S.mono e h4⟩
  inj := fun {X pins σ H s v a b} I ⟨p, x, y, h1, h2, h3, h4⟩ ⟨p', x', y', h1', h2', h3', h4'⟩ => by
    subst h1
    cases h1'
    cases I.tuple_inj (SqT.of h2) (SqT.of h2')
    exact Prod.ext (R.inj I h3 h3') (S.inj I h4 h4')
  rc := fun {X pins σ H s A u w x y a b} I hu rx ry ⟨p, x, y, h1, h2, h3, h4⟩ ⟨p', x', y', h1', h2', h3', h4'⟩ => by
    subst h1 h1'
    cases rx
    cases ry
    obtain ⟨us, r1, l1, _⟩ := I.tuple (SqT.of h2)
    obtain ⟨ws, r2, l2, _⟩ := I.tuple (SqT.of h2')
    obtain ⟨u1, u2, rfl, q1, q2⟩ := r1.two
    obtain ⟨w1, w2, rfl, q3, q4⟩ := r2.two
    rw [← two_all]
    exact SeqAt.RcAt.tuples l1 l2 (by omega) (items2_eq R S I hu q1 q2 q3 q4 h3 h4 h3' h4')
  rn := fun {X pins σ H s A u w x y a b} I hu rx ry ⟨p, x, y, h1, h2, h3, h4⟩ ⟨p', x', y', h1', h2', h3', h4'⟩ => by
    subst h1 h1'
    cases rx
    cases ry
    obtain ⟨us, r1, l1, _⟩ := I.tuple (SqT.of h2)
    obtain ⟨ws, r2, l2, _⟩ := I.tuple (SqT.of h2')
    obtain ⟨u1, u2, rfl, q1, q2⟩ := r1.two
    obtain ⟨w1, w2, rfl, q3, q4⟩ := r2.two
    rw [← two_all]
    exact SeqAt.RcNeAt.tuples l1 l2 (by omega) (items2_eq R S I hu q1 q2 q3 q4 h3 h4 h3' h4')
  eq := fun {X pins σ H s A u w x y a b} I hu rx ry ⟨p, x, y, h1, h2, h3, h4⟩ ⟨p', x', y', h1', h2', h3', h4'⟩ => by
    subst h1 h1'
    cases rx
    cases ry
    by_cases hp : p = p'
    · subst hp
      cases I.tuple_inj (SqT.of h2) (SqT.of h2')
      rw [decide_eq_true (Prod.ext (R.inj I h3 h3') (S.inj I h4 h4'))]
      exact SeqAt.EqAt.same _
    · refine SeqAt.EqAt.of_refs hp ?_
      obtain ⟨us, r1, l1, _⟩ := I.tuple (SqT.of h2)
      obtain ⟨ws, r2, l2, _⟩ := I.tuple (SqT.of h2')
      obtain ⟨u1, u2, rfl, q1, q2⟩ := r1.two
      obtain ⟨w1, w2, rfl, q3, q4⟩ := r2.two
      rw [← two_all]
      exact SeqAt.RcAt.tuples l1 l2 (by omega) (items2_eq R S I hu q1 q2 q3 q4 h3 h4 h3' h4')
/-! ### a == b, a != b -/
section
variable {α : Type} [DecidableEq α] (R : Rep α) {X : Cx}
def rEqR (K : PySem.W.Frag) : R2 := fun x y H Q => ∃ a b, R.rel K H x a ∧ R.rel K H y b ∧ Q (.bl (decide (a = b))) H
def rNeR (K : PySem.W.Frag) : R2 := fun x y H Q => ∃ a b, R.rel K H x a ∧ R.rel K H y b ∧ Q (.bl (!decide (a = b))) H
theorem op_eqR (hu : X.A.units + R.dep < cLine) : OpR X (compareOp .Eq) (rEqR R X.K) := by
  intro pins s σ H x y v u Q I rx ry h
  obtain ⟨a, b, ha, hb, q⟩ := h
  exact R.rc I hu rx ry ha hb X.prog X.w X.xe (EP X pins σ Q) ⟨.bl _, H, I, rfl, q⟩
theorem op_neR (hu : X.A.units + R.dep < cLine) : OpR X (compareOp .NotEq) (rNeR R X.K) := by
  intro pins s σ H x y v u Q I rx ry h
  obtain ⟨a, b, ha, hb, q⟩ := h
  exact R.rn I hu rx ry ha hb X.prog X.w X.xe (EP X pins σ Q) ⟨.bl _, H, I, rfl, q⟩
end
end L2
set_option Elab.async false
set_option linter.all false
set_option maxRecDepth 100000
set_option maxHeartbeats 4000000
/-! COMPREHENSIONS over the hand layer: [elt for tg in iter if c], as a value and as a name's new value. -/
namespace L2
open PySem PySem.Spec PyProof.Rows
/-! ### the closure of the block -/
theorem lookup_cons_iff {α : Type} {x y : Str} {a : α} {l : List (Str × α)} {b : α} (h : ((y, a) :: l).lookup x = some b) : (x = y ∧ a = b) ∨ l.lookup x = some b := by
  rw [List.lookup_cons] at h
  cases e : x == y with
  | true => rw [e] at h; exact .inl ⟨eq_of_beq e, Option.some.inj h⟩
  | false => rw [e] at h; exact .inr h
theorem lookup_cons_self {α : Type} {x : Str} {a : α} {l : List (Str × α)} : ((x, a) :: l).lookup x = some a := by
  rw [List.lookup_cons]; simp
theorem lookup_cons_some {α : Type} {x y : Str} {a : α} {l : List (Str × α)} (h : ∃ b, l.lookup x = some b) : ∃ b, ((y, a) :: l).lookup x = some b := by
  rw [List.lookup_cons]
  cases e : x == y with
  | true => exact ⟨a, rfl⟩
  | false => exact h
theorem closure_go {env : Env} : ∀ (names : List (Str × NameKind)) (acc : List (Str × Addr)), (∀ y ∈ names, y.2 = .free → ∃ c, env.cells.lookup y.1 = some c) →
    ∃ cl, (forIn names acc fun (x : Str × NameKind) (r : List (Str × Addr)) => if (x.2 == NameKind.free) = true then (cellOf env x.1 >>= fun a => pure (ForInStep.yield ((x.1, a) :: r)) : Sem (ForInStep (List (Str × Addr)))) else pure (ForInStep.yield r)) = pure cl ∧
      (∀ x c, cl.lookup x = some c → env.cells.lookup x = some c ∨ acc.lookup x = some c) ∧ (∀ x, (∃ c, acc.lookup x = some c) → ∃ c, cl.lookup x = some c) ∧ (∀ x, (x, NameKind.free) ∈ names → ∃ c, cl.lookup x = some c)
  | [], acc, _ => ⟨acc, rfl, fun _ _ h => .inr h, fun _ h => h, fun _ h => absurd h (by simp)⟩
  | (n, k) :: r, acc, h => by
    have hr : ∀ y ∈ r, y.2 = .free → ∃ c, env.cells.lookup y.1 = some c := fun y hy => h y (List.mem_cons_of_mem _ hy)
    by_cases hk : k = .free
    · subst hk
      obtain ⟨c, hc⟩ := h (n, .free) List.mem_cons_self rfl
      obtain ⟨cl, e, h1, h2, h3⟩ := closure_go r ((n, c) :: acc) hr
      refine ⟨cl, ?_, fun x d hd => ?_, fun x hx => h2 x (lookup_cons_some hx), fun x hx => ?_⟩
      · rw [List.forIn_cons]
        have z : (NameKind.free == NameKind.free) = true := by decide
        have w : cellOf env n = pure c := by unfold cellOf; rw [hc]
        simp only [z, if_true, w]
        exact e
      · rcases h1 x d hd with q | q
        · exact .inl q
        · rcases lookup_cons_iff q with ⟨rfl, rfl⟩ | q
          · exact .inl hc
          · exact .inr q
      · rcases List.mem_cons.mp hx with q | q
        · cases q
          exact h2 n ⟨c, lookup_cons_self⟩
        · exact h3 x q
    · obtain ⟨cl, e, h1, h2, h3⟩ := closure_go r acc hr
      refine ⟨cl, ?_, h1, h2, fun x hx => ?_⟩
      · rw [List.forIn_cons]
        have z : (k == NameKind.free) = false := by simpa using hk
        simp only [z, Bool.false_eq_true, if_false]
        exact e
      · rcases List.mem_cons.mp hx with q | q
        · cases q
          exact absurd rfl hk
        · exact h3 x q
theorem closure_ok {scope : Scope} {env : Env} (h : ∀ y ∈ scope.names, y.2 = .free → ∃ c, env.cells.lookup y.1 = some c) :
    ∃ cl, closureFor scope env = pure cl ∧ (∀ x c, cl.lookup x = some c → env.cells.lookup x = some c) ∧ (∀ x, (x, NameKind.free) ∈ scope.names → ∃ c, cl.lookup x = some c) := by
  obtain ⟨cl, e, h1, _, h3⟩ := closure_go scope.names [] h
  refine ⟨cl, ?_, fun x c q => (h1 x c q).elim id fun z => absurd z (by simp), h3⟩
  rw [← bind_pure (pure cl : Sem (List (Str × Addr))), ← e]
  rfl
/-! ### the block's context -/
def cxc (X : Cx) (scope : Scope) (Nc : List Str) (cl : List (Str × Addr)) (C : Addr) (fp : List Addr) (s : Shared) (H : Hp) : Cx :=
  { X with N := Nc, s₀ := s, H₀ := H, env := compEnvC scope cl C X.env, outer := X.stack, ex := fp, fn := fun _ => false, pn := [], xe := fun _ _ => False }
/-- the names of the block: its own, and those of around by their slots there -/
structure CompOk (X : Cx) (scope : Scope) (Nc : List Str) (im : List (Option Nat)) : Prop where
  kind : scope.kind = .function
  cell : ∀ y ∈ scope.names, y.2 ≠ .cell
  names : ∀ y ∈ scope.names, y.2 = .local → scope.names.lookup y.1 = some .local
  free : ∀ y ∈ scope.names, y.2 = .free → X.env.kindOf y.1 = some .cell ∨ X.env.kindOf y.1 = some .free
  len : im.length = Nc.length
  slot : ∀ (i j : Nat), im[i]? = some (some j) → ∃ x, Nc[i]? = some x ∧ X.N[j]? = some x ∧ scope.names.lookup x = some .free
/-- the same, by computation -/
def compOkB (sc : Scope) (N : List Str) (scope : Scope) (Nc : List Str) (im : List (Option Nat)) : Bool :=
  (scope.kind == .function) && scope.names.all (fun y => y.2 != .cell) && scope.names.all (fun y => y.2 != .local || scope.names.lookup y.1 == some .local) &&
    scope.names.all (fun y => y.2 != .free || sc.names.lookup y.1 == some .cell || sc.names.lookup y.1 == some .free) && (im.length == Nc.length) &&
    (List.range im.length).all fun i => match im[i]? with
      | some (some j) => (match Nc[i]?, N[j]? with | some x, some y => x == y && scope.names.lookup x == some .free | _, _ => false)
      | _ => true
theorem compOk_of {X : Cx} {scope : Scope} {Nc : List Str} {im : List (Option Nat)} {sc : Scope} {N : List Str} (hs : X.env.scope = sc) (hN : X.N = N) (h : compOkB sc N scope Nc im = true) : CompOk X scope Nc im := by
  unfold compOkB at h
  simp only [Bool.and_eq_true] at h
  obtain ⟨⟨⟨⟨⟨h1, h2⟩, h3⟩, h4⟩, h5⟩, h6⟩ := h
  refine ⟨eq_of_beq h1, fun y hy => ?_, fun y hy hl => ?_, fun y hy hl => ?_, eq_of_beq h5, fun i j hij => ?_⟩
  · have z := List.all_eq_true.mp h2 y hy
    simpa using z
  · have z := List.all_eq_true.mp h3 y hy
    rw [hl] at z
    simpa using z
  · have z := List.all_eq_true.mp h4 y hy
    rw [hl] at z
    show X.env.scope.names.lookup y.1 = _ ∨ X.env.scope.names.lookup y.1 = _
    rw [hs]
    simpa using z
  · have hi : i < im.length := (List.getElem?_eq_some_iff.mp hij).1
    have z := List.all_eq_true.mp h6 i (List.mem_range.mpr hi)
    rw [hij] at z
    rw [hN]
    simp only at z
    cases hx : Nc[i]? with
    | none => rw [hx] at z; simp at z
    | some x =>
      cases hy : N[j]? with
      | none => rw [hx, hy] at z; simp at z
      | some y =>
        rw [hx, hy] at z
        simp only [Bool.and_eq_true] at z
        have e : x = y := eq_of_beq z.1
        subst e
        exact ⟨x, rfl, rfl, eq_of_beq z.2⟩
theorem relabel_free {env : Env} : ∀ {names : List (Str × NameKind)} {x : Str}, names.lookup x = some .free →
    (names.map fun (n, k) => if (k == NameKind.free && env.scope.kind == .function && env.kindOf n == some .cell) then (n, NameKind.cell) else (n, k)).lookup x = some .cell ∨
    (names.map fun (n, k) => if (k == NameKind.free && env.scope.kind == .function && env.kindOf n == some .cell) then (n, NameKind.cell) else (n, k)).lookup x = some .free
  | [], _, h => by simp at h
  | (n, k) :: r, x, h => by
    rw [List.map_cons]
    rw [List.lookup_cons] at h
    cases e : x == n with
    | true =>
      rw [e] at h
      have hk : k = .free := Option.some.inj h
      subst hk
      by_cases hc : (NameKind.free == NameKind.free && env.scope.kind == .function && env.kindOf n == some .cell) = true
      · simp only [hc, if_true]
        rw [List.lookup_cons, e]
        exact .inl rfl
      · simp only [hc, Bool.false_eq_true, if_false]
        rw [List.lookup_cons, e]
        exact .inr rfl
    | false =>
      rw [e] at h
      by_cases hc : (k == NameKind.free && env.scope.kind == .function && env.kindOf n == some .cell) = true
      · simp only [hc, if_true]
        rw [List.lookup_cons, e]
        exact relabel_free h
      · simp only [hc, Bool.false_eq_true, if_false]
        rw [List.lookup_cons, e]
        exact relabel_free h
theorem mem_of_look {α : Type} {x : Str} {a : α} : ∀ {l : List (Str × α)}, l.lookup x = some a → (x, a) ∈ l
  | [], h => by simp at h
  | (n, k) :: r, h => by
    rcases lookup_cons_iff h with ⟨rfl, rfl⟩ | h
    · exact List.mem_cons_self
    · exact List.mem_cons_of_mem _ (mem_of_look h)
def imσ (im : List (Option Nat)) (σ : St) : St := im.map fun o => o.bind fun j => (σ[j]?).bind id
theorem relabel_of {env : Env} : ∀ {names : List (Str × NameKind)} {x : Str} {k : NameKind},
    (names.map fun (n, k) => if (k == NameKind.free && env.scope.kind == .function && env.kindOf n == some .cell) then (n, NameKind.cell) else (n, k)).lookup x = some k → ∃ k0, (x, k0) ∈ names ∧ (k0 = k ∨ k0 = .free)
  | [], _, _, h => by simp at h
  | (n, k0) :: r, x, k, h => by
    rw [List.map_cons] at h
    by_cases hc : (k0 == NameKind.free && env.scope.kind == .function && env.kindOf n == some .cell) = true
    · simp only [hc, if_true] at h
      have hk : k0 = .free := by
        rw [Bool.and_eq_true, Bool.and_eq_true] at hc
        exact eq_of_beq hc.1.1
      rcases lookup_cons_iff h with ⟨rfl, _⟩ | h
      · exact ⟨k0, List.mem_cons_self, .inr hk⟩
      · obtain ⟨k1, m, e⟩ := relabel_of h
        exact ⟨k1, List.mem_cons_of_mem _ m, e⟩
    · simp only [hc, Bool.false_eq_true, if_false] at h
      rcases lookup_cons_iff h with ⟨rfl, e⟩ | h
      · exact ⟨k0, List.mem_cons_self, .inl e⟩
      · obtain ⟨k1, m, e⟩ := relabel_of h
        exact ⟨k1, List.mem_cons_of_mem _ m, e⟩
section
variable {X : Cx} {pins : List (Addr × Obj)} {σ : St} {H : Hp} {s : Shared} {scope : Scope} {Nc : List Str} {im : List (Option Nat)} {cl : List (Str × Addr)} {fp : List Addr}
theorem Inv.cell_lt (I : Inv X pins σ H s) {x : Str} {c : Addr} (e : X.env.cells.lookup x = some c) : c < s.heap.objs.size := by
  obtain ⟨v, z⟩ := I.cell x c e
  exact z.lt
/-- the block begins -/
theorem Inv.block {h₁ : Heap} {t : Nat} {m0 : Str → Option Value} (I : Inv X pins σ H s) (O : CompOk X scope Nc im) (h1 : ∀ x c, cl.lookup x = some c → X.env.cells.lookup x = some c)
    (h2 : ∀ x, (x, NameKind.free) ∈ scope.names → ∃ c, cl.lookup x = some c) (hf : ∀ b ∈ fp, FpOk X pins H b ∧ b < s.heap.objs.size)
    (hns : h₁.Ns s.heap.objs.size m0) (hk : ∀ b o, s.heap.get? b = some o → h₁.get? b = some o) :
    Inv (cxc X scope Nc cl s.heap.objs.size fp s H) [] (imσ im σ) H { s with heap := h₁, toks := t } := by
  have cK : ∀ x c, cl.lookup x = some c → ∀ v, s.heap.IsCell c v → h₁.IsCell c v := fun x c e v ⟨o, ho, hd⟩ => ⟨o, hk c o ho, hd⟩
  have okc : (cxc X scope Nc cl s.heap.objs.size fp s H).Ok := by
    refine ⟨I.ok.mod, O.kind, I.ok.glob, I.ok.blt, Nat.le_refl _, fun x y c e1 e2 => I.ok.inj x y c (h1 x c e1) (h1 y c e2), fun x hx => ?_, fun x c z => absurd z (by simp [cxc]), I.ok.hd, I.ok.frames, .inl rfl,
      fun b hb => ⟨Nat.ne_of_lt (hf b hb).2, fun x c e => (hf b hb).1.2.2.2.2.1 x c (h1 x c e)⟩, fun b o e => I.bs b o e, Nat.le_trans I.ok.bsz I.sz, fun b o e z => ?_, fun b hb z => ?_, I.stack, I.stkFree⟩
    · have hx' : (relabel scope X.env).names.lookup x = some .cell ∨ (relabel scope X.env).names.lookup x = some .free := hx
      rcases hx' with q | q
      · obtain ⟨k0, m, e⟩ := relabel_of q
        rcases e with rfl | rfl
        · exact absurd rfl (O.cell _ m)
        · exact h2 x m
      · obtain ⟨k0, m, e⟩ := relabel_of q
        rcases e with rfl | rfl
        · exact h2 x m
        · exact h2 x m
    · rcases (hf b z).1.2.2.2.1 with q | q
      · exact I.ok.noex b o e q
      · exact absurd (Nat.lt_of_lt_of_le (Heap.lt_size (I.ok.bs b o e).1) q) (Nat.lt_irrefl _)
    · rcases List.mem_cons.mp (I.stkSub b z) with q | q
      · exact (hf b hb).1.2.1 q
      · exact (hf b hb).1.2.2.1 q
  refine ⟨okc, rfl, I.bare, Un.kept hk, ⟨m0, hns, fun i x v e1 e2 e3 => ?_⟩, fun x c e => ?_, I.hok.fresh (Nat.le_refl _), fun x c e => I.freeC x c (h1 x c e), fun p hp => absurd (show p ∈ ([] : List (Addr × Obj)) from hp) (by simp), I.hok.kept hk, by simp [imσ, O.len]; rfl⟩
  · have e2' : (im.map fun o => o.bind fun j => (σ[j]?).bind id)[i]? = some (some v) := e2
    rw [List.getElem?_map] at e2'
    cases q : im[i]? with
    | none => rw [q] at e2'; cases e2'
    | some o =>
      rw [q] at e2'
      have e4 : (o.bind fun j => (σ[j]?).bind id) = some v := Option.some.inj e2'
      cases o with
      | none => cases e4
      | some j =>
        have e5 : (σ[j]?).bind id = some v := e4
        cases qj : σ[j]? with
        | none => rw [qj] at e5; cases e5
        | some w =>
          rw [qj] at e5
          have e6 : w = some v := e5
          subst e6
          obtain ⟨y, n1, n2, n3'⟩ := O.slot i j q
          have n3 := mem_of_look n3'
          have n4 : (relabel scope X.env).names.lookup y = some .cell ∨ (relabel scope X.env).names.lookup y = some .free := relabel_free n3'
          have ey : y = x := Option.some.inj (n1.symm.trans e1)
          subst ey
          obtain ⟨m, hn, hl⟩ := I.loc
          have hv : Vis X.env.scope y := by
            rcases O.free _ n3 rfl with z | z
            · exact .inr (.inl z)
            · exact .inr (.inr z)
          obtain ⟨u, r, l⟩ := hl j y v n2 qj hv
          obtain ⟨c, hc⟩ := h2 y n3
          refine ⟨u, r, .inr ⟨n4, c, hc, ?_⟩⟩
          rcases l with ⟨z, _⟩ | ⟨_, c', e', z⟩
          · rcases O.free _ n3 rfl with w | w
            · rw [w] at z; cases z
            · rw [w] at z; cases z
          · have := h1 y c hc
            rw [e'] at this
            cases this
            exact cK y _ hc _ z
  · obtain ⟨v, z⟩ := I.cell x c (h1 x c e)
    exact ⟨v, cK x c e v z⟩
/-- the block ends -/
theorem Inv.unblock {σ' : St} {H' : Hp} {s' : Shared} {C : Addr} {pins' : List (Addr × Obj)} (I : Inv X pins σ H s) (hf : ∀ b ∈ fp, FpOk X pins H b) (J : Inv (cxc X scope Nc cl C fp s H) pins' σ' H' s') : Inv X pins σ H' s' :=
  I.call' (ch := fp) J.os J.base J.hok J.bare fun b hb => ⟨(hf b hb).2.2.2.1, (hf b hb).2.1, (hf b hb).2.2.2.2.1, (hf b hb).2.2.2.2.2⟩
/-- the block's names are let go -/
theorem Inv.letgo {H' : Hp} {s' : Shared} {h' : Heap} {C : Addr} (I0 : Inv X pins σ H s) {σ' : St} (I : Inv X pins σ' H' s') (hC : s.heap.objs.size ≤ C) (hn : H' C = none) (hs : Heap.SameBut C s'.heap h') : Inv X pins σ' H' { s' with heap := h' } :=
  I.turned (t' := s'.toks) (it := C) (fun b o hb e => (hs.2 b hb).trans e) hn (Nat.ne_of_gt (Nat.lt_of_lt_of_le I0.lt hC)) (.inr (Nat.le_trans I0.sz hC))
    (fun x c e => Nat.ne_of_lt (Nat.lt_of_lt_of_le (I0.cell_lt e) hC)) fun p hp => Nat.ne_of_lt (Nat.lt_of_lt_of_le (Heap.lt_size (I0.pin p hp).1) hC)
end
/-! ### the tests -/
def PTs (X : Cx) (ifs : List Expr) (t : TT) : Prop :=
  ∀ (pins : List (Addr × Obj)) (s : Shared) (σ : St) (H : Hp) (Q : Bool → Hp → Prop), Inv X pins σ H s → t σ H Q →
    wpAny (model X.prog X.w) X.A (forIn ifs true fun c r => if r = true then do let ok ← isTrue c X.env (eval c X.env); pure (ForInStep.yield ok) else pure (ForInStep.yield r)) (TP X pins σ Q) X.xe s
def tNoIf : TT := fun _ H Q => Q true H
theorem pts_nil {X : Cx} : PTs X [] tNoIf := fun _ _ _ H _ I h => wpAny_tests_nil ⟨H, I, h⟩
theorem pts_one {X : Cx} {c : Expr} {t : TT} (h : PT X c t) : PTs X [c] t := fun pins s σ H Q I q => wpAny_tests_one (h pins s σ H Q I q)
/-! ### the loop -/
theorem compLoop_any {prog : Program} {w : World} {A : Around} {R : Result → Shared → Prop} {s : Shared} {elt tg iter : Expr} {ifs : List Expr} {scope : Scope} {pos : Pos} {it acc : Value} {env : Env} (I : Nat → Shared → Prop)
    (turn : ∀ n s, I n s → wpAny (model prog w) A (pyNext it) (fun r s1 => match r with
      | none => R (.ok .next) s1
      | some v => wpAny (model prog w) A (letOwnedTupleGo tg it v) (fun _ s2 => wpAny (model prog w) A (assign tg env v) (fun _ s3 =>
          wpAny (model prog w) A (forIn ifs true fun c r => if r = true then do let ok ← isTrue c env (eval c env); pure (ForInStep.yield ok) else pure (ForInStep.yield r)) (fun ok s4 =>
            if ok = true then wpAny (model prog w) A (eval elt env) (fun x s5 => wpAny (model prog w) A (call (.builtin "list.append") [acc, x]) (fun _ s6 => ∃ m, m < n ∧ I m s6) (fun _ _ => False) s5) (fun _ _ => False) s4
            else ∃ m, m < n ∧ I m s4) (fun _ _ => False) s3) (fun _ _ => False) s2) (fun _ _ => False) s1) (fun _ _ => False) s)
    (n : Nat) (h : I n s) : codeAny (model prog w) A (.compLoop (.ListComp elt [⟨tg, iter, ifs, 0⟩] scope pos) 0 it acc env) R s := by
  refine codeAny_loop rfl I (fun n s hI => ?_) n h
  show wpAny _ A ((compTurn (.ListComp elt [⟨tg, iter, ifs, 0⟩] scope pos) 0 it acc env).onRaise _) _ _ s
  refine wpAny_noted (wpAny_mono (E := fun _ _ => False) ?_ (fun _ _ q => q) fun _ _ q => q.elim)
  rw [compTurn_list]
  refine wpAny_bind (wpAny_standAt (wpAny_bind (thn (turn n s hI) fun r s1 h1 => ?_)))
  cases r with
  | none => exact wpAny_pure h1
  | some v =>
    refine wpAny_bind (thn h1 fun _ s2 h2 => wpAny_bind (thn h2 fun _ s3 h3 => wpAny_bind (thn h3 fun ok s4 h4 => ?_)))
    cases ok with
    | false => exact wpAny_pure ⟨rfl, h4⟩
    | true => exact wpAny_bind (wpAny_bind (thn h4 fun x s5 h5 => wpAny_bind (thn h5 fun _ s6 h6 => wpAny_pure (wpAny_pure ⟨rfl, h6⟩))))
/-! ### the reading -/
def compW (J : It) (acc : Addr) (g : TG) (tc : TT) (te : TE) (fin : Hp → Prop) (W : Nat → Nat → St → List V → Hp → Prop) : Prop :=
  ∀ i m σ ys H, W i m σ ys H → H acc = some (.lst ys) ∧ ((J.stop i H ∧ fin H) ∨ (J.go i H ∧ ∀ x H', J.yld i H x H' → g x σ H' fun σ2 H2 => tc σ2 H2 fun b H3 =>
    if b = true then te σ2 H3 fun y H4 => H4 acc = some (.lst ys) ∧ ys.length < sizeLine ∧ ∃ m', m' < m ∧ W (i + 1) m' σ2 (ys ++ [y]) (upd H4 acc (.lst (ys ++ [y]))) else ∃ m', m' < m ∧ W (i + 1) m' σ2 ys H3))
def tCompR (wi : TI) (im : List (Option Nat)) (g : TG) (tc : TT) (te : TE) (σ : St) (H : Hp) (fin : Addr → Hp → Prop) : Prop :=
  wi σ H fun J H1 => ∀ acc, H1 acc = none → ∃ W : Nat → Nat → St → List V → Hp → Prop, (∃ m, W 0 m (imσ im σ) [] (upd H1 acc (.lst []))) ∧ compW J acc g tc te (fin acc) W
def tComp (wi : TI) (im : List (Option Nat)) (g : TG) (tc : TT) (te : TE) : TE := fun σ H Q => tCompR wi im g tc te σ H fun acc H' => Q (.ref acc) H'
def sComp (k : Nat) (wi : TI) (im : List (Option Nat)) (g : TG) (tc : TT) (te : TE) : TS := fun D σ H => tCompR wi im g tc te σ H fun acc H' => D.nx (σ.set k (some (.ref acc))) H'
section
variable {X : Cx} {elt tg iter : Expr} {ifs : List Expr} {scope : Scope} {pos : Pos} {wi : TI} {g : TG} {tc : TT} {te : TE} {Nc : List Str} {im : List (Option Nat)}
/-- the block's parts, in whatever block of this scope -/
def Blk (X : Cx) (scope : Scope) (Nc : List Str) (tg : Expr) (ifs : List Expr) (elt : Expr) (g : TG) (tc : TT) (te : TE) : Prop :=
  ∀ cl C fp s H, PG (cxc X scope Nc cl C fp s H) tg g ∧ PTs (cxc X scope Nc cl C fp s H) ifs tc ∧ PE (cxc X scope Nc cl C fp s H) elt te
theorem comp_run {pins : List (Addr × Obj)} {s2 : Shared} {σ : St} {H2 : Hp} {fin : Addr → Hp → Prop} {it : Addr} {fp : List Addr} {tn : Nat → Heap → Prop} {J : It} {cl : List (Str × Addr)} {E : Value → Shared → Prop}
    {RR : Value → Addr → Result → Shared → Prop} (hc : X.calm = true) (O : CompOk X scope Nc im) (hb : Blk X scope Nc tg ifs elt g tc te)
    (h1 : ∀ x c, cl.lookup x = some c → X.env.cells.lookup x = some c) (h2 : ∀ x, (x, NameKind.free) ∈ scope.names → ∃ c, cl.lookup x = some c)
    (I2 : Inv X pins σ H2 s2) (T : Turn X.prog X.w X.K tg J fp it tn) (st2 : tn 0 s2.heap) (f2 : ∀ b ∈ fp, FpOk X pins H2 b)
    (hW : ∀ acc, H2 acc = none → ∃ W : Nat → Nat → St → List V → Hp → Prop, (∃ m, W 0 m (imσ im σ) [] (upd H2 acc (.lst []))) ∧ compW J acc g tc te (fin acc) W)
    (hR : ∀ acc C H' s', s2.heap.objs.size < C → Inv X pins σ H' s' → H' C = none → (∃ m, s'.heap.Ns C m) → fin acc H' → RR (.ref acc) C (.ok .next) s') :
    wpAny (model X.prog X.w) X.A (newList []) (fun acc s3 => wpAny (model X.prog X.w) X.A (newFunctionEnv scope X.env.globals cl [] X.env.qual none .none (some X.env)) (fun cenv s4 =>
      codeAny (model X.prog X.w) X.A (.compStart (.ListComp elt [⟨tg, iter, ifs, 0⟩] scope pos) 0 (.ref it) acc { cenv with scope := relabel scope X.env }) (RR acc cenv.locals) s4) E s3) E s2 := by
  have I3 : Inv X pins σ (upd H2 s2.heap.objs.size (.lst [])) { s2 with heap := s2.heap.push { cls := .type "list", data := .seq ([] : List Value).toArray }, toks := s2.toks } := I2.lnew (ys := []) (its := []) (t' := s2.toks) .nil (Nat.zero_le _)
  have facc : H2 s2.heap.objs.size = none := I2.fresh
  obtain ⟨W, ⟨m0, w0⟩, turn⟩ := hW _ facc
  refine wpAny_newObj_type (wpAny_newFunctionEnv O.cell (by intro y hy; simp at hy) (fun h1' hns hsb => ?_) O.kind)
  -- the iterator's objects at the block's begin
  have fpo : ∀ b ∈ fp, b < s2.heap.objs.size := fun b hb' => by
    obtain ⟨o, e, _⟩ := T.obj _ _ st2 b hb'
    exact Heap.lt_size e
  have fp3 : ∀ b ∈ fp, FpOk X pins (upd H2 s2.heap.objs.size (.lst [])) b := fun b hb' => ⟨by rw [upd_ne (Nat.ne_of_lt (fpo b hb'))]; exact (f2 b hb').1, (f2 b hb').2⟩
  generalize hs3 : ({ s2 with heap := s2.heap.push { cls := .type "list", data := .seq ([] : List Value).toArray }, toks := s2.toks } : Shared) = s3 at I3
  have es3 : s3.heap = s2.heap.push { cls := .type "list", data := .seq ([] : List Value).toArray } := by rw [← hs3]
  have sz3 : s3.heap.objs.size = s2.heap.objs.size + 1 := by rw [es3, Heap.size_push]
  have old3 : ∀ b o, s2.heap.get? b = some o → s3.heap.get? b = some o := fun b o e => by rw [es3]; exact Heap.get?_push_of_some _ e
  have hns' : h1'.Ns s3.heap.objs.size (fun _ => none) := by rw [es3]; exact hns
  have hk : ∀ b o, s3.heap.get? b = some o → h1'.get? b = some o := fun b o e => by
    refine hsb.extBut b o ?_ ?_
    · have := Heap.lt_size e
      rw [es3] at this
      exact Nat.ne_of_lt this
    · rw [es3] at e
      exact Heap.get?_push_of_some _ e
  have Ic : Inv (cxc X scope Nc cl s3.heap.objs.size fp s3 (upd H2 s2.heap.objs.size (.lst []))) [] (imσ im σ) (upd H2 s2.heap.objs.size (.lst [])) { s3 with heap := h1', toks := s3.toks + ([] : List (Str × Value)).length } :=
    I3.block O h1 h2 (fun b hb' => ⟨fp3 b hb', by rw [sz3]; exact Nat.lt_succ_of_lt (fpo b hb')⟩) hns' hk
  obtain ⟨bG, bT, bE⟩ := hb cl s3.heap.objs.size fp s3 (upd H2 s2.heap.objs.size (.lst []))
  have st4 : tn 0 h1' := T.keep _ _ _ st2 fun b _ o e => hk b o (old3 b o e)
  -- what stays true of the iterator's objects in the block
  have stat : ∀ {H' : Hp}, (∀ b ∈ fp, H' b = none) → ∀ b ∈ fp, FpOk (cxc X scope Nc cl s3.heap.objs.size fp s3 (upd H2 s2.heap.objs.size (.lst []))) [] H' b := fun hn b hb' =>
    ⟨hn b hb', Nat.ne_of_lt (by show b < s3.heap.objs.size; rw [sz3]; exact Nat.lt_succ_of_lt (fpo b hb')), fun z => (List.mem_cons.mp (I3.stkSub b z)).elim (fp3 b hb').2.1 (fp3 b hb').2.2.1, .inl hb', fun x c e => (fp3 b hb').2.2.2.2.1 x c (h1 x c e), fun p hp => absurd (show p ∈ ([] : List (Addr × Obj)) from hp) (by simp)⟩
  have loop : ∀ s4 : Shared, s4 = { s3 with heap := h1', toks := s3.toks + ([] : List (Str × Value)).length } → codeAny (model X.prog X.w) X.A (.compLoop (.ListComp elt [⟨tg, iter, ifs, 0⟩] scope pos) 0 (.ref it) (.ref s2.heap.objs.size) (compEnvC scope cl s3.heap.objs.size X.env)) (RR (.ref s2.heap.objs.size) s3.heap.objs.size) s4 := by
    rintro s4 rfl
    refine compLoop_any (fun n s' => ∃ i σ' ys H', Inv (cxc X scope Nc cl s3.heap.objs.size fp s3 (upd H2 s2.heap.objs.size (.lst []))) [] σ' H' s' ∧ tn i s'.heap ∧ (∀ b ∈ fp, H' b = none) ∧ W i n σ' ys H') ?_ m0
      ⟨0, _, [], _, Ic, st4, fun b hb' => (fp3 b hb').1, w0⟩
    rintro n s5 ⟨i, σ5, ys, H5, I5, st5, fr5, w5⟩
    obtain ⟨hacc, alt⟩ := turn i n σ5 ys H5 w5
    rcases alt with ⟨stop, qn⟩ | ⟨go, step⟩
    · refine thn (T.done (cxc X scope Nc cl s3.heap.objs.size fp s3 (upd H2 s2.heap.objs.size (.lst []))) rfl rfl rfl hc i [] s5 σ5 H5 _ I5 (stat fr5) st5 stop) fun r s6 ⟨hr, I6⟩ => ?_
      subst hr
      obtain ⟨m, hn, _⟩ := I6.loc
      exact hR _ _ H5 s6 (by rw [sz3]; exact Nat.lt_succ_self _) (I3.unblock fp3 I6) I6.free ⟨m, hn⟩ qn
    · refine thn (T.item (cxc X scope Nc cl s3.heap.objs.size fp s3 (upd H2 s2.heap.objs.size (.lst []))) rfl rfl rfl hc i [] s5 σ5 H5 _ I5 (stat fr5) st5 go) fun r s6 ⟨u, hr, h6⟩ => ?_
      subst hr
      refine thn h6 fun _ s7 ⟨x, H7, I7, r7, y7, st7, fr7⟩ => ?_
      have I7' := I7.pinned (stat fr7) (T.obj _ _ st7)
      have again : ∀ {s' : Shared} {σ8 : St} {zs : List V} {H8 : Hp}, Inv (cxc X scope Nc cl s3.heap.objs.size fp s3 (upd H2 s2.heap.objs.size (.lst []))) ([] ++ pinsAt fp s7.heap) σ8 H8 s' → (∃ m', m' < n ∧ W (i + 1) m' σ8 zs H8) →
          ∃ m, m < n ∧ ∃ i σ' ys H', Inv (cxc X scope Nc cl s3.heap.objs.size fp s3 (upd H2 s2.heap.objs.size (.lst []))) [] σ' H' s' ∧ tn i s'.heap ∧ (∀ b ∈ fp, H' b = none) ∧ W i m σ' ys H' := fun {s' σ8 zs H8} I8 ⟨m', hm, w8⟩ => by
        refine ⟨m', hm, i + 1, σ8, zs, H8, I8.unpinned, T.keep _ _ _ st7 fun b hb' o e => (I8.pin (b, o) (List.mem_append_right _ (List.mem_append_right _ (mem_pinsAt hb' e)))).1, fun b hb' => ?_, w8⟩
        obtain ⟨o, e, d⟩ := T.obj _ _ st7 b hb'
        exact (I8.pin (b, o) (List.mem_append_right _ (List.mem_append_right _ (mem_pinsAt hb' e)))).2.1
      refine thn (bG _ s7 σ5 H7 x u _ I7' r7 (step x H7 y7)) fun _ s8 ⟨σ8, H8, I8, q8⟩ => ?_
      refine thn (bT _ s8 σ8 H8 _ I8 q8) fun ok s9 ⟨H9, I9, q9⟩ => ?_
      cases ok with
      | false =>
        have q9' : ∃ m', m' < n ∧ W (i + 1) m' σ8 ys H9 := by simpa using q9
        exact again I9 q9'
      | true =>
        rw [if_pos rfl] at q9
        refine (if_pos rfl).mpr ?_
        refine thn (bE _ s9 σ8 H9 _ I9 q9) fun v sA ⟨y, HA, IA, rA, hA, hz, qA⟩ => ?_
        refine thn (mt_append _ sA σ8 HA (.ref s2.heap.objs.size) [y] _ [v] (fun _ H' => ∃ m', m' < n ∧ W (i + 1) m' σ8 (ys ++ [y]) H') IA rfl (.cons rA .nil) ⟨_, ys, y, rfl, rfl, hA, hz, qA⟩) fun v' sB ⟨_, HB, IB, _, qB⟩ => ?_
        exact again IB qB
  have key : codeAny (model X.prog X.w) X.A (.compStart (.ListComp elt [⟨tg, iter, ifs, 0⟩] scope pos) 0 (.ref it) (.ref s2.heap.objs.size) (compEnvC scope cl s3.heap.objs.size X.env)) (RR (.ref s2.heap.objs.size) s3.heap.objs.size) { s3 with heap := h1', toks := s3.toks + ([] : List (Str × Value)).length } :=
    codeAny_compStart_list (loop _ rfl) (T.self _ 0 _ _ _ st4 (loop _ rfl))
  exact key
theorem comp_clos {pins : List (Addr × Obj)} {s : Shared} {σ : St} {H : Hp} (I : Inv X pins σ H s) (O : CompOk X scope Nc im) :
    ∃ cl, closureFor scope X.env = pure cl ∧ (∀ x c, cl.lookup x = some c → X.env.cells.lookup x = some c) ∧ (∀ x, (x, NameKind.free) ∈ scope.names → ∃ c, cl.lookup x = some c) :=
  closure_ok fun y hy hf => I.ok.has y.1 (O.free y hy hf)
/-- [elt for tg in iter if ..] -/
theorem pe_comp (hc : X.calm = true) (O : CompOk X scope Nc im) (hi : PI X tg iter wi) (hb : Blk X scope Nc tg ifs elt g tc te) (hs : ∀ x, foldedSetIterable iter X.env x = pure x := by intro _; rfl) :
    PE X (.ListComp elt [⟨tg, iter, ifs, 0⟩] scope pos) (tComp wi im g tc te) := by
  intro pins s σ H Q I h
  obtain ⟨cl, hcl, h1, h2⟩ := comp_clos I O
  rw [eval_ListComp]
  refine wpAny_comprehension_free (use := none) rfl hs hcl O.kind O.names (thn (hi pins s σ H _ I h) fun v s1 g1 => thn g1 fun itv s2 g2 => ?_)
  obtain ⟨it, fp, tn, J, H2, e, I2, T, st2, f2, hW⟩ := g2
  subst e
  refine comp_run (fin := fun acc H' => Q (.ref acc) H') (RR := fun acc C => compPost (model X.prog X.w) X.A X.xe none (EP X pins σ Q) acc C) hc O hb h1 h2 I2 T st2 f2 hW ?_
  intro acc C H' s' hC I' hn hm q
  obtain ⟨m, hm⟩ := hm
  exact ⟨m, hm, fun h' hs' => ⟨.ref acc, H', I2.letgo I' (Nat.le_of_lt hC) hn hs', rfl, q⟩⟩
/-- name = [elt for tg in iter if ..], the name a plain local on the same row: stored ahead of the block's end -/
theorem ps_comp {k : Nat} {y : Str} {py spos : Pos} (hc : X.calm = true) (O : CompOk X scope Nc im) (hN : X.N.Nodup) (hk : X.N[k]? = some y) (hy : Loc X.env.scope y) (hi : PI X tg iter wi) (hb : Blk X scope Nc tg ifs elt g tc te)
    (hsw : swapsWith (.ListComp elt [⟨tg, iter, ifs, 0⟩] scope pos) (some (.Name y py)) spos.line X.env = pure true := by rfl)
    (hf : X.fn y = true ∨ X.env.scope.names.lookup y = some .local := by first | exact .inl rfl | exact .inr rfl) (hs : ∀ x, foldedSetIterable iter X.env x = pure x := by intro _; rfl) :
    PS X (.Assign [.Name y py] (.ListComp elt [⟨tg, iter, ifs, 0⟩] scope pos) spos) (sComp k wi im g tc te) := by
  intro pins s σ H D I h
  obtain ⟨cl, hcl, h1, h2⟩ := comp_clos I O
  rw [exec_Assign_Name_used _ _ _ _ hsw]
  refine wpAny_bind (wpAny_standAt (wpAny_bind ?_))
  rw [arm_evalThenUse_ListComp]
  refine wpAny_bind (thn (wpAny_comprehension_free (use := some (assign (.Name y py) X.env)) (Q := fun _ s' => SP X pins D .next s') rfl hs hcl O.kind O.names (thn (hi pins s σ H _ I h) fun v s1 g1 => thn g1 fun itv s2 g2 => ?_)) fun _ s' hq => wpAny_pure (wpAny_pure hq))
  obtain ⟨it, fp, tn, J, H2, e, I2, T, st2, f2, hW⟩ := g2
  subst e
  refine comp_run (fin := fun acc H' => D.nx (σ.set k (some (.ref acc))) H') (RR := fun acc C => compPost (model X.prog X.w) X.A X.xe (some (assign (.Name y py) X.env)) (fun _ s' => SP X pins D .next s') acc C) hc O hb h1 h2 I2 T st2 f2 hW ?_
  intro acc C H' s' hC I' hn hm q
  obtain ⟨m, hm⟩ := hm
  show wpAny _ _ (assign (.Name y py) X.env (.ref acc)) _ _ _
  refine wpAny_assign_Name (store_ok2 I' hN hk hy (v := .ref acc) rfl (fun s'' I'' ⟨a, hs1, ha⟩ => ?_) hf)
  have hne : C ≠ a := by
    rcases ha with rfl | ha
    · exact Nat.ne_of_gt (Nat.lt_trans I2.lt hC)
    · exact Nat.ne_of_gt (Nat.lt_trans (I2.cell_lt ha) hC)
  exact ⟨m, hm.sameBut hs1 hne, fun h' hs' => ⟨_, H', I2.letgo I'' (Nat.le_of_lt hC) hn hs', q⟩⟩
end
/-! ### the forms one uses -/
section
variable {K : PySem.W.Frag} {a acc : Addr} {xs : List V} {g : TG} {tc : TT} {te : TE} {σ : St} {H : Hp} {fin : Hp → Prop}
/-- the rest of a turn, to reach N -/
def compT (acc : Addr) (g : TG) (tc : TT) (te : TE) (x : V) (σ : St) (ys : List V) (H : Hp) (N : St → List V → Hp → Prop) : Prop :=
  g x σ H fun σ2 H2 => tc σ2 H2 fun b H3 => if b = true then te σ2 H3 fun y H4 => H4 acc = some (.lst ys) ∧ ys.length < sizeLine ∧ N σ2 (ys ++ [y]) (upd H4 acc (.lst (ys ++ [y]))) else N σ2 ys H3
/-- by an invariant Pv: the turn, the block's names, what is kept so far, the heap -/
theorem comp_by {J : It} (n : Nat) (Pv : Nat → St → List V → Hp → Prop) (h0 : Pv 0 σ [] H) (hl : ∀ i σ ys H, i ≤ n → Pv i σ ys H → H acc = some (.lst ys) ∧ (i < n → J.go i H) ∧ (i = n → J.stop i H))
    (hs : ∀ i σ ys H N, i < n → Pv i σ ys H → (∀ σ' ys' H', Pv (i + 1) σ' ys' H' → N σ' ys' H') → ∀ x H', J.yld i H x H' → compT acc g tc te x σ ys H' N)
    (hd : ∀ σ ys H, Pv n σ ys H → fin H) : ∃ W : Nat → Nat → St → List V → Hp → Prop, (∃ m, W 0 m σ [] H) ∧ compW J acc g tc te fin W := by
  refine ⟨fun i m σ ys H => m = n - i ∧ i ≤ n ∧ Pv i σ ys H, ⟨n, by simp, Nat.zero_le _, h0⟩, ?_⟩
  rintro i m σ ys H ⟨rfl, hi, p⟩
  obtain ⟨qa, q1, q2⟩ := hl i σ ys H hi p
  refine ⟨qa, ?_⟩
  by_cases hlt : i < n
  · refine .inr ⟨q1 hlt, fun x H' y => ?_⟩
    exact hs i σ ys H (fun σ' ys' H' => ∃ m', m' < n - i ∧ m' = n - (i + 1) ∧ i + 1 ≤ n ∧ Pv (i + 1) σ' ys' H') hlt p (fun σ' ys' H' p' => ⟨n - (i + 1), by omega, rfl, hlt, p'⟩) x H' y
  · have e : i = n := by omega
    subst e
    exact .inl ⟨q2 rfl, hd σ ys H p⟩
/-- over a list that the block leaves as it is -/
theorem comp_list (Pv : Nat → St → List V → Hp → Prop) (h0 : Pv 0 σ [] H) (hl : ∀ i σ ys H, i ≤ xs.length → Pv i σ ys H → SqL K H a xs ∧ H acc = some (.lst ys))
    (hs : ∀ i x σ ys H N, xs[i]? = some x → Pv i σ ys H → (∀ σ' ys' H', Pv (i + 1) σ' ys' H' → N σ' ys' H') → compT acc g tc te x σ ys H N)
    (hd : ∀ σ ys H, Pv xs.length σ ys H → fin H) : ∃ W : Nat → Nat → St → List V → Hp → Prop, (∃ m, W 0 m σ [] H) ∧ compW (Itl K a) acc g tc te fin W := by
  refine comp_by xs.length Pv h0 (fun i σ ys H hi p => ?_) (fun i σ ys H N hi p k x H' y => ?_) hd
  · obtain ⟨q, qa⟩ := hl i σ ys H hi p
    exact ⟨qa, fun hlt => ⟨xs, xs[i], q, by simp [hlt]⟩, fun e => ⟨xs, q, Nat.le_of_eq e.symm⟩⟩
  · obtain ⟨e, y⟩ := y
    subst e
    exact hs i x σ ys _ N (y xs (hl i σ ys _ (Nat.le_of_lt hi) p).1) p k
theorem comp_range {lo : Int} {n : Nat} (Pv : Nat → St → List V → Hp → Prop) (h0 : Pv 0 σ [] H) (hl : ∀ i σ ys H, i ≤ n → Pv i σ ys H → H acc = some (.lst ys))
    (hs : ∀ i σ ys H N, i < n → Pv i σ ys H → (∀ σ' ys' H', Pv (i + 1) σ' ys' H' → N σ' ys' H') → compT acc g tc te (.int (lo + i)) σ ys H N)
    (hd : ∀ σ ys H, Pv n σ ys H → fin H) : ∃ W : Nat → Nat → St → List V → Hp → Prop, (∃ m, W 0 m σ [] H) ∧ compW (Itr lo n) acc g tc te fin W := by
  refine comp_by n Pv h0 (fun i σ ys H hi p => ⟨hl i σ ys H hi p, fun h => h, fun e => Nat.le_of_eq e.symm⟩) (fun i σ ys H N hi p k x H' y => ?_) hd
  obtain ⟨e, y⟩ := y
  subst e y
  exact hs i σ ys _ N hi p k
end
end L2
set_option Elab.async false
set_option linter.all false
/-! SETS of numbers: the table's places stay in rising order, so a walk meets each member once. -/
namespace CpSet
open PySem
abbrev Up (xs : Array Nat) : Prop := ∀ (i k : Nat) (hik : i < k) (h : k < xs.size), xs[i]'(Nat.lt_trans hik h) < xs[k]
theorem below_go (xs : Array Nat) (j : Nat) (hu : Up xs) : ∀ (fuel lo hi : Nat), hi - lo ≤ fuel → lo ≤ hi → hi ≤ xs.size → (∀ i (h : i < xs.size), i < lo → xs[i] < j) → (∀ i (h : i < xs.size), hi ≤ i → j ≤ xs[i]) →
    lo ≤ SetTable.below.go xs j fuel lo hi ∧ SetTable.below.go xs j fuel lo hi ≤ hi ∧ (∀ i (h : i < xs.size), i < SetTable.below.go xs j fuel lo hi → xs[i] < j) ∧ (∀ i (h : i < xs.size), SetTable.below.go xs j fuel lo hi ≤ i → j ≤ xs[i])
  | 0, lo, hi, hf, h1, h2, h3, h4 => by
    have e : lo = hi := by omega
    subst e
    simp only [SetTable.below.go]
    exact ⟨Nat.le_refl _, Nat.le_refl _, h3, h4⟩
  | fuel + 1, lo, hi, hf, h1, h2, h3, h4 => by
    simp only [SetTable.below.go]
    by_cases hl : lo < hi
    · rw [if_pos hl]
      have hm : (lo + hi) / 2 < xs.size := by omega
      have hg : xs.getD ((lo + hi) / 2) j = xs[(lo + hi) / 2] := by simp [hm]
      by_cases hc : xs.getD ((lo + hi) / 2) j < j
      · rw [if_pos hc]
        rw [hg] at hc
        obtain ⟨a, b, c, d⟩ := below_go xs j hu fuel ((lo + hi) / 2 + 1) hi (by omega) (by omega) h2 (fun i h hi' => by
          by_cases e : i = (lo + hi) / 2
          · subst e; exact hc
          · exact Nat.lt_trans (hu i _ (by omega) hm) hc) h4
        exact ⟨by omega, b, c, d⟩
      · rw [if_neg hc]
        rw [hg] at hc
        obtain ⟨a, b, c, d⟩ := below_go xs j hu fuel lo ((lo + hi) / 2) (by omega) (by omega) (by omega) h3 (fun i h hi' => by
          by_cases e : i = (lo + hi) / 2
          · subst e; omega
          · have z := hu ((lo + hi) / 2) i (by omega) h
            omega)
        exact ⟨a, by omega, c, d⟩
    · rw [if_neg hl]
      have e : lo = hi := by omega
      subst e
      exact ⟨Nat.le_refl _, Nat.le_refl _, h3, h4⟩
theorem below_spec (xs : Array Nat) (j : Nat) (hu : Up xs) : SetTable.below xs j ≤ xs.size ∧ (∀ i (h : i < xs.size), i < SetTable.below xs j → xs[i] < j) ∧ (∀ i (h : i < xs.size), SetTable.below xs j ≤ i → j ≤ xs[i]) := by
  obtain ⟨_, b, c, d⟩ := below_go xs j hu xs.size 0 xs.size (by omega) (by omega) (Nat.le_refl _) (fun i h h' => absurd h' (by omega)) (fun i h h' => absurd h' (by omega))
  exact ⟨b, c, d⟩
theorem below_zero (xs : Array Nat) (hu : Up xs) : SetTable.below xs 0 = 0 := by
  obtain ⟨a, b, _⟩ := below_spec xs 0 hu
  by_cases h : SetTable.below xs 0 = 0
  · exact h
  · have := b 0 (by omega) (by omega)
    omega
theorem below_next (xs : Array Nat) (hu : Up xs) (i : Nat) (h : i < xs.size) : SetTable.below xs (xs[i] + 1) = i + 1 := by
  obtain ⟨a, b, c⟩ := below_spec xs (xs[i] + 1) hu
  have h1 : i + 1 ≤ SetTable.below xs (xs[i] + 1) := by
    rcases Nat.lt_or_ge i (SetTable.below xs (xs[i] + 1)) with z | z
    · exact z
    · have := c i h z
      omega
  rcases Nat.lt_or_ge (i + 1) (SetTable.below xs (xs[i] + 1)) with z | z
  · have q := b (i + 1) (by omega) z
    have q2 := hu i (i + 1) (by omega) (by omega)
    omega
  · omega
theorem up_iff {xs : Array Nat} : Up xs ↔ xs.toList.Pairwise (· < ·) := by
  rw [List.pairwise_iff_getElem]
  constructor
  · intro h i k hi hk hik
    simpa using h i k hik (by simpa using hk)
  · intro h i k hik hk
    have z := h i k (by simpa using Nat.lt_trans hik hk) (by simpa using hk) hik
    rw [Array.getElem_toList, Array.getElem_toList] at z
    exact z
theorem insert_up {xs : Array Nat} {j : Nat} (hu : Up xs) (hne : xs[SetTable.below xs j]? ≠ some j) : Up (SetTable.insertAt xs (SetTable.below xs j) j) := by
  obtain ⟨a, b, c⟩ := below_spec xs j hu
  generalize hp : SetTable.below xs j = p at a b c hne
  have hgt : ∀ q (h : q < xs.size), p ≤ q → j < xs[q] := fun q h hq => by
    have h1 := c q h hq
    by_cases e : q = p
    · subst e
      have z : xs[q]? = some xs[q] := by simp [h]
      rw [z] at hne
      have : xs[q] ≠ j := fun z => hne (by rw [z])
      omega
    · have h2 := c p (by omega) (Nat.le_refl _)
      have h3 := hu p q (by omega) h
      omega
  have hl := up_iff.mp hu
  rw [up_iff, SetTable.toList_insertAt]
  refine List.pairwise_append.mpr ⟨hl.sublist (List.take_sublist _ _), List.pairwise_cons.mpr ⟨fun y hy => ?_, hl.sublist (List.drop_sublist _ _)⟩, fun x hx y hy => ?_⟩
  · obtain ⟨q, hq, e⟩ := List.mem_iff_getElem.mp hy
    rw [List.getElem_drop] at e
    rw [List.length_drop] at hq
    have z := hgt (p + q) (by simp at hq; omega) (by omega)
    simp at e
    omega
  · have hxj : x < j := by
      obtain ⟨q, hq, e⟩ := List.mem_iff_getElem.mp hx
      rw [List.getElem_take] at e
      rw [List.length_take] at hq
      have z := b q (by simp at hq; omega) (by omega)
      simp at e
      omega
    rcases List.mem_cons.mp hy with e | hy
    · rw [e]; exact hxj
    · obtain ⟨q, hq, e⟩ := List.mem_iff_getElem.mp hy
      rw [List.getElem_drop] at e
      rw [List.length_drop] at hq
      have z := hgt (p + q) (by simp at hq; omega) (by omega)
      simp at e
      omega
/-- the table while its order is that of its places -/
def TabOk (t : SetTable) : Prop := t.plain = true → Up t.place ∧ t.dummies = #[]
theorem probe_free (t : SetTable) (hd : t.dummies = #[]) (f : Nat → Int) (h : Int) : ∀ (fuel : Nat) (p : SetTable.Probe) (j : Nat) (d : Option Nat), p.dummy = none → SetTable.probe.go t f h fuel p = some (.empty j d) → d = none ∧ t.slot j = .empty
  | 0, p, j, d, hp, e => by simp [SetTable.probe.go] at e
  | fuel + 1, p, j, d, hp, e => by
    simp only [SetTable.probe.go] at e
    have adv : ∀ q : SetTable.Probe, (t.advance q).dummy = q.dummy := fun q => by
      unfold SetTable.advance
      split <;> rfl
    cases hs : t.slot p.j with
    | empty =>
      rw [hs] at e
      simp only [Option.some.injEq, SetTable.Met.empty.injEq] at e
      obtain ⟨e1, e2⟩ := e
      subst e1
      exact ⟨e2.symm.trans hp, hs⟩
    | dummy =>
      exfalso
      unfold SetTable.slot at hs
      simp only at hs
      split at hs
      · cases hs
      · have hh : SetTable.has t.dummies p.j = false := by
          rw [hd]
          rfl
        rw [hh] at hs
        simp at hs
    | live i =>
      rw [hs] at e
      simp only at e
      split at e
      · simp at e
      · exact probe_free t hd f h fuel _ j d (by rw [adv]; exact hp) e
theorem freeSlot_free (t : SetTable) (hd : t.dummies = #[]) (h : Int) {slot : Nat} {w : Bool} (e : t.freeSlot h = some (slot, w)) : t.place[SetTable.below t.place slot]? ≠ some slot := by
  unfold SetTable.freeSlot at e
  split at e
  · rename_i j d q
    unfold SetTable.probe at q
    obtain ⟨h1, h2⟩ := probe_free t hd _ h _ _ j d rfl q
    subst h1
    simp only [Option.getD_none, Option.some.injEq, Prod.mk.injEq] at e
    obtain ⟨e, _⟩ := e
    subst e
    intro z
    unfold SetTable.slot at h2
    simp only [z, beq_self_eq_true, if_true] at h2
    cases h2
  · cases e
theorem lay_tab (t : SetTable) (es : Array (Int × Value)) (h : Int) (x : Value) (ht : TabOk t) : TabOk (layNew t es h x).2.1 := by
  unfold layNew
  split
  · rename_i slot wd e
    intro hp
    simp only at hp ⊢
    unfold SetTable.orStandIn at hp ⊢
    split
    · rename_i hf
      rw [if_pos hf] at hp
      have hpl : t.plain = true := hp
      obtain ⟨hu, hd⟩ := ht hpl
      refine ⟨insert_up hu (freeSlot_free t hd h e), ?_⟩
      show (if SetTable.has t.dummies slot = true then _ else _) = _
      have hh : SetTable.has t.dummies slot = false := by rw [hd]; rfl
      rw [hh]
      simpa using hd
    · rename_i hf
      rw [if_neg hf] at hp
      exact absurd hp (by simp [SetTable.standIn])
  · intro hp
    exact absurd hp (by simp [SetTable.standIn])
theorem lay_led (t : SetTable) (es : Array (Int × Value)) (h : Int) (x : Value) : (layNew t es h x).2.1.led = t.led := by
  unfold layNew
  split
  · simp only
    unfold SetTable.orStandIn
    split <;> rfl
  · rfl
theorem live_up {β : Type} (f : Nat → Option β) : ∀ (l : List Nat), l.Pairwise (· < ·) → ((l.filterMap fun j => (f j).map (j, ·)).map (·.1)).Pairwise (· < ·) ∧ ∀ x ∈ (l.filterMap fun j => (f j).map (j, ·)).map (·.1), x ∈ l
  | [], _ => ⟨by simp, fun x h => by simp at h⟩
  | a :: r, h => by
    obtain ⟨h1, h2⟩ := List.pairwise_cons.mp h
    obtain ⟨i1, i2⟩ := live_up f r h2
    cases e : f a with
    | none =>
      simp only [List.filterMap_cons, e, Option.map_none]
      exact ⟨i1, fun x hx => List.mem_cons_of_mem _ (i2 x hx)⟩
    | some b =>
      simp only [List.filterMap_cons, e, Option.map_some, List.map_cons]
      refine ⟨List.pairwise_cons.mpr ⟨fun x hx => h1 x (i2 x hx), i1⟩, fun x hx => ?_⟩
      rcases List.mem_cons.mp hx with z | z
      · rw [z]; exact List.mem_cons_self
      · exact List.mem_cons_of_mem _ (i2 x z)
theorem up_of_list {l : List Nat} (h : l.Pairwise (· < ·)) : Up l.toArray := up_iff.mpr (by simpa using h)
theorem relay_tab (t : SetTable) (es : Array (Int × Value)) (n : Nat) (ht : TabOk t) : TabOk (relayAll t es n).2.1 := by
  unfold relayAll
  split
  · rename_i t' order e
    dsimp only
    split
    · intro hp
      simp only at hp ⊢
      unfold SetTable.relaid SetTable.laid at e
      cases ho : SetTable.layClean (SetTable.sizeAbove n - 1) (es.map (·.1)) with
      | none => rw [ho] at e; simp at e
      | some owner =>
        rw [ho] at e
        simp only [Option.bind_eq_bind, Option.bind_some, Option.pure_def, Option.some.injEq, Prod.mk.injEq] at e
        obtain ⟨e1, _⟩ := e
        subst e1
        exact ⟨up_of_list (live_up _ _ List.pairwise_lt_range).1, rfl⟩
    · intro hp
      exact absurd hp (by simp [SetTable.standIn])
  · intro hp
    exact absurd hp (by simp [SetTable.standIn])
theorem relay_led (t : SetTable) (es : Array (Int × Value)) (n : Nat) : (relayAll t es n).2.1.led = t.led := by
  unfold relayAll
  split
  · rename_i t' order e
    dsimp only
    split
    · simp only
      unfold SetTable.relaid SetTable.laid at e
      cases ho : SetTable.layClean (SetTable.sizeAbove n - 1) (es.map (·.1)) with
      | none => rw [ho] at e; simp at e
      | some owner =>
        rw [ho] at e
        simp only [Option.bind_eq_bind, Option.bind_some, Option.pure_def, Option.some.injEq, Prod.mk.injEq] at e
        obtain ⟨e1, _⟩ := e
        subst e1
        rfl
    · rfl
  · rfl
/-! the order that a text lays down is a permutation -/
theorem erase_perm {α : Type} : ∀ (l : List α) (i : Nat) (h : i < l.length), ([l[i]] ++ l.eraseIdx i).Perm l
  | a :: r, 0, _ => by simp
  | a :: r, i + 1, h => by
    simp only [List.getElem_cons_succ, List.eraseIdx_cons_succ, List.singleton_append]
    exact (List.Perm.swap a _ _).trans (List.Perm.cons a (erase_perm r i (by simpa using h)))
theorem pick_perm {α : Type} (next : Nat → Nat) : ∀ (fuel k : Nat) (left : List α) (out : Array α), fuel = left.length → (pickOrder.go next fuel k left out).toList.Perm (out.toList ++ left)
  | 0, k, left, out, h => by
    have e : left = [] := List.eq_nil_of_length_eq_zero h.symm
    subst e
    simp [pickOrder.go]
  | fuel + 1, k, left, out, h => by
    unfold pickOrder.go
    have hl : next k % left.length < left.length := Nat.mod_lt _ (by omega)
    have e : left[next k % left.length]? = some left[next k % left.length] := by simp [hl]
    rw [e]
    simp only
    refine (pick_perm next fuel (k + 1) _ _ (by rw [List.length_eraseIdx, if_pos hl]; omega)).trans ?_
    rw [Array.toList_push, List.append_assoc]
    refine List.Perm.append_left _ ?_
    exact erase_perm left _ hl
theorem pickOrder_perm {α : Type} (next : Nat → Nat) (xs : Array α) : (pickOrder next xs).toList.Perm xs.toList := by
  have := pick_perm next xs.size 0 xs.toList #[] (by simp)
  simpa [pickOrder] using this
end CpSet
set_option Elab.async false
set_option linter.all false
set_option maxRecDepth 100000
set_option maxHeartbeats 4000000
/-! A SET of numbers as an object: its members in their order; a member put in. -/
namespace CpSet
open PySem
def keyOf : Int × Value → Int
  | (_, .int k _) => k
  | _ => 0
def byT (w : World) : Bool := w.params.followText "set-order"
section
variable (prog : Program) (w : World)
def SetIs (h : Heap) (a : Addr) (ks : List Int) : Prop :=
  ∃ (es : Array (Int × Value)) (ep : Nat) (t : SetTable), h.get? a = some { cls := .type "set", data := .set es ep t } ∧ t.fits es.size = true ∧ TabOk t ∧ (byT w = false → t.led = true) ∧
    es.size < scanBound ∧ ElemsOf (intKind prog w) es.toList ∧ es.toList.map keyOf = ks ∧ ks.Nodup
end
section
variable {prog : Program} {w : World} {A : Around} {E : Value → Shared → Prop} {s : Shared} {a : Addr} {ks : List Int}
theorem SetIs.kept {h h' : Heap} (x : SetIs prog w h a ks) (k : ∀ o, h.get? a = some o → h'.get? a = some o) : SetIs prog w h' a ks :=
  let ⟨es, ep, t, e, r⟩ := x
  ⟨es, ep, t, k _ e, r⟩
theorem keyOf_is {e : Int × Value} {k : Int} (h : (intKind prog w).is k e.2 = true) : keyOf e = k := by
  obtain ⟨t, q⟩ := Value.isInt_shape (k := k) (v := e.2) h
  obtain ⟨h0, v⟩ := e
  cases q
  rfl
theorem keyOf_at {l : List (Int × Value)} (hl : ElemsOf (intKind prog w) l) : ∀ e ∈ l, (intKind prog w).is (keyOf e) e.2 = true := fun e he => by
  obtain ⟨⟨k, hk, _⟩, _⟩ := hl e he
  rw [keyOf_is hk]
  exact hk
theorem put_at {h : Heap} {es es' : Array (Int × Value)} {ep : Nat} {t t' : SetTable} (ho : h.get? a = some { cls := .type "set", data := .set es ep t }) :
    (h.update a (Obj.putSet es' t')).get? a = some { cls := .type "set", data := .set es' (ep + 1) t' } := by
  have q := Heap.get?_update_self (Obj.putSet es' t') ho (by rw [putSet_of es' t' rfl]; rfl)
  rw [putSet_of es' t' rfl] at q
  exact q
theorem add_ok {k : Int} {tok : Tok} {Q : Bool → Shared → Prop} (hS : SetIs prog w s.heap a ks) (hroom : ks.length + 1 < scanBound)
    (h : ∀ h' ks' b, Heap.SameBut a s.heap h' → SetIs prog w h' a ks' → (∀ x, x ∈ ks' ↔ x ∈ ks ∨ x = k) → ks'.length ≤ ks.length + 1 → Q b { s with heap := h' }) :
    wpAny (model prog w) A (setAddHashed a (.int k tok) (hashInt k)) Q E s := by
  obtain ⟨es, ep, t, ho, hf, ht, hled, hb, hel, rfl, hnd⟩ := hS
  have hkey : (intKind prog w).is k (.int k tok) = true := by simp [intKind, Value.isInt]
  have hlen : es.size + 1 < scanBound := by simpa using hroom
  unfold setAddHashed setAddHashedIn
  refine wpAny_holding (wpAny_bind (wpAny_setState_of ho rfl hf ?_))
  dsimp only
  rw [byScan_of (knd := intKind prog w) rfl hb hel]
  simp only [↓reduceIte]
  unfold setAddByScan
  refine wpAny_bind (wpAny_bind (wpAny_rule (wpAny_bind (wpAny_setScan_of (knd := intKind prog w) (k := k) hkey ho rfl hf hel ?_))))
  cases hr : List.findIdx? (fun e => (intKind prog w).is k e.2) es.toList with
  | some j =>
    dsimp only
    obtain ⟨hj, hpj, _⟩ := List.findIdx?_eq_some_iff_getElem.mp hr
    have hk : k ∈ es.toList.map keyOf := List.mem_map.mpr ⟨es.toList[j], List.getElem_mem hj, keyOf_is hpj⟩
    refine wpAny_pure (wpAny_pure ?_)
    exact h s.heap _ false (Heap.SameBut.refl a s.heap) ⟨es, ep, t, ho, hf, ht, hled, hb, hel, rfl, hnd⟩ (fun x => ⟨.inl, fun z => z.elim id fun e => e ▸ hk⟩) (Nat.le_succ _)
  | none =>
    dsimp only
    have hnk : k ∉ es.toList.map keyOf := fun z => by
      obtain ⟨e, he, q⟩ := List.mem_map.mp z
      have z1 := List.findIdx?_eq_none_iff.mp hr e he
      have z2 := keyOf_at hel e he
      rw [q] at z2
      rw [z2] at z1
      cases z1
    have hperm := layNew_perm t es (hashInt k) (.int k tok)
    have hfits := layNew_fits t es (hashInt k) (.int k tok)
    have htab := lay_tab t es (hashInt k) (.int k tok) ht
    have hl1 := lay_led t es (hashInt k) (.int k tok)
    show wpAny _ _ (match layNew t es (hashInt k) (.int k tok) with | (es, t, wasDummy, gave) => _) _ _ _
    generalize layNew t es (hashInt k) (.int k tok) = L at hperm hfits htab hl1 ⊢
    obtain ⟨es1, t1, wd, gave⟩ := L
    dsimp only at hperm hfits htab hl1 ⊢
    rw [Array.toList_push] at hperm
    have hel1 : ElemsOf (intKind prog w) es1.toList := (hel.push hkey rfl).perm hperm
    have hk1 : (es1.toList.map keyOf).Perm (es.toList.map keyOf ++ [k]) := by simpa [keyOf] using hperm.map keyOf
    have hsz1 : es1.size = es.size + 1 := by
      have := hk1.length_eq
      simpa using this
    have hb1 : es1.size < scanBound := by omega
    have hnd1 : (es1.toList.map keyOf).Nodup := hk1.nodup_iff.mpr (by
      rw [List.nodup_append]
      refine ⟨hnd, by simp, fun x hx y hy => ?_⟩
      rw [List.mem_singleton] at hy
      subst hy
      exact fun e => hnk (e ▸ hx))
    have hm1 : ∀ x, x ∈ es1.toList.map keyOf ↔ x ∈ es.toList.map keyOf ∨ x = k := fun x => by
      rw [hk1.mem_iff, List.mem_append, List.mem_singleton]
    have tail : ∀ (g : Bool → Sem Unit), (∀ (b : Bool) (s2 : Shared) (Q' : Unit → Shared → Prop), Q' () s2 → wpAny (model prog w) A (g b) Q' E s2) → ∀ s1 : Shared, s1 = s → wpAny (model prog w) A (do
        storeSet a es1 t1
        if (!wd && t1.tooFull) = true then do
            g (relayAll t1 es1 (SetTable.grown es1.size)).2.2
            storeSet a (relayAll t1 es1 (SetTable.grown es1.size)).1 (relayAll t1 es1 (SetTable.grown es1.size)).2.1
            pure (some true)
          else pure (some true)) (fun r s' => ∃ h' ks', r = some true ∧ s' = { s with heap := h' } ∧ Heap.SameBut a s.heap h' ∧ SetIs prog w h' a ks' ∧ (∀ x, x ∈ ks' ↔ x ∈ es.toList.map keyOf ∨ x = k) ∧ ks'.length ≤ (es.toList.map keyOf).length + 1) E s1 := by
      rintro g hg s1 rfl
      refine wpAny_bind (wpAny_storeSet_of ho rfl ?_ (fits_of_scanBound hb1))
      have ho1 := put_at (es' := es1) (t' := t1) ho
      have sb1 := Heap.SameBut.update s1.heap a (Obj.putSet es1 t1)
      split
      · have hp2 := relayAll_perm t1 es1 (SetTable.grown es1.size)
        have hf2 := relayAll_fits t1 es1 (SetTable.grown es1.size)
        have ht2 := relay_tab t1 es1 (SetTable.grown es1.size) htab
        have hl2 := relay_led t1 es1 (SetTable.grown es1.size)
        generalize relayAll t1 es1 (SetTable.grown es1.size) = L at hp2 hf2 ht2 hl2 ⊢
        obtain ⟨es2, t2, gave2⟩ := L
        dsimp only at hp2 hf2 ht2 hl2 ⊢
        have hk2 := hp2.map keyOf
        have hsz2 : es2.size = es1.size := by
          have := hp2.length_eq
          simpa using this
        have body : wpAny (model prog w) A (storeSet a es2 t2 >>= fun _ => pure (some true)) (fun r s' => ∃ h' ks', r = some true ∧ s' = { s1 with heap := h' } ∧ Heap.SameBut a s1.heap h' ∧ SetIs prog w h' a ks' ∧ (∀ x, x ∈ ks' ↔ x ∈ es.toList.map keyOf ∨ x = k) ∧ ks'.length ≤ (es.toList.map keyOf).length + 1) E
            { s1 with heap := s1.heap.update a (Obj.putSet es1 t1) } := by
          refine wpAny_bind (wpAny_storeSet_of ho1 rfl ?_ (fits_of_scanBound (by omega)))
          refine wpAny_pure ⟨_, es2.toList.map keyOf, rfl, rfl, sb1.trans (Heap.SameBut.update _ a _), ⟨es2, ep + 1 + 1, t2, put_at ho1, hf2, ht2, fun z => by rw [hl2, hl1]; exact hled z, by omega, hel1.perm hp2, rfl, hk2.nodup_iff.mpr hnd1⟩, fun x => (hk2.mem_iff).trans (hm1 x), ?_⟩
          simp only [List.length_map, Array.length_toList]
          omega
        exact wpAny_bind (hg _ _ _ body)
      · refine wpAny_pure ⟨_, es1.toList.map keyOf, rfl, rfl, sb1, ⟨es1, ep + 1, t1, ho1, hfits, htab, fun z => by rw [hl1]; exact hled z, hb1, hel1, rfl, hnd1⟩, hm1, ?_⟩
        simp only [List.length_map, Array.length_toList]
        omega
    have hm : ∀ (b : Bool) (s2 : Shared) (Q' : Unit → Shared → Prop), Q' () s2 → wpAny (model prog w) A (match b with | true => rule "set.scan.the-table-gave-way" | false => pure ()) Q' E s2 := fun b s2 Q' q => by
      cases b
      · exact wpAny_pure q
      · exact wpAny_rule q
    have out : ∀ (r : Option Bool) (s' : Shared), (∃ h' ks', r = some true ∧ s' = { s with heap := h' } ∧ Heap.SameBut a s.heap h' ∧ SetIs prog w h' a ks' ∧ (∀ x, x ∈ ks' ↔ x ∈ es.toList.map keyOf ∨ x = k) ∧ ks'.length ≤ (es.toList.map keyOf).length + 1) →
        wpAny (model prog w) A (match r with | some added => pure added | none => setAddHashedIn a (.int k tok) (hashInt k) 99999) Q E s' := by
      rintro r s' ⟨h', ks', rfl, rfl, q1, q2, q3, q4⟩
      exact wpAny_pure (h h' ks' true q1 q2 q3 q4)
    refine wpAny_bind (hm _ _ _ ?_)
    split
    · rw [show hashByValue 8 (Value.int k tok) = pure true from rfl]
      refine wpAny_bind (wpAny_pure ?_)
      simp only [if_true]
      exact wpAny_mono (tail _ hm s rfl) out fun _ _ q => q
    · refine wpAny_bind (wpAny_pure ?_)
      simp only [if_true]
      exact wpAny_mono (tail _ hm s rfl) out fun _ _ q => q
end
end CpSet
set_option Elab.async false
set_option linter.all false
set_option maxRecDepth 100000
set_option maxHeartbeats 8000000
/-! set(xs) of a list of numbers. -/
namespace CpSet
open PySem PySem.Spec
/-- a fresh set object of this world -/
abbrev emptySet (w : World) : Obj := { cls := .type "set", dict := none, data := .set #[] 0 (.fresh 0 0 (!byT w)) }
section
variable {prog : Program} {w : World} {A : Around} {E : Value → Shared → Prop} {R : Result → Shared → Prop} {s : Shared}
theorem SetIs.empty {h : Heap} {a : Addr} (e : h.get? a = some (emptySet w)) : SetIs prog w h a [] :=
  ⟨#[], 0, _, e, rfl, fun _ => ⟨fun i k _ hk => absurd hk (by simp [SetTable.fresh]), rfl⟩, fun z => by show (!byT w) = true; rw [z]; rfl, by decide, fun x hx => absurd hx (by simp), rfl, List.nodup_nil⟩
theorem getD_in {ns : List Int} {j : Nat} (h : j < ns.length) : ns.getD j 0 = ns[j] := by
  simp [List.getD, List.getElem?_eq_getElem h]
theorem add_all {I S : Addr} {fp wr : List Addr} {G : Array GenState → Array GenState → Prop} {n : Nat} {P : Nat → Value → Prop} {St : Nat → Shared → Prop} (W : WalksS prog w A.in1 I fp wr G n P St) (hSf : S ∉ fp)
    (val : Nat → Int) (hval : ∀ i v, P i v → ∃ t, v = .int (val i) t) (hb : n + 1 < scanBound) :
    ∀ (k i : Nat) (s : Shared) (ks : List Int), n - i = k → i ≤ n → St i s → SetIs prog w s.heap S ks → ks.length ≤ i → (∀ x, x ∈ ks ↔ ∃ j, j < i ∧ val j = x) →
      (∀ s' ks', Moved (S :: wr) G s s' → SetIs prog w s'.heap S ks' → (∀ x, x ∈ ks' ↔ ∃ j, j < n ∧ val j = x) → R (.ok (.ret .none)) s') →
      codeAny (model prog w) A (.builtin "set.update.loop" ⟨[.ref S, .ref I], []⟩) R s := by
  have hSw : S ∉ wr := fun z => hSf (W.sub _ z)
  have up : ∀ b ∈ wr, b ∈ S :: wr := fun b z => List.mem_cons_of_mem _ z
  intro k
  induction k with
  | zero =>
    intro i s ks hk hi hst hS hl hm hR
    obtain rfl : i = n := by omega
    refine codeAny_builtin PyProof.Rows.F.entry_set_update_loop ?_
    rw [Around.under_plainId PyProof.Rows.F.plain_set_update_loop _]
    show wpAny _ A.in1 (pyNext (.ref I) >>= _) _ _ s
    refine wpAny_bind (W.done s _ _ hst fun s' mv => ?_)
    exact wpAny_pure (hR s' ks (mv.mono up) (hS.kept fun o e => mv.heap S o hSw e) hm)
  | succ k ih =>
    intro i s ks hk hi hst hS hl hm hR
    have lt : i < n := by omega
    refine codeAny_builtin PyProof.Rows.F.entry_set_update_loop ?_
    rw [Around.under_plainId PyProof.Rows.F.plain_set_update_loop _]
    show wpAny _ A.in1 (pyNext (.ref I) >>= _) _ _ s
    refine wpAny_bind (W.item i s _ _ lt hst fun v s' hP hst' mv => ?_)
    obtain ⟨t, rfl⟩ := hval i v hP
    have hS' := hS.kept (h' := s'.heap) fun o e => mv.heap S o hSw e
    show wpAny _ A.in1 (holding [Value.int (val i) t] (setAdd S (.int (val i) t)) >>= _) _ _ s'
    refine wpAny_bind (wpAny_holding ?_)
    unfold setAdd
    refine wpAny_holding (wpAny_bind (wpAny_pyHash_int ?_))
    refine add_ok (s := { s' with toks := s'.toks + 1 }) hS' (by omega) fun h' ks' b sb hS2 mem hl' => ?_
    refine wpAny_pure ⟨plainId_quiet PyProof.Rows.F.plain_set_update_loop _, ih (i + 1) _ ks' (by omega) lt (W.frame _ s' _ _ hst' (Nat.le_succ _) fun b hb o e => ?_) hS2 (by omega) (fun x => ?_) fun s'' ks'' mv2 hS3 hm3 => ?_⟩
    · rw [sb.2 b fun z => hSf (z ▸ hb)]
      exact e
    · rw [mem x, hm x]
      constructor
      · rintro (⟨j, hj, e⟩ | e)
        · exact ⟨j, by omega, e⟩
        · exact ⟨i, by omega, e.symm⟩
      · rintro ⟨j, hj, e⟩
        by_cases z : j = i
        · subst z
          exact .inr e.symm
        · exact .inl ⟨j, by omega, e⟩
    · refine hR s'' ks'' (Moved.trans W.gtrans ((mv.mono up).then_heap (Nat.le_succ _) fun b o hb e => ?_) mv2) hS3 hm3
      rw [sb.2 b fun z => hb (z ▸ List.mem_cons_self)]
      exact e
theorem new_set (v : Value) {Q : Value → Shared → Prop} (h : Q (.ref s.heap.objs.size) { s with heap := s.heap.push (emptySet w) }) :
    codeAny (model prog w) A (.call (.builtin "set.__new__") ⟨[.type "set", v], []⟩) (wants Q E) s := by
  refine codeAny_of_tree ?_
  show wpAny _ A.in1 (do checkBuiltinCall "set.__new__" ⟨[.type "set", v], []⟩; again (.builtin "set.__new__" ⟨[.type "set", v], []⟩)) _ _ s
  refine wpAny_bind (wpAny_of_eq (PySem.F.newCall_set_1 v) (wpAny_pure ⟨plainId_quiet PySem.F.plain_set_new _, codeAny_builtin PySem.F.entry_set_new ?_⟩))
  rw [Around.under_plainId PySem.F.plain_set_new _]
  unfold Builtin.«set.__new__» Builtin.Frozenset.newClass
  have sub := sub_set_self
  obtain ⟨hp, g, d, tk, os⟩ := s
  dsimp only
  wp_walk
  refine wpAny_askSetting (wpAny_pure ?_)
  dsimp only
  simp only [newObj]
  refine wpAny_bind (wpAny_alloc (wpAny_pure ?_))
  exact wpAny_pure h
theorem set_of_list {l : Addr} {items : Array Value} {ns : List Int} {Q : Value → Shared → Prop} (hh : A.handled = none) (hl : s.heap.IsList l items) (hi : PyProof.Rows.IntsAre items.toList ns) (hb : items.size + 1 < scanBound)
    (h : ∀ (h' : Heap) (tk : Nat) (ks : List Int), SetIs prog w h' s.heap.objs.size ks → (∀ x, x ∈ ks ↔ x ∈ ns) → (∀ b o, s.heap.get? b = some o → h'.get? b = some o) → Q (.ref s.heap.objs.size) { s with heap := h', toks := tk }) :
    wpAny (model prog w) A (call (.type "set") [.ref l]) Q E s := by
  obtain ⟨c, tl, m1⟩ := PySem.F.called_set.mro
  have m2 := PySem.F.called_set.made
  have m3 := PySem.F.called_set.sub
  refine wpAny_call (codeAny_of_tree ?_)
  show wpAny _ _ (callAny (.type "set") _) _ _ _
  refine wpAny_pure ⟨Code.quiet_builtin _ (by decide +kernel), codeAny_builtin PySem.F.entry_type_call ?_⟩
  rw [Around.under_plain (weight_type_call_type "set" [.ref l] []) rfl]
  have m4 := PySem.F.called_set.notType
  have m5 := PySem.F.called_set.canCreate
  have m6 := PySem.F.typeCall_set_1 (.ref l)
  repeat (any_goals (first | assumption | wp_step))
  refine codeAny_mono (new_set (.ref l) (E := E) (Q := fun obj s1 => obj = .ref s.heap.objs.size ∧ s1 = { s with heap := s.heap.push (emptySet w) }) ⟨rfl, rfl⟩) fun r s1 hr => ?_
  cases r with
  | error e => exact hr
  | ok fl =>
    cases fl with
    | ret obj =>
      obtain ⟨rfl, rfl⟩ := hr
      have oS : (s.heap.push (emptySet w)).get? s.heap.objs.size = some (emptySet w) := Heap.get?_push_size _ rfl
      have tS : Shared.TypeIs { s with heap := s.heap.push (emptySet w) } (.ref s.heap.objs.size) "set" := ⟨_, oS, rfl⟩
      have n1 := PySem.F.called_set.init.lookup
      have n2 := PySem.F.called_set.init.bind (.ref s.heap.objs.size)
      repeat (any_goals (first | assumption | wp_step))
      refine codeAny_mono (codeAny_call_builtin (R := wants (fun r s2 => r = .none ∧ ∃ h' tk ks, s2 = { s with heap := h', toks := tk } ∧ SetIs prog w h' s.heap.objs.size ks ∧ (∀ x, x ∈ ks ↔ x ∈ ns) ∧ ∀ b o, s.heap.get? b = some o → h'.get? b = some o) E)
        PySem.F.called_set.init.plain PySem.F.entry_set_init (check_set_init_1 tS ?_)) fun r2 s2 hr2 => ?_
      · obtain ⟨ol, ho, hc, nl, hd⟩ := hl
        obtain ⟨oc, od, odt, osl⟩ := ol
        simp only at hc hd
        subst hc hd
        have ho' : (s.heap.push (emptySet w)).get? l = some { cls := .type "list", dict := od, data := .seq items nl, slots := osl } := Heap.get?_push_of_some _ ho
        have q1 := PySem.F.sub_list_set
        have q2 := PySem.F.sub_list_frozenset
        have q3 : (Value.type "list" == Value.type "dict") = false := by decide
        have hl1 : (s.heap.push (emptySet w)).IsList l items := ⟨_, ho', rfl, nl, rfl⟩
        unfold Builtin.«set.__init__» noKeywords Builtin.Frozenset.updateFrom
        generalize hPI : pyIter = PI
        wp_walk
        subst hPI
        refine wpAny_pyIter_list hl1 ?_
        refine wpAny_bind (wpAny_runValue ?_)
        have hlt : l < s.heap.objs.size := Heap.lt_size ho
        have hh3 : A.in1.in1.in1.handled = none := by simp [hh]
        have ne1 : l ≠ (s.heap.push (emptySet w)).objs.size := by
          rw [Heap.size_push]
          exact Nat.ne_of_lt (Nat.lt_succ_of_lt hlt)
        have nf : s.heap.objs.size ∉ [(s.heap.push (emptySet w)).objs.size, l] := by
          rw [Heap.size_push]
          simp only [List.mem_cons, List.not_mem_nil, or_false, not_or]
          exact ⟨Nat.ne_of_lt (Nat.lt_succ_self _), Nat.ne_of_gt hlt⟩
        have hval : ∀ (i : Nat) (v : Value), items[i]? = some v → ∃ t, v = .int ((fun i => ns.getD i 0) i) t := fun i v hv => PyProof.Rows.IntsAre.int_at hi i v (by rw [Array.getElem?_toList]; exact hv)
        have hln : ns.length = items.size := by
          have := hi.length
          simpa using this.symm
        refine add_all ((Walks.list hh3 _ l ne1 items).toS) nf (fun i => ns.getD i 0) hval hb (items.size - 0) 0 _ [] (by omega) (Nat.zero_le _) ⟨⟨_, Heap.get?_push_size _ rfl, rfl, rfl⟩, hl1.push _⟩ (.empty (Heap.get?_push_of_some _ oS)) (Nat.le_refl _)
          (fun x => ⟨fun z => absurd z (by simp), fun ⟨j, z, _⟩ => absurd z (by omega)⟩) ?_
        intro s' ks mv hS' hm
        obtain ⟨h', g', d', tk', os'⟩ := s'
        obtain rfl : g' = s.gens := mv.gens
        obtain rfl : d' = s.drawn := mv.drawn
        obtain rfl : os' = s.os := mv.os
        refine wpAny_pure ?_
        show wpAny _ _ (ret Value.none) _ _ _
        refine wpAny_pure ⟨rfl, h', tk', ks, rfl, hS', fun x => ?_, fun b o e => ?_⟩
        · rw [hm x]
          constructor
          · rintro ⟨j, hj, e⟩
            rw [← e]
            show ns.getD j 0 ∈ ns
            rw [getD_in (by omega)]
            exact List.getElem_mem _
          · intro z
            obtain ⟨j, hj, e⟩ := List.mem_iff_getElem.mp z
            exact ⟨j, by omega, (getD_in hj).trans e⟩
        · have lb := Heap.lt_size e
          refine mv.heap b o ?_ (Heap.get?_push_of_some _ (Heap.get?_push_of_some _ e))
          simp only [List.mem_cons, List.not_mem_nil, or_false, not_or, Heap.size_push]
          exact ⟨Nat.ne_of_lt lb, Nat.ne_of_lt (Nat.lt_succ_of_lt lb)⟩
      · cases r2 with
        | error e => exact hr2
        | ok fl2 =>
          cases fl2 with
          | ret r =>
            obtain ⟨rfl, h', tk, ks, rfl, a1, a2, a3⟩ := hr2
            repeat (any_goals (first | assumption | wp_step))
            exact h _ _ _ a1 a2 a3
          | _ => exact hr2.elim
    | _ => exact hr.elim
end
end CpSet
set_option Elab.async false
set_option linter.all false
set_option maxRecDepth 100000
set_option maxHeartbeats 8000000
/-! A SET walked: each member once, in whatever order; sorted of it. -/
namespace CpSet
open PySem PySem.Spec
theorem sl_next : Slot "set_iterator" "__next__" "set_iterator.__next__" :=
  .of (owner := "set_iterator") (n := "__next__") (by rw [typeLookup_type, builtinLookup_eq_fast]; kernel_rfl) (by decide +kernel) (by decide +kernel) (by decide +kernel) (by first | exact .inl (by decide +kernel) | exact .inr (by decide +kernel))
    (by rw [isSubtype_type]; kernel_rfl)
theorem en_next : entryFor table "set_iterator.__next__" = some Builtin.«set_iterator.__next__» := entryFor_of_tree (by kernel_rfl)
theorem ar_next (a : Value) : argsOk "set_iterator.__next__" ⟨[a], []⟩ := by unfold argsOk; kernel_rfl
theorem sub_set : isSubtype (.type "set") (.type "set") = pure true := by rw [isSubtype_type]; kernel_rfl
theorem en_iter : entryFor table "set.__iter__" = some Builtin.«frozenset.__iter__» := entryFor_alias (id' := "frozenset.__iter__") (by kernel_rfl) rfl (by decide +kernel) (by kernel_rfl)
section
variable {M : Model} {A : Around} {E : Value → Shared → Prop} {s : Shared}
theorem choose_any {src : Source} {n : Nat} {Q : Nat → Shared → Prop} (hn : n ≠ 0) (h : ∀ i d, i < n → Q i { s with drawn := d }) : wpAny M A (choose src n) Q E s :=
  fun _ _ _ => ⟨hn, h _ _ (Nat.mod_lt _ (Nat.pos_of_ne_zero hn))⟩
theorem draw_any {α : Type} (n : Nat) : ∀ (xs : List α) (s : Shared) (Q : List α → Shared → Prop), xs.length = n → (∀ ys d, ys.Perm xs → Q ys { s with drawn := d }) → wpAny M A (drawOrder n xs) Q E s := by
  induction n with
  | zero =>
    intro xs s Q hl h
    have e : xs = [] := List.eq_nil_of_length_eq_zero hl
    subst e
    unfold drawOrder
    exact wpAny_pure (h [] s.drawn (List.Perm.refl _))
  | succ n ih =>
    intro xs s Q hl h
    cases xs with
    | nil => exact absurd hl (by simp)
    | cons x r =>
      unfold drawOrder
      refine wpAny_bind (choose_any (by simp) fun i d hi => ?_)
      have e : (x :: r)[i]? = some (x :: r)[i] := by simp [hi]
      rw [e]
      dsimp only
      refine wpAny_bind (ih _ _ _ (by rw [List.length_eraseIdx, if_pos hi]; omega) fun ys d' p => wpAny_pure (h _ _ ?_))
      exact (List.Perm.cons _ p).trans (erase_perm _ i hi)
end
/-- how a walk goes: by the text's order, by the places, by drawn places -/
inductive Mode where
  | text
  | place
  | drawn (pl : Addr) (ps : List Nat)
section
variable {prog : Program} {w : World} {A : Around} {E : Value → Shared → Prop} {s : Shared} {a I : Addr} {es : Array (Int × Value)} {ep : Nat} {t : SetTable}
abbrev itRec (first : Value) (i n ep : Nat) (a : Addr) : Obj := { cls := .type "set_iterator", dict := none, data := .fields #[first, rawInt (i : Int), .ref a, rawInt (n : Int), rawInt (ep : Int)], slots := #[] }
def ItOk (w : World) (a I : Addr) (es : Array (Int × Value)) (ep : Nat) (t : SetTable) : Mode → Nat → Heap → Prop
  | .text, i, h => byT w = true ∧ ∃ z : Int, h.get? I = some (itRec (rawInt z) i es.size ep a)
  | .place, i, h => byT w = false ∧ (!t.plain && decide (es.size > 1)) = false ∧ t.led = true ∧ Up t.place ∧ t.place.size = es.size ∧ ∃ z : Nat, SetTable.below t.place z = i ∧ h.get? I = some (itRec (rawInt z) i es.size ep a)
  | .drawn pl ps, i, h => pl ≠ I ∧ (∀ p ∈ ps, p < es.size) ∧ (∃ n, h.get? pl = some { cls := .type "tuple", data := .seq (ps.map fun (i : Nat) => rawInt i).toArray n }) ∧ h.get? I = some (itRec (.ref pl) i es.size ep a)
def ordOf (w : World) (a : Addr) (es : Array (Int × Value)) (ep : Nat) : Mode → List (Int × Value)
  | .text => (pickOrder (w.params.setOrder a ep) es).toList
  | .place => es.toList
  | .drawn _ ps => ps.filterMap (es[·]?)
theorem ord_map {ps : List Nat} (h : ∀ p ∈ ps, p < es.size) : ∀ i : Nat, (ps.filterMap (es[·]?))[i]? = (ps[i]?).bind fun p => es[p]? := by
  induction ps with
  | nil => intro i; simp
  | cons p r ih =>
    intro i
    have e : es[p]? = some (es[p]'(h p List.mem_cons_self)) := by simp
    rw [List.filterMap_cons, e]
    cases i with
    | zero => simp [e]
    | succ j => simpa using ih (fun q hq => h q (List.mem_cons_of_mem _ hq)) j
theorem ord_at {ps : List Nat} {i : Nat} {e : Int × Value} (h : ∀ p ∈ ps, p < es.size) (hx : (ps.filterMap (es[·]?))[i]? = some e) : ∃ p, ps[i]? = some p ∧ es[p]? = some e := by
  rw [ord_map h] at hx
  cases q : ps[i]? with
  | none => rw [q] at hx; cases hx
  | some p => rw [q] at hx; exact ⟨p, rfl, hx⟩
theorem ord_none {ps : List Nat} {i : Nat} (h : ∀ p ∈ ps, p < es.size) (hx : (ps.filterMap (es[·]?))[i]? = none) : ps[i]? = none := by
  rw [ord_map h] at hx
  cases q : ps[i]? with
  | none => rfl
  | some p =>
    rw [q] at hx
    have hx' : es[p]? = none := hx
    have := h p (List.mem_of_getElem? q)
    rw [Array.getElem?_eq_getElem this] at hx'
    cases hx'
theorem ints_of : ∀ {l : List (Int × Value)}, ElemsOf (intKind prog w) l → PyProof.Rows.IntsAre (l.map (·.2)) (l.map keyOf)
  | [], _ => .nil
  | (h0, v) :: r, hl => by
    obtain ⟨⟨k, hk, _⟩, _⟩ := hl.head
    obtain ⟨t, q⟩ := Value.isInt_shape (k := k) (v := v) hk
    subst q
    exact .cons k t (ints_of hl.tail)
theorem state_ok {Q : (Array (Int × Value) × Nat × SetTable) → Shared → Prop} (ho : s.heap.get? a = some { cls := .type "set", data := .set es ep t }) (hf : t.fits es.size = true) (h : Q (es, ep, t) s) : wpAny (model prog w) A (setState a) Q E s :=
  wpAny_setState_of ho rfl hf h
theorem byText_ok {Q : Bool → Shared → Prop} (h : Q (byT w) s) : wpAny (model prog w) A setsByText Q E s := by
  unfold setsByText
  exact wpAny_bind (wpAny_askSetting (wpAny_pure h))
/-- one step at the table -/
theorem nx_text {slot i : Nat} {Q : Option (Value × Nat) → Shared → Prop} (ho : s.heap.get? a = some { cls := .type "set", data := .set es ep t }) (hf : t.fits es.size = true) (hb : byT w = true)
    (h : Q (((ordOf w a es ep .text)[i]?).map fun e => (e.2, slot)) s) : wpAny (model prog w) A (setNext a slot i ep) Q E s := by
  unfold setNext
  refine wpAny_bind (state_ok ho hf ?_)
  dsimp only
  refine wpAny_bind (byText_ok ?_)
  rw [hb, if_pos rfl]
  rw [if_neg (by simp)]
  refine wpAny_bind ?_
  unfold setWalk
  refine wpAny_bind (state_ok ho hf ?_)
  dsimp only
  refine wpAny_bind (byText_ok ?_)
  rw [hb, if_pos rfl]
  refine wpAny_bind (wpAny_askSetting (wpAny_pure (wpAny_pure ?_)))
  have e : (ordOf w a es ep .text)[i]? = (pickOrder (w.params.setOrder a ep) es)[i]? := by
    unfold ordOf
    rw [Array.getElem?_toList]
  rw [e] at h
  exact h
theorem nx_place {slot i : Nat} {Q : Option (Value × Nat) → Shared → Prop} (ho : s.heap.get? a = some { cls := .type "set", data := .set es ep t }) (hf : t.fits es.size = true) (hb : byT w = false)
    (hd : (!t.plain && decide (es.size > 1)) = false) (hl : t.led = true) (h : Q (match es[SetTable.below t.place slot]?, t.place[SetTable.below t.place slot]? with | some (_, x), some j => some (x, j + 1) | _, _ => none) s) : wpAny (model prog w) A (setNext a slot i ep) Q E s := by
  unfold setNext
  refine wpAny_bind (state_ok ho hf ?_)
  dsimp only
  refine wpAny_bind (byText_ok ?_)
  rw [hb, if_neg Bool.false_ne_true]
  show wpAny _ _ (if (!t.plain && decide (es.size > 1)) = true then _ else _) _ _ _
  rw [if_neg (by rw [hd]; exact Bool.false_ne_true)]
  refine wpAny_bind ?_
  show wpAny _ _ (if (!t.led && !es.isEmpty) = true then _ else _) _ _ _
  rw [if_neg (by rw [hl]; simp)]
  refine wpAny_pure ?_
  exact wpAny_pure h
theorem typ_it {h : Heap} {m : Mode} {i : Nat} {s : Shared} (e : s.heap = h) (x : ItOk w a I es ep t m i h) : s.TypeIs (.ref I) "set_iterator" := by
  subst e
  cases m with
  | text => obtain ⟨_, z, q⟩ := x; exact ⟨_, q, rfl⟩
  | place => obtain ⟨_, _, _, _, _, z, _, q⟩ := x; exact ⟨_, q, rfl⟩
  | drawn pl ps => obtain ⟨_, _, _, q⟩ := x; exact ⟨_, q, rfl⟩
theorem set_ne_it {m : Mode} {i : Nat} (ho : s.heap.get? a = some { cls := .type "set", data := .set es ep t }) (x : ItOk w a I es ep t m i s.heap) : a ≠ I := by
  intro z
  subst z
  cases m with
  | text => obtain ⟨_, z, q⟩ := x; rw [ho] at q; exact nomatch (congrArg Obj.data (Option.some.inj q))
  | place => obtain ⟨_, _, _, _, _, z, _, q⟩ := x; rw [ho] at q; exact nomatch (congrArg Obj.data (Option.some.inj q))
  | drawn pl ps => obtain ⟨_, _, _, q⟩ := x; rw [ho] at q; exact nomatch (congrArg Obj.data (Option.some.inj q))
/-- the builtin, its frame of words taken off: what is left is `rest` -/
theorem it_item {m : Mode} {i : Nat} {e : Int × Value} {Q : Option Value → Shared → Prop} (ho : s.heap.get? a = some { cls := .type "set", data := .set es ep t }) (hf : t.fits es.size = true) (x : ItOk w a I es ep t m i s.heap)
    (hx : (ordOf w a es ep m)[i]? = some e) (h : ∀ h', ItOk w a I es ep t m (i + 1) h' → Heap.SameBut I s.heap h' → Q (some e.2) { s with heap := h' }) : wpAny (model prog w) A (pyNext (.ref I)) Q E s := by
  have hT := typ_it rfl x
  unfold pyNext
  refine wpAny_bind (wpAny_attempt (wpAny_callSpecial?_slot (name := Str.ofString "__next__") hT sl_next (wpAny_call_entry sl_next hT en_next ?_ (ar_next _))))
  unfold Builtin.«set_iterator.__next__»
  refine wpAny_bind (wpAny_pure ?_)
  cases m with
  | text =>
    obtain ⟨hb, z, q⟩ := x
    refine wpAny_bind (wpAny_fieldsOf q rfl ?_)
    dsimp only
    show wpAny _ _ (setEntries a >>= _) _ _ _
    refine wpAny_bind (wpAny_setEntries_of ho rfl hf ?_)
    rw [if_neg (by simp [rawInt])]
    show wpAny _ _ (setNext a z.toNat (i : Int).toNat (ep : Int).toNat >>= _) _ _ _
    rw [Int.toNat_natCast, Int.toNat_natCast]
    refine wpAny_bind (nx_text ho hf hb ?_)
    rw [hx]
    dsimp only [Option.map]
    refine wpAny_bind (wpAny_setField_rec q (by simp) fun h1 q1 sb1 => ?_)
    refine wpAny_bind (wpAny_setField_rec q1 (by simp) fun h2 q2 sb2 => ?_)
    refine wpAny_pure ⟨_, rfl, wpAny_pure (h h2 ⟨hb, z.toNat, ?_⟩ (sb1.trans sb2))⟩
    rw [q2]
    simp [rawInt]
  | place =>
    obtain ⟨hb, hd, hl, hu, hsz, z, hz, q⟩ := x
    refine wpAny_bind (wpAny_fieldsOf q rfl ?_)
    dsimp only
    show wpAny _ _ (setEntries a >>= _) _ _ _
    refine wpAny_bind (wpAny_setEntries_of ho rfl hf ?_)
    rw [if_neg (by simp [rawInt])]
    show wpAny _ _ (setNext a (z : Int).toNat (i : Int).toNat (ep : Int).toNat >>= _) _ _ _
    rw [Int.toNat_natCast, Int.toNat_natCast, Int.toNat_natCast]
    refine wpAny_bind (nx_place ho hf hb hd hl ?_)
    have hxe : es[i]? = some e := by
      have : es.toList[i]? = some e := hx
      rw [← Array.getElem?_toList]
      exact this
    have hi : i < es.size := by
      rcases Nat.lt_or_ge i es.size with g | g
      · exact g
      · rw [Array.getElem?_eq_none g] at hxe
        cases hxe
    have hp : t.place[i]? = some (t.place[i]'(by omega)) := by simp
    rw [hz, hxe, hp]
    dsimp only
    refine wpAny_bind (wpAny_setField_rec q (by simp) fun h1 q1 sb1 => ?_)
    refine wpAny_bind (wpAny_setField_rec q1 (by simp) fun h2 q2 sb2 => ?_)
    refine wpAny_pure ⟨_, rfl, wpAny_pure (h h2 ⟨hb, hd, hl, hu, hsz, t.place[i]'(by omega) + 1, below_next t.place hu i (by omega), ?_⟩ (sb1.trans sb2))⟩
    rw [q2]
    simp [rawInt]
  | drawn pl ps =>
    obtain ⟨hne, hall, ⟨np, hpl⟩, q⟩ := x
    refine wpAny_bind (wpAny_fieldsOf q rfl ?_)
    dsimp only
    show wpAny _ _ (setEntries a >>= _) _ _ _
    refine wpAny_bind (wpAny_setEntries_of ho rfl hf ?_)
    rw [if_neg (by simp [rawInt])]
    show wpAny _ _ (seqItems? (.ref pl) >>= _) _ _ _
    unfold seqItems?
    refine wpAny_bind (wpAny_bind (wpAny_load hpl (wpAny_pure ?_)))
    dsimp only
    rw [Int.toNat_natCast]
    obtain ⟨p, hp, hpe⟩ := ord_at hall hx
    have e1 : ((ps.map fun (i : Nat) => rawInt i).toArray)[i]? = some (rawInt (p : Int)) := by
      rw [List.getElem?_toArray, List.getElem?_map, hp]
      rfl
    rw [e1]
    show wpAny _ _ (setNextDrawn a (p : Int).toNat (ep : Int).toNat >>= _) _ _ _
    rw [Int.toNat_natCast, Int.toNat_natCast]
    unfold setNextDrawn
    refine wpAny_bind (wpAny_bind (state_ok ho hf ?_))
    dsimp only
    rw [if_neg (by simp), hpe]
    refine wpAny_pure ?_
    refine wpAny_bind (wpAny_setField_rec q (by simp) fun h1 q1 sb1 => ?_)
    refine wpAny_pure ⟨_, rfl, wpAny_pure (h h1 ⟨hne, hall, ⟨np, (sb1.2 pl hne).trans hpl⟩, ?_⟩ sb1)⟩
    rw [q1]
    simp [rawInt]
theorem stop_next {P : Fin → Shared → Prop} {Q : Option Value → Shared → Prop} (hh : A.handled = none) (h : ∀ h', (∀ b o, s.heap.get? b = some o → h'.get? b = some o) → Q none { s with heap := h' }) :
    wpAny (model prog w) A.in1 (newExc (.type "StopIteration") [] >>= fun e => raiseNew e) P (fun e s' => wpAny (model prog w) A (isInstance e (.type "StopIteration") >>= fun b => if b = true then pure none else throw e) Q E s') s := by
  refine wpAny_bind ?_
  simp only [newExc, newTuple]
  refine wpAny_bind (wpAny_newObj_type ?_ (by size_fits))
  refine wpAny_bind (m := firstArgMember _ _) (wpAny_of_eq (a := Value.none) (by first | rfl | (simp only [firstArgMember]; rfl)) (wpAny_newObj_type ?_ (by size_fits)))
  simp only [raiseNew]
  refine wpAny_bind (wpAny_handled ?_)
  rw [show A.in1.handled = none from hh]
  refine wpAny_bind (wpAny_pure (wpAny_throw ?_))
  refine wpAny_bind (wpAny_isInstance (T := "StopIteration") (b := true) ⟨_, Heap.get?_push_size _ rfl, rfl⟩ isSubtype_stop ?_)
  exact wpAny_pure (h _ fun b o e => Heap.get?_push_of_some _ (Heap.get?_push_of_some _ e))
theorem it_end {m : Mode} {i : Nat} {Q : Option Value → Shared → Prop} (hh : A.handled = none) (ho : s.heap.get? a = some { cls := .type "set", data := .set es ep t }) (hf : t.fits es.size = true) (x : ItOk w a I es ep t m i s.heap)
    (hx : (ordOf w a es ep m)[i]? = none) (h : ∀ h', (∀ b o, b ≠ I → s.heap.get? b = some o → h'.get? b = some o) → Q none { s with heap := h' }) : wpAny (model prog w) A (pyNext (.ref I)) Q E s := by
  have hT := typ_it rfl x
  unfold pyNext
  refine wpAny_bind (wpAny_attempt (wpAny_callSpecial?_slot (name := Str.ofString "__next__") hT sl_next (wpAny_call_entry sl_next hT en_next ?_ (ar_next _))))
  unfold Builtin.«set_iterator.__next__»
  refine wpAny_bind (wpAny_pure ?_)
  cases m with
  | text =>
    obtain ⟨hb, z, q⟩ := x
    refine wpAny_bind (wpAny_fieldsOf q rfl ?_)
    dsimp only
    show wpAny _ _ (setEntries a >>= _) _ _ _
    refine wpAny_bind (wpAny_setEntries_of ho rfl hf ?_)
    rw [if_neg (by simp [rawInt])]
    show wpAny _ _ (setNext a z.toNat (i : Int).toNat (ep : Int).toNat >>= _) _ _ _
    rw [Int.toNat_natCast, Int.toNat_natCast]
    refine wpAny_bind (nx_text ho hf hb ?_)
    rw [hx]
    dsimp only [Option.map]
    refine wpAny_bind (wpAny_setField_rec q (by simp) fun h1 q1 sb1 => ?_)
    exact stop_next hh fun h' k => h h' fun b o hb e => k b o ((sb1.2 b hb).trans e)
  | place =>
    obtain ⟨hb, hd, hl, hu, hsz, z, hz, q⟩ := x
    refine wpAny_bind (wpAny_fieldsOf q rfl ?_)
    dsimp only
    show wpAny _ _ (setEntries a >>= _) _ _ _
    refine wpAny_bind (wpAny_setEntries_of ho rfl hf ?_)
    rw [if_neg (by simp [rawInt])]
    show wpAny _ _ (setNext a (z : Int).toNat (i : Int).toNat (ep : Int).toNat >>= _) _ _ _
    rw [Int.toNat_natCast, Int.toNat_natCast, Int.toNat_natCast]
    refine wpAny_bind (nx_place ho hf hb hd hl ?_)
    have hxe : es[i]? = none := by
      have : es.toList[i]? = none := hx
      rw [← Array.getElem?_toList]
      exact this
    rw [hz, hxe]
    dsimp only
    refine wpAny_bind (wpAny_setField_rec q (by simp) fun h1 q1 sb1 => ?_)
    exact stop_next hh fun h' k => h h' fun b o hb e => k b o ((sb1.2 b hb).trans e)
  | drawn pl ps =>
    obtain ⟨hne, hall, ⟨np, hpl⟩, q⟩ := x
    refine wpAny_bind (wpAny_fieldsOf q rfl ?_)
    dsimp only
    show wpAny _ _ (setEntries a >>= _) _ _ _
    refine wpAny_bind (wpAny_setEntries_of ho rfl hf ?_)
    rw [if_neg (by simp [rawInt])]
    show wpAny _ _ (seqItems? (.ref pl) >>= _) _ _ _
    unfold seqItems?
    refine wpAny_bind (wpAny_bind (wpAny_load hpl (wpAny_pure ?_)))
    dsimp only
    rw [Int.toNat_natCast]
    have e1 : ((ps.map fun (i : Nat) => rawInt i).toArray)[i]? = none := by
      rw [List.getElem?_toArray, List.getElem?_map, ord_none hall hx]
      rfl
    rw [e1]
    refine wpAny_bind (wpAny_setField_rec q (by simp) fun h1 q1 sb1 => ?_)
    refine wpAny_bind (wpAny_setField_rec q1 (by simp) fun h2 q2 sb2 => ?_)
    exact stop_next hh fun h' k => h h' fun b o hb e => k b o ((sb2.2 b hb).trans ((sb1.2 b hb).trans e))
/-- iter(set) -/
theorem iter_set {ks : List Int} {Q : Value → Shared → Prop} (hS : SetIs prog w s.heap a ks)
    (h : ∀ (m : Mode) (I : Addr) (es : Array (Int × Value)) (ep : Nat) (t : SetTable) (h' : Heap) (d : Drawn), s.heap.objs.size ≤ I → (∀ b o, s.heap.get? b = some o → h'.get? b = some o) → h'.get? a = some { cls := .type "set", data := .set es ep t } → t.fits es.size = true →
      ItOk w a I es ep t m 0 h' → ElemsOf (intKind prog w) (ordOf w a es ep m) → ((ordOf w a es ep m).map keyOf).Perm ks → Q (.ref I) { s with heap := h', drawn := d }) : wpAny (model prog w) A (pyIter (.ref a)) Q E s := by
  obtain ⟨es, ep, t, ho, hf, ht, hled, hb, hel, rfl, hnd⟩ := hS
  have hT : s.TypeIs (.ref a) "set" := ⟨_, ho, rfl⟩
  refine wpAny_pyIter_slot hT PySem.F.slot_set_iter (wpAny_call_entry PySem.F.slot_set_iter hT en_iter ?_ (PySem.F.args_set_iter_1 _))
  unfold Builtin.«frozenset.__iter__»
  refine wpAny_bind (m := Builtin.Frozenset.slot0 _ _) (wpAny_of_eq (a := a) (by rfl) ?_)
  refine wpAny_bind ?_
  unfold Builtin.Frozenset.sizeOf
  refine wpAny_bind (wpAny_setEntries_of ho rfl hf (wpAny_pure ?_))
  refine wpAny_bind ?_
  unfold setDrawn
  refine wpAny_bind (state_ok ho hf ?_)
  dsimp only
  refine wpAny_bind (byText_ok (wpAny_pure ?_))
  have hel' : ∀ l : List (Int × Value), l.Perm es.toList → ElemsOf (intKind prog w) l := fun l p => hel.perm p
  -- the two ways meet
  have go : ∀ (m : Mode) (first : Value) (h1 : Heap) (d : Drawn), (∀ b o, s.heap.get? b = some o → h1.get? b = some o) → s.heap.objs.size ≤ h1.objs.size →
      (∀ h2, h2.get? h1.objs.size = some (itRec first 0 es.size ep a) → (∀ b o, h1.get? b = some o → h2.get? b = some o) → ItOk w a h1.objs.size es ep t m 0 h2) → (ordOf w a es ep m).Perm es.toList →
      wpAny (model prog w) A.in1 (do
        let e ← setEpoch a
        let v ← newFields "set_iterator" [first, rawInt 0, .ref a, rawInt ((es.size : Nat) : Int), rawInt ((e : Nat) : Int)]
        ret v) (fun fin s' => ∃ v, fin = .done (.ret v) ∧ ∃ T' r, s'.TypeIs v T' ∧ typeLookup (.type T') (Str.ofString "__next__") = pure (some r) ∧ Q v s') E { s with heap := h1, drawn := d } := by
    intro m first h1 d k hsz hit hp
    refine wpAny_bind (wpAny_setEpoch_of (k _ _ ho) rfl hf ?_)
    refine wpAny_bind ?_
    unfold newFields
    refine wpAny_newObj_type ?_ (by size_fits)
    refine wpAny_pure ⟨_, rfl, "set_iterator", _, ⟨_, Heap.get?_push_size _ rfl, rfl⟩, sl_next.lookup, ?_⟩
    refine h m h1.objs.size es ep t _ d hsz (fun b o e => Heap.get?_push_of_some _ (k b o e)) (Heap.get?_push_of_some _ (k _ _ ho)) hf (hit _ (Heap.get?_push_size _ rfl) fun b o e => Heap.get?_push_of_some _ e) (hel' _ hp) (hp.map keyOf)
  by_cases hbt : byT w = true
  · have hc : (!byT w && (!t.plain && decide (es.size > 1))) = false := by rw [hbt]; rfl
    show wpAny _ _ (if (!byT w && (!t.plain && decide (es.size > 1))) = true then _ else _) _ _ _
    rw [hc, if_neg Bool.false_ne_true]
    refine wpAny_bind (wpAny_pure ?_)
    exact go .text (rawInt 0) s.heap s.drawn (fun b o e => e) (Nat.le_refl _) (fun h2 e _ => ⟨hbt, 0, e⟩) (pickOrder_perm _ es)
  · have hbf : byT w = false := by simpa using hbt
    show wpAny _ _ (if (!byT w && (!t.plain && decide (es.size > 1))) = true then _ else _) _ _ _
    by_cases hd : (!t.plain && decide (es.size > 1)) = true
    · rw [if_pos (by rw [hbf, hd]; rfl)]
      refine wpAny_bind (draw_any es.size (List.range es.size) s _ (by simp) fun ps d hp => ?_)
      refine wpAny_bind ?_
      simp only [newTuple]
      have hz : (ps.map fun (i : Nat) => rawInt (i : Int)).length ≤ sizeLine := by
        rw [List.length_map, hp.length_eq, List.length_range]
        exact fits_of_scanBound hb
      refine wpAny_newObj_type ?_ (by show (ps.map fun (i : Nat) => rawInt (i : Int)).toArray.size ≤ sizeLine; rw [List.size_toArray]; exact hz)
      have hlt : ∀ p ∈ ps, p < es.size := fun p z => List.mem_range.mp (hp.mem_iff.mp z)
      refine go (.drawn s.heap.objs.size ps) _ _ d (fun b o e => Heap.get?_push_of_some _ e) (by rw [Heap.size_push]; exact Nat.le_succ _) (fun h2 e k => ⟨?_, hlt, ⟨0, k _ _ (Heap.get?_push_size _ rfl)⟩, e⟩) ?_
      · rw [Heap.size_push]
        exact Nat.ne_of_lt (Nat.lt_succ_self _)
      · show (ps.filterMap (es[·]?)).Perm es.toList
        have := hp.filterMap (fun i => es[i]?)
        rw [filterMap_getElem?_range] at this
        exact this
    · have hd' : (!t.plain && decide (es.size > 1)) = false := by simpa using hd
      rw [if_neg (by rw [hd']; simp)]
      refine wpAny_bind (wpAny_pure ?_)
      have hps : t.place.size = es.size := by
        unfold SetTable.fits at hf
        rw [Bool.and_eq_true] at hf
        exact eq_of_beq hf.1
      have hu : Up t.place := by
        by_cases hp : t.plain = true
        · exact (ht hp).1
        · intro i k hik hk
          rw [show t.plain = false by simpa using hp] at hd'
          simp at hd'
          omega
      exact go .place (rawInt 0) s.heap s.drawn (fun b o e => e) (Nat.le_refl _) (fun h2 e _ => ⟨hbf, hd', hled hbf, hu, hps, 0, below_zero _ hu, e⟩) (List.Perm.refl _)
/-- the loop of list(set) -/
theorem extend_set {m : Mode} {S : Addr} {R : Result → Shared → Prop} {res : Value} (hh : A.handled = none) (hf : t.fits es.size = true) (hSI : S ≠ I) (hSa : S ≠ a) (hn : (ordOf w a es ep m).length ≤ sizeLine) :
    ∀ (k i : Nat) (s : Shared) (c : Nat), (ordOf w a es ep m).length - i = k → i ≤ (ordOf w a es ep m).length → s.heap.get? a = some { cls := .type "set", data := .set es ep t } → ItOk w a I es ep t m i s.heap → (∀ pl ps, m = .drawn pl ps → S ≠ pl) →
      s.heap.get? S = some { cls := .type "list", data := .seq (((ordOf w a es ep m).take i).map (·.2)).toArray c } →
      (∀ h' c', h'.get? S = some { cls := .type "list", data := .seq ((ordOf w a es ep m).map (·.2)).toArray c' } → (∀ b o, b ≠ S → b ≠ I → s.heap.get? b = some o → h'.get? b = some o) → R (.ok (.ret res)) { s with heap := h' }) →
      codeAny (model prog w) A (.builtin "list.extend.loop" ⟨[.ref S, .ref I, res], []⟩) R s := by
  intro k
  induction k with
  | zero =>
    intro i s c hk hi ho x hpl hS hR
    have e : i = (ordOf w a es ep m).length := by omega
    refine codeAny_builtin PySem.F.entry_extend_loop ?_
    rw [Around.under_plainId PySem.F.plain_extend_loop _]
    show wpAny _ A.in1 (pyNext (.ref I) >>= _) _ _ s
    refine wpAny_bind (it_end (by simpa using hh) ho hf x (by rw [e]; simp) fun h' k' => ?_)
    refine wpAny_pure (hR h' c ?_ fun b o hb hI q => k' b o hI q)
    rw [e, List.take_length] at hS
    exact k' S _ hSI hS
  | succ k ih =>
    intro i s c hk hi ho x hpl hS hR
    have lt : i < (ordOf w a es ep m).length := by omega
    have hx : (ordOf w a es ep m)[i]? = some (ordOf w a es ep m)[i] := by simp [lt]
    refine codeAny_builtin PySem.F.entry_extend_loop ?_
    rw [Around.under_plainId PySem.F.plain_extend_loop _]
    show wpAny _ A.in1 (pyNext (.ref I) >>= _) _ _ s
    refine wpAny_bind (it_item ho hf x hx fun h1 x1 sb1 => ?_)
    have aI := set_ne_it ho x
    have hS1 : h1.get? S = _ := (sb1.2 S hSI).trans hS
    have ho1 : h1.get? a = _ := (sb1.2 a aI).trans ho
    show wpAny _ A.in1 (updateSeq S (·.push (ordOf w a es ep m)[i].2) >>= _) _ _ _
    refine wpAny_bind ?_
    have hsz : (((ordOf w a es ep m).take i).map (·.2)).toArray.size = i := by simp; omega
    refine wpAny_updateSeq hS1 rfl (wpAny_pure ⟨plainId_quiet PySem.F.plain_extend_loop _, ?_⟩) (by rw [hsz]; omega) (by rw [Array.size_push, hsz]; omega)
    have oth : ∀ b, b ≠ S → (h1.update S (Obj.mapSeq (·.push (ordOf w a es ep m)[i].2))).get? b = h1.get? b := fun b hb => Heap.get?_update_other _ _ (Ne.symm hb)
    have e1 : (((ordOf w a es ep m).take i).map (·.2)).toArray.push (ordOf w a es ep m)[i].2 = (((ordOf w a es ep m).take (i + 1)).map (·.2)).toArray := by
      rw [List.take_add_one, hx, List.map_append, List.push_toArray]
      rfl
    obtain ⟨c2, hS2⟩ : ∃ c2, (h1.update S (Obj.mapSeq (·.push (ordOf w a es ep m)[i].2))).get? S = some { cls := .type "list", data := .seq (((ordOf w a es ep m).take (i + 1)).map (·.2)).toArray c2 } :=
      ⟨_, (Heap.get?_update_self (Obj.mapSeq (·.push (ordOf w a es ep m)[i].2)) hS1 rfl).trans (by rw [← e1]; rfl)⟩
    refine ih (i + 1) _ c2 (by omega) lt ((oth a (Ne.symm hSa)).trans ho1) ?_ hpl hS2 fun h' c' q1 q2 => ?_
    · cases m with
      | text => obtain ⟨b1, z, q⟩ := x1; exact ⟨b1, z, (oth I (Ne.symm hSI)).trans q⟩
      | place => obtain ⟨b1, b2, b3, b4, b5, z, b6, q⟩ := x1; exact ⟨b1, b2, b3, b4, b5, z, b6, (oth I (Ne.symm hSI)).trans q⟩
      | drawn pl ps => obtain ⟨b1, b2, ⟨np, b3⟩, q⟩ := x1; exact ⟨b1, b2, ⟨np, (oth pl (Ne.symm (hpl pl ps rfl))).trans b3⟩, (oth I (Ne.symm hSI)).trans q⟩
    · refine hR h' c' q1 fun b o hb hI q => q2 b o hb hI ?_
      exact (oth b hb).trans ((sb1.2 b hI).trans q)
/-- the members as a list -/
theorem collect_set {ks : List Int} {Q : List Value → Shared → Prop} (hh : A.handled = none) (hS : SetIs prog w s.heap a ks)
    (h : ∀ (vs : List Value) (ns : List Int) (h' : Heap) (d : Drawn), s.heap.objs.size ≤ h'.objs.size → PyProof.Rows.IntsAre vs ns → ns.Perm ks → (∀ b o, s.heap.get? b = some o → h'.get? b = some o) → Q vs { s with heap := h', drawn := d }) : wpAny (model prog w) A (collect (.ref a)) Q E s := by
  have hcard : ks.length < scanBound := by
    obtain ⟨es, ep, t, ho, hf, ht, hled, hb, hel, rfl, hnd⟩ := hS
    simpa using hb
  have ha : a < s.heap.objs.size := by
    obtain ⟨es, ep, t, ho, _⟩ := hS
    exact Heap.lt_size ho
  unfold collect
  refine wpAny_bind (wpAny_runValue (codeAny_builtin PySem.F.entry_proto_collect ?_))
  rw [Around.under_plainId PySem.F.plain_proto_collect _]
  show wpAny _ A.in1 (newList [] >>= fun l => again (.builtin "list.__iadd__" ⟨[l, .ref a], []⟩)) _ _ s
  refine wpAny_bind (wpAny_newObj_type ?_)
  refine wpAny_pure ⟨plainId_quiet PySem.F.plain_list_iadd _, codeAny_builtin PySem.F.entry_list_iadd ?_⟩
  rw [Around.under_plainId PySem.F.plain_list_iadd _]
  have hS1 : SetIs prog w (s.heap.push { cls := .type "list", data := .seq ([] : List Value).toArray }) a ks := hS.kept fun o e => Heap.get?_push_of_some _ e
  have hT1 : Shared.TypeIs { s with heap := s.heap.push { cls := .type "list", data := .seq ([] : List Value).toArray } } (.ref a) "set" := by
    obtain ⟨es, ep, t, ho, _⟩ := hS1
    exact ⟨_, ho, rfl⟩
  show wpAny _ A.in1 (Builtin.List.listExtendWith (.ref s.heap.objs.size) (.ref a) (.ref s.heap.objs.size)) _ _ _
  unfold Builtin.List.listExtendWith
  refine wpAny_bind (wpAny_typeOf hT1 ?_)
  have z1 : Builtin.List.listSameRef (.ref s.heap.objs.size) (.ref a) = false := by
    show (s.heap.objs.size == a) = false
    exact beq_eq_false_iff_ne.mpr (Nat.ne_of_gt ha)
  have z2 : (Value.type "set" == Value.type "list") = false := by decide
  have z3 : (Value.type "set" == Value.type "tuple") = false := by decide
  simp only [z1, z2, z3, Bool.or_false, Bool.false_eq_true, if_false]
  refine wpAny_bind (iter_set hS1 fun m I es ep t h2 d hI k2 ho2 hf2 x2 el2 pm2 => ?_)
  have hT2 : Shared.TypeIs { s with heap := h2, drawn := d } (.ref a) "set" := ⟨_, ho2, rfl⟩
  refine wpAny_bind (wpAny_holding ?_)
  unfold Builtin.List.listLengthHint
  refine wpAny_bind (wpAny_specialOf hT2 PySem.F.slot_set_len.lookup ?_)
  have sp : splitId "set.__len__" = some ("set", "__len__") := by first | rfl | decide +kernel
  dsimp only
  rw [sp]
  dsimp only
  refine wpAny_bind (wpAny_isInstance hT2 sub_set ?_)
  rw [if_neg (by simp)]
  rw [if_pos (by decide +kernel)]
  refine wpAny_bind (wpAny_typeOf hT2 ?_)
  refine wpAny_pure ?_
  rw [if_pos (by decide +kernel)]
  refine wpAny_bind (wpAny_rule ?_)
  have oS : h2.get? s.heap.objs.size = some { cls := .type "list", data := .seq ([] : List Value).toArray } := k2 _ _ (Heap.get?_push_size _ rfl)
  have sI : s.heap.objs.size ≠ I := by
    rw [Heap.size_push] at hI
    exact Nat.ne_of_lt hI
  have sa : s.heap.objs.size ≠ a := Nat.ne_of_gt ha
  have spl : ∀ pl ps, m = .drawn pl ps → s.heap.objs.size ≠ pl := by
    rintro pl ps rfl e
    obtain ⟨_, _, ⟨np, q⟩, _⟩ := x2
    rw [← e, oS] at q
    exact absurd (congrArg Obj.cls (Option.some.inj q)) (show Value.type "list" ≠ Value.type "tuple" by decide)
  refine wpAny_bind ?_
  show wpAny _ A.in1 (updateSeq s.heap.objs.size (·.push .none) >>= fun _ => updateSeq s.heap.objs.size (·.pop)) _ _ _
  refine wpAny_bind (wpAny_updateSeq oS rfl ?_)
  have oS2 := Heap.get?_update_self (Obj.mapSeq (·.push Value.none)) oS rfl
  refine wpAny_updateSeq oS2 rfl ?_
  have oS3 := Heap.get?_update_self (Obj.mapSeq (·.pop)) oS2 rfl
  have oth : ∀ b, b ≠ s.heap.objs.size → ((h2.update s.heap.objs.size (Obj.mapSeq (·.push Value.none))).update s.heap.objs.size (Obj.mapSeq (·.pop))).get? b = h2.get? b :=
    fun b hb => (Heap.get?_update_other _ _ (Ne.symm hb)).trans (Heap.get?_update_other _ _ (Ne.symm hb))
  have hlen : (ordOf w a es ep m).length ≤ sizeLine := by
    have := pm2.length_eq
    rw [List.length_map] at this
    rw [this]
    exact fits_of_scanBound hcard
  refine wpAny_pure ⟨plainId_quiet PySem.F.plain_extend_loop _, extend_set (es := es) (ep := ep) (t := t) (m := m) hh hf2 sI sa hlen _ 0 _ _ rfl (Nat.zero_le _) ((oth a (Ne.symm sa)).trans ho2) ?_ spl oS3 fun h' c' q1 q2 => ?_⟩
  · cases m with
    | text => obtain ⟨b1, z, q⟩ := x2; exact ⟨b1, z, (oth I (Ne.symm sI)).trans q⟩
    | place => obtain ⟨b1, b2, b3, b4, b5, z, b6, q⟩ := x2; exact ⟨b1, b2, b3, b4, b5, z, b6, (oth I (Ne.symm sI)).trans q⟩
    | drawn pl ps => obtain ⟨b1, b2, ⟨np, b3⟩, q⟩ := x2; exact ⟨b1, b2, ⟨np, (oth pl (Ne.symm (spl pl ps rfl))).trans b3⟩, (oth I (Ne.symm sI)).trans q⟩
  · show wpAny _ A (load s.heap.objs.size >>= _) _ _ _
    refine wpAny_bind (wpAny_load q1 (wpAny_pure ?_))
    refine h _ ((ordOf w a es ep m).map keyOf) h' d (Nat.le_of_lt (Heap.lt_size q1)) ?_ pm2 fun b o e => ?_
    · exact ints_of el2
    · have lb := Heap.lt_size e
      have bS : b ≠ s.heap.objs.size := Nat.ne_of_lt lb
      have bI : b ≠ I := by
        rw [Heap.size_push] at hI
        exact Nat.ne_of_lt (Nat.lt_trans lb hI)
      exact q2 b o bS bI ((oth b bS).trans (k2 b o (Heap.get?_push_of_some _ e)))
/-- sorted(set) -/
theorem sorted_set {ks : List Int} {Q : Value → Shared → Prop} (hh : A.handled = none) (hS : SetIs prog w s.heap a ks) (h64 : ks.length < 64)
    (h : ∀ (l : Addr) (c : Nat) (vs : List Value) (ns : List Int) (h' : Heap) (d : Drawn), s.heap.objs.size ≤ l → h'.get? l = some { cls := .type "list", data := .seq vs.toArray c } → PyProof.Rows.IntsAre vs ns → ns.Perm ks → ns.Pairwise (· ≤ ·) →
      (∀ b o, s.heap.get? b = some o → h'.get? b = some o) → Q (.ref l) { s with heap := h', drawn := d }) : wpAny (model prog w) A (call (.builtin "sorted") [.ref a]) Q E s := by
  refine PySem.Calls.call_function_entry PyProof.Rows.kind_sorted PyProof.Rows.plain_sorted PyProof.Rows.entry_sorted (PyProof.Rows.args_sorted1 _) ?_
  unfold Builtin.«sorted»
  refine wpAny_bind (m := checkCount "sorted" 1 1 _) (wpAny_pure ?_)
  refine wpAny_bind (collect_set (by simpa using hh) hS fun vs ns h1 d hsz hI hp k1 => ?_)
  have hv : vs.length = ns.length := hI.length
  have hl : vs.length < 64 := by rw [hv, hp.length_eq]; exact h64
  refine wpAny_bind (wpAny_newList ?_ (by rw [sizeLine_eq]; omega))
  refine wpAny_bind (wpAny_holding (wpAny_call_entry PyProof.Rows.slot_list_sort ⟨_, Heap.get?_push_size _ rfl, rfl⟩ PyProof.Rows.entry_list_sort (PyProof.Rows.list_sort_tree (n := 0) (Heap.get?_push_size _ rfl) hI hl fun out ns' a1 a2 a3 => ⟨_, rfl, ?_⟩) (PyProof.Rows.args_list_sort _)))
  refine wpAny_pure ⟨_, rfl, ?_⟩
  obtain ⟨c, hc⟩ := PyProof.Rows.sortedHeap_at (h := h1.push (PyProof.Rows.seqObj "list" vs.toArray 0)) (a := h1.objs.size) (vs := vs) (n := 0) (out := out) (Heap.get?_push_size _ rfl)
  refine h h1.objs.size c out.toList ns' _ d hsz (hc.trans (by simp [PyProof.Rows.seqObj])) a1 (a2.trans hp) a3 fun b o e => ?_
  have e1 := k1 b o e
  have lb := Heap.lt_size e1
  refine (PyProof.Rows.sortedHeap_old (Nat.ne_of_lt lb) (by rw [Heap.size_push]; exact Nat.lt_succ_of_lt lb)).trans (Heap.get?_push_of_some _ e1)
end
end CpSet
set_option Elab.async false
set_option linter.all false
set_option maxRecDepth 100000
set_option maxHeartbeats 4000000
/-! MORE RULES over the hand layer: sum, set, sorted of a set, a dict's keys walked, list of a dict. -/
namespace L2
open PySem PySem.Spec PyProof.Rows
/-! ### a set of numbers, tracked -/
def setO (P : Program) (w : World) (a : Addr) (ks : List Int) : HO := .ext fun h => CpSet.SetIs P w h a ks
section
variable {X : Cx}
theorem call_set (hc : X.calm = true) : CallR X (.type "set") (fun xs H Q => ∃ (p : Addr) (ns : List Int), xs = [.ref p] ∧ SqL X.K H p (ns.map V.int) ∧ ns.length + 1 < scanBound ∧
    ∀ (a : Addr) (ks : List Int), H a = none → ks.Nodup → (∀ x, x ∈ ks ↔ x ∈ ns) → Q (.ref a) (upd H a (setO X.prog X.w a ks))) := by
  intro pins s σ H xs us Q I r h
  obtain ⟨p, ns, rfl, hq, hl, q⟩ := h
  obtain ⟨u, rfl, rx⟩ := vals1 r
  cases rx
  obtain ⟨its, r', pl, hz⟩ := I.list hq
  have hi : IntsAre its ns := intsAre_of r'
  have hlen : its.length = ns.length := hi.length
  refine CpSet.set_of_list (I.ok.hd hc) pl.isList (by simpa using hi) (by simp; omega) fun h' tk ks hS hm kp => ?_
  have hnd : ks.Nodup := by
    obtain ⟨_, _, _, _, _, _, _, _, _, _, z⟩ := hS
    exact z
  refine ⟨.ref s.heap.objs.size, _, I.laid (a := s.heap.objs.size) (o := setO X.prog X.w s.heap.objs.size ks) (t' := tk) kp (Nat.le_refl _) ⟨hS, ?_, fun h1 h2 x k => CpSet.SetIs.kept x k⟩, rfl, q _ ks I.fresh hnd hm⟩
  obtain ⟨_, _, _, e, _⟩ := hS
  exact ⟨_, e⟩
theorem call_sorted_set (hc : X.calm = true) : CallR X (.builtin "sorted") (fun xs H Q => ∃ (a : Addr) (ks : List Int), xs = [.ref a] ∧ H a = some (setO X.prog X.w a ks) ∧ ks.length < 64 ∧
    ∀ (l : Addr) (ns : List Int), H l = none → ns.Perm ks → ns.Pairwise (· ≤ ·) → Q (.ref l) (upd H l (.lst (ns.map V.int)))) := by
  intro pins s σ H xs us Q I r h
  obtain ⟨a, ks, rfl, ha, hl, q⟩ := h
  obtain ⟨u, rfl, rx⟩ := vals1 r
  cases rx
  obtain ⟨hS, _, _⟩ := I.hok a _ ha
  refine CpSet.sorted_set (I.ok.hd hc) hS hl fun l c vs ns h' d hle hg hi hp hs kp => ?_
  have hv : Vals (ns.map V.int) vs := vals_ints hi
  have hz : (ns.map V.int).length ≤ sizeLine := by
    rw [List.length_map, hp.length_eq, sizeLine_eq]
    omega
  have hn : H l = none := I.hok.fresh hle
  refine ⟨.ref l, upd H l (.lst (ns.map V.int)), I.call (g' := s.gens) (t' := s.toks) (d' := d) (ch := []) (Un.laid kp hle hn) (I.hok.laid kp hle ?_) I.bare (fun _ z => nomatch z), rfl, q l ns hn hp hs⟩
  exact ⟨hz, vs, c, hv, hg⟩
/-! ### sum -/
theorem call_sum (hc : X.calm = true) : CallR X (.builtin "sum") (fun xs H Q => ∃ (p : Addr) (ns : List Int), xs = [.ref p] ∧ SqL X.K H p (ns.map V.int) ∧ Q (.int ns.sum) H) := by
  intro pins s σ H xs us Q I r h
  obtain ⟨p, ns, rfl, hq, q⟩ := h
  obtain ⟨u, rfl, rx⟩ := vals1 r
  cases rx
  obtain ⟨its, r', pl, hz⟩ := I.list hq
  have hi : IntsAre its ns := intsAre_of r'
  obtain ⟨ys, e⟩ := hi.allInts.items
  have hl := pl.isList
  rw [e] at hl
  refine sum_intListG (I.ok.hd hc) hl fun h' tk t' kp => ?_
  have es : preSum (numAt ys) ys.size = ns.sum := by
    have e2 := hi.numsOf
    have e3 : numsOf its = numsOf (intItems ys).toList := by rw [← e]
    rw [e3, nums_intItems] at e2
    rw [preSum_eq, List.take_of_length_le (by simp), e2]
  rw [es]
  exact ⟨.int ns.sum, H, I.kept kp, ⟨t', rfl⟩, q⟩
/-! ### a dict's keys walked: the dict is known to the object from there on -/
theorem Inv.freeze {pins : List (Addr × Obj)} {σ : St} {H : Hp} {s : Shared} {a : Addr} {kvs : List (Key × V)} {o : Obj} (I : Inv X pins σ H s) (h : H a = some (.dK kvs)) (e : s.heap.get? a = some o) : Inv X pins σ (upd H a (.frz o (.dK kvs))) s := by
  have ne : ∀ b, H b = none → b ≠ a := fun b n z => by rw [z, h] at n; cases n
  refine ⟨I.ok, I.os, I.bare, ⟨I.base.keep, I.base.slot, fun b ob q n hx => ?_, I.base.there, fun b xs q => ?_, fun b ob u q => ?_, fun b ps q => ?_⟩, I.loc, I.cell, ?_, fun x c q => ?_, fun p hp => ?_, fun b u q => ?_, I.len⟩
  · have z := I.base.free b ob q n hx
    rw [upd_ne (ne b z)]
    exact z
  · have z := I.base.tups b xs q
    rw [upd_ne (ne_of z h (by intro y; cases y))]
    exact z
  · have z := I.base.frzs b ob u q
    rw [upd_ne (ne_of z h (by intro y; cases y))]
    exact z
  · obtain ⟨more, z⟩ := I.base.tbls b ps q
    exact ⟨more, by rw [upd_ne (ne_of z h (by intro y; cases y))]; exact z⟩
  · rw [upd_ne (ne _ I.free)]
    exact I.free
  · have z := I.freeC x c q
    rw [upd_ne (ne _ z)]
    exact z
  · obtain ⟨p1, p2, p3⟩ := I.pin p hp
    exact ⟨p1, by rw [upd_ne (ne _ p2)]; exact p2, p3⟩
  · have st : ∀ {c : Addr} {w : HO}, ObjOk X.prog X.w H s.heap c w → ObjOk X.prog X.w (upd H a (.frz o (.dK kvs))) s.heap c w := fun {c w} z =>
      z.stay (fun _ _ _ q => q) (fun b q => by rw [upd_ne (ne_of q h (by intro y; cases y))]; exact q) fun b xs q => by rw [upd_ne (ne_of q h (by intro y; cases y))]; exact q
    by_cases hb : b = a
    · subst hb
      rw [upd_same] at q
      cases q
      exact ⟨e, st (I.hok _ _ h)⟩
    · rw [upd_ne hb] at q
      exact st (I.hok b u q)
def Itd (a : Addr) (o : Obj) (kvs : List (Key × V)) : It :=
  ⟨fun i H => H a = some (.frz o (.dK kvs)) ∧ i < kvs.length, fun i H x H' => H' = H ∧ ∃ k v, kvs[i]? = some (k, v) ∧ x = kV k, fun i H => H a = some (.frz o (.dK kvs)) ∧ kvs.length ≤ i⟩
theorem rel_key {P : Program} {w : World} {k : Key} {u : Value} (h : (mixKind P w).is k u = true) : RelV (kV k) u := by
  rcases keyIs_shape h with ⟨i, t, rfl, rfl⟩ | ⟨x, t, rfl, rfl⟩
  · exact ⟨t, rfl⟩
  · exact ⟨t, rfl⟩
theorem turn_dict {P : Program} {w : World} {K : PySem.W.Frag} {tg : Expr} (a it : Addr) (o : Obj) (kvs : List (Key × V)) (es : Array DictEntry) (ep : Nat) (ho : o.data = .dict es ep) :
    Turn P w K tg (Itd a o kvs) [it] it (fun i h => h.IsKeyIter it a i kvs.length ep) where
  mem := by simp
  obj := fun i h st b hb => by
    have e : b = it := by simpa using hb
    subst e
    obtain ⟨ob, e, _, d⟩ := st
    exact ⟨ob, e, fun v z => by rw [d] at z; cases z⟩
  keep := fun i h h' st k => by
    obtain ⟨ob, e, c, d⟩ := st
    exact ⟨ob, k it (by simp) ob e, c, d⟩
  item := fun X hP hw hK hc i pins s σ H E I fp st go => by
    subst hP hw hK
    obtain ⟨hf, hi⟩ := go
    obtain ⟨e, ok⟩ := I.hok a _ hf
    obtain ⟨z, hd, vs, rel, ob, es', ep', e', ex, dd, r1, r2, r3⟩ := ok
    rw [e] at e'
    cases e'
    rw [ho] at dd
    cases dd
    have hl : kvs.length = vs.length := Paired.length rel
    have hm : s.heap.DictAt (mixKind X.prog X.w) a vs ep := ⟨o, es, e, ex, ho, r1, r2, r3⟩
    obtain ⟨⟨k, v⟩, hx⟩ : ∃ p, vs[i]? = some p := ⟨vs[i]'(by omega), by simp⟩
    rw [hl] at st
    refine wpAny_pyNext_dict_item st hm hx fun key h' hk hit sb => ⟨key, rfl, ?_⟩
    obtain ⟨oi, ei, ci, di⟩ := id hit
    refine go_of ei ci di (by decide) ?_
    have f := fp it (by simp)
    obtain ⟨⟨k2, v2⟩, hk2, e1, _⟩ := pgetR rel hx
    refine ⟨kV k2, H, I.turned (t' := s.toks) (it := it) (fun b o2 hb q => (sb.2 b hb).trans q) f.1 f.2.1 f.2.2.2.1 f.2.2.2.2.1 f.2.2.2.2.2, ?_, ⟨rfl, k2, v2, hk2, rfl⟩, by rw [hl]; exact hit, fun b hb => (fp b hb).1⟩
    have e1' : k2 = k := e1
    rw [e1']
    exact rel_key hk
  done := fun X hP hw hK hc i pins s σ H E I fp st stop => by
    subst hP hw hK
    obtain ⟨hf, hi⟩ := stop
    obtain ⟨e, ok⟩ := I.hok a _ hf
    obtain ⟨z, hd, vs, rel, ob, es', ep', e', ex, dd, r1, r2, r3⟩ := ok
    rw [e] at e'
    cases e'
    rw [ho] at dd
    cases dd
    have hl : kvs.length = vs.length := Paired.length rel
    have hm : s.heap.DictAt (mixKind X.prog X.w) a vs ep := ⟨o, es, e, ex, ho, r1, r2, r3⟩
    rw [hl] at st
    have f := fp it (by simp)
    refine wpAny_pyNext_dict_end (I.ok.hd hc) st hm (by simp; omega) fun h' k => ⟨rfl, ?_⟩
    exact I.turned (t' := s.toks) (it := it) (fun b o2 hb q => k b o2 hb q) f.1 f.2.1 f.2.2.2.1 f.2.2.2.2.1 f.2.2.2.2.2
  self := fun A i s Q E st q => wpAny_pyIter_keyiter st q
def iDict (tl : TE) : TI := fun σ H R => tl σ H fun x H1 => ∃ a kvs, x = .ref a ∧ H1 a = some (.dK kvs) ∧ ∀ o, R (Itd a o kvs) (upd H1 a (.frz o (.dK kvs)))
theorem pi_dict {l tg : Expr} {tl : TE} (hl : PE X l tl) : PI X tg l (iDict tl) := by
  intro pins s σ H R I h
  refine thn (hl pins s σ H _ I h) fun v s1 ⟨x, H1, I1, r1, q1⟩ => ?_
  obtain ⟨a, kvs, e, ha, q⟩ := q1
  subst e
  cases r1
  obtain ⟨z, hd, vs, rel, ob, es, ep, e, ex, dd, k1, k2, k3⟩ := I1.hok a _ ha
  have hlen : kvs.length = vs.length := Paired.length rel
  have hm : s1.heap.DictAt (mixKind X.prog X.w) a vs ep := ⟨ob, es, e, ex, dd, k1, k2, k3⟩
  refine wpAny_pyIter_dict hd hm ?_
  have I2 := I1.freeze ha e
  refine ⟨s1.heap.objs.size, [s1.heap.objs.size], _, _, _, rfl, I2.kept (t' := s1.toks) fun b o q => Heap.get?_push_of_some _ q, turn_dict a s1.heap.objs.size ob kvs es ep dd, ⟨_, Heap.get?_push_size _ rfl, rfl, by rw [hlen]; rfl⟩, fun b hb => ?_, q ob⟩
  have e : b = s1.heap.objs.size := by simpa using hb
  subst e
  exact I2.fpOk (Nat.le_refl _) (I2.hok.fresh (Nat.le_refl _))
theorem comp_dict {acc a : Addr} {o : Obj} {kvs : List (Key × V)} {g : TG} {tc : TT} {te : TE} {σ : St} {H : Hp} {fin : Hp → Prop} (Pv : Nat → St → List V → Hp → Prop) (h0 : Pv 0 σ [] H)
    (hl : ∀ i σ ys H, i ≤ kvs.length → Pv i σ ys H → H a = some (.frz o (.dK kvs)) ∧ H acc = some (.lst ys))
    (hs : ∀ i k v σ ys H N, kvs[i]? = some (k, v) → Pv i σ ys H → (∀ σ' ys' H', Pv (i + 1) σ' ys' H' → N σ' ys' H') → compT acc g tc te (kV k) σ ys H N)
    (hd : ∀ σ ys H, Pv kvs.length σ ys H → fin H) : ∃ W : Nat → Nat → St → List V → Hp → Prop, (∃ m, W 0 m σ [] H) ∧ compW (Itd a o kvs) acc g tc te fin W := by
  refine comp_by kvs.length Pv h0 (fun i σ ys H hi p => ?_) (fun i σ ys H N hi p k x H' y => ?_) hd
  · obtain ⟨q, qa⟩ := hl i σ ys H hi p
    exact ⟨qa, fun hlt => ⟨q, hlt⟩, fun e => ⟨q, Nat.le_of_eq e.symm⟩⟩
  · obtain ⟨e, kk, v, hk, hx⟩ := y
    subst e hx
    exact hs i kk v σ ys _ N hk p k
/-! ### list(d) -/
theorem len_dict_look : typeLookup (.type "dict") "__len__" = pure (some (.builtin "dict.__len__")) := by rw [typeLookup_type, builtinLookup_eq_fast]; kernel_rfl
theorem sub_dict : isSubtype (.type "dict") (.type "dict") = pure true := by rw [isSubtype_type]; kernel_rfl
theorem call_list_dict (hc : X.calm = true) : CallR X (.type "list") (fun xs H Q => ∃ (a : Addr) (kvs : List (Key × V)), xs = [.ref a] ∧ Rd H a (.dK kvs) ∧ ∀ l, H l = none → Q (.ref l) (upd H l (.lst (kvs.map fun p => kV p.1)))) := by
  intro pins s σ H xs us Q I r h
  obtain ⟨a, kvs, rfl, ha, q⟩ := h
  obtain ⟨u, rfl, rx⟩ := vals1 r
  cases rx
  obtain ⟨z, hd, vs, rel, hD⟩ := dk_rd I.hok ha
  obtain ⟨ep, hm⟩ := hD.dictAt
  have hlen : kvs.length = vs.length := Paired.length rel
  have hA : X.A.handled = none := I.ok.hd hc
  have la : a < s.heap.objs.size := hm.lt_size
  refine callType_codes PySem.F.called_list (PySem.F.typeCall_list_1 _) PySem.F.entry_list_init (code_list_new (.ref a) (Q₁ := fun obj s1 => obj = .ref s.heap.objs.size ∧ s1 = { s with heap := s.heap.push { cls := .type "list", data := .seq #[] } }) ⟨rfl, rfl⟩) ?_
  rintro obj s1 ⟨rfl, rfl⟩
  have oS : (s.heap.push { cls := .type "list", data := .seq #[] }).get? s.heap.objs.size = some { cls := .type "list", data := .seq #[] } := Heap.get?_push_size _ rfl
  refine ⟨⟨_, oS, rfl⟩, PySem.F.args_list_init_2 _ _, ?_⟩
  show wpAny _ X.A.in1.in1 (do let old ← Builtin.List.listItems (.ref s.heap.objs.size); Builtin.List.listUpdate (.ref s.heap.objs.size) (fun _ => #[]); letGo old.toList.reverse; Builtin.List.listExtendWith (.ref s.heap.objs.size) (.ref a) .none) _ _ _
  refine wpAny_bind ?_
  unfold Builtin.List.listItems
  refine wpAny_bind (wpAny_seqItems oS rfl (wpAny_pure ?_))
  refine wpAny_bind ?_
  show wpAny _ _ (updateSeq s.heap.objs.size (fun _ => #[])) _ _ _
  refine wpAny_updateSeq oS rfl ?_
  have oS2 := Heap.get?_update_self (Obj.mapSeq (fun _ => (#[] : Array Value))) oS rfl
  refine wpAny_bind (wpAny_letGo ?_)
  generalize hh2 : (s.heap.push { cls := .type "list", data := .seq #[] }).update s.heap.objs.size (Obj.mapSeq (fun _ => (#[] : Array Value))) = h2 at oS2
  have k2 : ∀ b o, s.heap.get? b = some o → h2.get? b = some o := fun b o e => by
    rw [← hh2]
    exact (Heap.get?_update_other _ _ (Ne.symm (Nat.ne_of_lt (Heap.lt_size e)))).trans (Heap.get?_push_of_some _ e)
  have hm2 : h2.DictAt (mixKind X.prog X.w) a vs ep := hm.keep k2
  have hT2 : Shared.TypeIs { s with heap := h2 } (.ref a) "dict" := hm2.dictOf.typeIs
  unfold Builtin.List.listExtendWith
  refine wpAny_bind (wpAny_typeOf hT2 ?_)
  have z1 : Builtin.List.listSameRef (.ref s.heap.objs.size) (.ref a) = false := by
    show (s.heap.objs.size == a) = false
    exact beq_eq_false_iff_ne.mpr (Nat.ne_of_gt la)
  have z2 : (Value.type "dict" == Value.type "list") = false := by decide
  have z3 : (Value.type "dict" == Value.type "tuple") = false := by decide
  simp only [z1, z2, z3, Bool.or_false, Bool.false_eq_true, if_false]
  refine wpAny_bind (wpAny_pyIter_dict hd hm2 ?_)
  generalize hIt : ({ cls := .type "dict_keyiterator", data := .fields #[.ref a, .int 0 0, .int vs.length 0, .int ep 0] } : Obj) = itO
  have hT3 : Shared.TypeIs { s with heap := h2.push itO } (.ref a) "dict" := (hm2.push itO).dictOf.typeIs
  refine wpAny_bind (wpAny_holding ?_)
  unfold Builtin.List.listLengthHint
  refine wpAny_bind (wpAny_specialOf hT3 len_dict_look ?_)
  have sp : splitId "dict.__len__" = some ("dict", "__len__") := by first | rfl | decide +kernel
  dsimp only
  rw [sp]
  dsimp only
  refine wpAny_bind (wpAny_isInstance hT3 sub_dict ?_)
  rw [if_neg (by simp)]
  rw [if_pos (by decide +kernel)]
  refine wpAny_bind (wpAny_typeOf hT3 (wpAny_pure ?_))
  rw [if_pos (by decide +kernel)]
  refine wpAny_bind (wpAny_rule ?_)
  have sz2 : s.heap.objs.size < h2.objs.size := Heap.lt_size oS2
  have oS3 : (h2.push itO).get? s.heap.objs.size = _ := Heap.get?_push_of_some _ oS2
  refine wpAny_bind ?_
  show wpAny _ _ (updateSeq s.heap.objs.size (·.push .none) >>= fun _ => updateSeq s.heap.objs.size (·.pop)) _ _ _
  refine wpAny_bind (wpAny_updateSeq oS3 rfl ?_)
  have oS4 := Heap.get?_update_self (Obj.mapSeq (·.push Value.none)) oS3 rfl
  refine wpAny_updateSeq oS4 rfl ?_
  have oS5 := Heap.get?_update_self (Obj.mapSeq (·.pop)) oS4 rfl
  have oth : ∀ b, b ≠ s.heap.objs.size → (((h2.push itO).update s.heap.objs.size (Obj.mapSeq (·.push Value.none))).update s.heap.objs.size (Obj.mapSeq (·.pop))).get? b = (h2.push itO).get? b :=
    fun b hb => (Heap.get?_update_other _ _ (Ne.symm hb)).trans (Heap.get?_update_other _ _ (Ne.symm hb))
  have nI : h2.objs.size ≠ s.heap.objs.size := Nat.ne_of_gt sz2
  have W := (Walks.dictKeys (knd := mixKind X.prog X.w) (A := X.A.in1.in1) (by simpa using hA) h2.objs.size a (Nat.ne_of_lt (Nat.lt_trans la sz2)) vs ep).toS
  have nf : s.heap.objs.size ∉ [h2.objs.size, a] := by
    simp only [List.mem_cons, List.not_mem_nil, or_false, not_or]
    exact ⟨Nat.ne_of_lt sz2, Nat.ne_of_gt la⟩
  refine wpAny_pure ⟨plainId_quiet PySem.F.plain_extend_loop _, codeAny_extend_loopS W (by rw [← hlen]; exact z) s.heap.objs.size nf .none vs.length 0 _ _ _ rfl (Nat.zero_le _) ⟨⟨itO, (oth _ nI).trans (Heap.get?_push_size _ (by rw [← hIt]; rfl)), by rw [← hIt], by rw [← hIt]; rfl⟩, ?_⟩ oS5 (ItemsOf.nil _) fun s' acc c' mv hS' hacc => ?_⟩
  · obtain ⟨o, es, e, rr⟩ := hm2
    exact ⟨o, es, (oth a (Nat.ne_of_lt la)).trans (Heap.get?_push_of_some _ e), rr⟩
  · obtain ⟨h', g', d', tk', os'⟩ := s'
    obtain rfl : g' = s.gens := mv.gens
    obtain rfl : d' = s.drawn := mv.drawn
    obtain rfl : os' = s.os := mv.os
    have kp : ∀ b o, s.heap.get? b = some o → h'.get? b = some o := fun b o e => by
      have lb := Heap.lt_size e
      have nb : b ≠ s.heap.objs.size := Nat.ne_of_lt lb
      refine mv.heap b o ?_ ((oth b nb).trans (Heap.get?_push_of_some _ (k2 b o e)))
      simp only [List.mem_cons, List.not_mem_nil, or_false, not_or]
      exact ⟨nb, Nat.ne_of_lt (Nat.lt_trans lb sz2)⟩
    have hv : Vals (kvs.map fun p => kV p.1) acc.toList := by
      have key : ∀ (n : Nat) (l : List (Key × V)) (m : List (Key × Value)) (us : List Value), KV l m → us.length = m.length → (∀ (j : Nat) (v : Value), us[j]? = some v → ∃ k x, m[j]? = some (k, x) ∧ (mixKind X.prog X.w).is k v = true) → Vals (l.map fun p => kV p.1) us := by
        intro n l
        induction l with
        | nil =>
          intro m us hk hl hu
          cases hk
          have : us = [] := List.eq_nil_of_length_eq_zero hl
          subst this
          exact .nil
        | cons p l ih =>
          intro m us hk hl hu
          cases hk with
          | cons f t =>
            cases us with
            | nil => simp at hl
            | cons u us =>
              refine .cons ?_ (ih _ us t (by simpa using hl) fun j v hj => ?_)
              · obtain ⟨k, x, e1, e2⟩ := hu 0 u rfl
                simp only [List.getElem?_cons_zero, Option.some.injEq] at e1
                have e3 := f.1
                rw [e1] at e3
                show RelV (kV p.1) u
                rw [show p.1 = k from e3]
                exact rel_key e2
              · obtain ⟨k, x, e1, e2⟩ := hu (j + 1) v (by simpa using hj)
                exact ⟨k, x, by simpa using e1, e2⟩
      refine key 0 kvs vs acc.toList rel (by rw [Array.length_toList]; exact hacc.1) fun j v hj => ?_
      obtain ⟨k, x, e1, e2⟩ := hacc.2 j v (by rw [← Array.getElem?_toList]; exact hj)
      exact ⟨k, x, e1, e2⟩
    refine ⟨rfl, .ref s.heap.objs.size, _, I.laid (a := s.heap.objs.size) (o := .lst (kvs.map fun p => kV p.1)) (t' := tk') kp (Nat.le_refl _) ⟨by rw [List.length_map]; exact z, acc.toList, c', hv, by simpa using hS'⟩, rfl, q _ I.fresh⟩
/-! ### isinstance(x, a type of Python's own) -/
theorem call_isinst : CallR X (.builtin "isinstance") (fun xs H Q => ∃ (x : V) (n : String) (t : Value) (b : Bool), xs = [x, .ty n] ∧ TyOf X.K H x t ∧ PySem.W.kitOne X.K t (.type n) = some b ∧ Q (.bl b) H) := by
  intro pins s σ H xs us Q I r h
  obtain ⟨x, n, t, b, rfl, ty, e, q⟩ := h
  obtain ⟨u, v, rfl, rx, ry⟩ := vals2 r
  cases ry
  exact isinst_ok I rx ty e fun tk => ⟨.bl b, H, I.tok tk, rfl, q⟩
end
theorem hu_dep {A : Around} {k n : Nat} (hr : Room k A) (h : n ≤ 64) : A.units + n < cLine := Nat.lt_of_le_of_lt (Nat.add_le_add_left h _) hr.units
theorem scal_ii (a b : Int) : scal (.int a) (.int b) = true := rfl
theorem scal_bb (a b : Bool) : scal (.bl a) (.bl b) = true := rfl
theorem scal_ss (a b : Str) : scal (.str a) (.str b) = true := rfl
theorem atI_of {α : Type} {xs : List α} {i : Int} {v : α} (h0 : 0 ≤ i) (h : xs[i.toNat]? = some v) : atI xs i = some v := by
  have e : i = ((i.toNat : Nat) : Int) := by omega
  rw [e]
  exact atI_nat h
theorem atI_pair {α : Type} {F : V → α → Prop} {xs : List V} {as : List α} {i : Int} (p : Paired F xs as) (h0 : 0 ≤ i) (h1 : i < as.length) : ∃ v, atI xs i = some v ∧ ∃ a, as[i.toNat]? = some a ∧ F v a := by
  have hl := p.length
  have e : as[i.toNat]? = some (as[i.toNat]'(by omega)) := by simp
  obtain ⟨v, hv, f⟩ := pgetR p e
  exact ⟨v, atI_of h0 hv, _, e, f⟩
theorem paired_map {α : Type} {F : V → α → Prop} (f : α → V) (h : ∀ v a, F v a → v = f a) : ∀ {xs : List V} {as : List α}, Paired F xs as → xs = as.map f
  | _, _, .nil => rfl
  | _, _, .cons q t => by rw [h _ _ q, paired_map f h t]; rfl
theorem ints_map {K : PySem.W.Frag} {H : Hp} {xs : List V} {ns : List Int} (p : Paired (repInt.rel K H) xs ns) : xs = ns.map V.int := paired_map _ (fun _ _ h => h) p
theorem bls_map {K : PySem.W.Frag} {H : Hp} {xs : List V} {ns : List Bool} (p : Paired (repBl.rel K H) xs ns) : xs = ns.map V.bl := paired_map _ (fun _ _ h => h) p
theorem map_ints {K : PySem.W.Frag} {H : Hp} : ∀ (ns : List Int), Paired (repInt.rel K H) (ns.map V.int) ns
  | [] => .nil
  | n :: r => .cons rfl (map_ints r)
theorem kit_ii {K : PySem.W.Frag} : PySem.W.kitOne K (.type "int") (.type "int") = some true := by rfl
theorem kit_ib {K : PySem.W.Frag} : PySem.W.kitOne K (.type "int") (.type "bool") = some false := by rfl
theorem kit_bb {K : PySem.W.Frag} : PySem.W.kitOne K (.type "bool") (.type "bool") = some true := by rfl
theorem kit_tt {K : PySem.W.Frag} : PySem.W.kitOne K (.type "tuple") (.type "tuple") = some true := by rfl
theorem kit_ll {K : PySem.W.Frag} : PySem.W.kitOne K (.type "list") (.type "list") = some true := by rfl
/-! ### the reading, a statement at a time: what comes behind is a letter -/
theorem seq_gen {t u : TS} {D : Ends} {σ : St} {H : Hp} (h : ∀ R : St → Hp → Prop, (∀ σ' H', u D σ' H' → R σ' H') → t { D with nx := R } σ H) : tSeq t u D σ H := h (u D) fun _ _ z => z
/-- an if: what its test comes to is a letter -/
theorem ifs_gen {c : TT} {t u : TS} {D : Ends} {σ : St} {H : Hp} (h : ∀ R : Bool → Hp → Prop, (∀ b H1, (b = true → t D σ H1) → (b = false → u D σ H1) → R b H1) → c σ H R) : tIfS c t u D σ H :=
  h (fun b H1 => if b = true then t D σ H1 else u D σ H1) fun b H1 a c => by
    cases b with
    | false => exact c rfl
    | true => exact a rfl
/-- a loop over J -/
def LoopBy (J : It) (g : TG) (tb : TS) (D : Ends) (σ : St) (H : Hp) : Prop := ∃ W : Nat → Nat → St → Hp → Prop, (∃ m, W 0 m σ H) ∧ ∀ i m σ H, W i m σ H →
  (J.stop i H ∧ D.nx σ H) ∨ (J.go i H ∧ ∃ N : St → Hp → Prop, (∀ σ' H', N σ' H' → ∃ m', m' < m ∧ W (i + 1) m' σ' H') ∧ ∀ x H', J.yld i H x H' → g x σ H' fun σ2 H2 => tb { D with nx := N, ct := N, bk := D.nx } σ2 H2)
section
variable {g : TG} {tb : TS} {D : Ends} {σ : St} {H : Hp} {K : PySem.W.Frag}
theorem for_r1 {ta : TA} (h : ∀ R : Int → Hp → Prop, (∀ j H1, -(2 ^ 62) ≤ j → j < 2 ^ 62 → LoopBy (Itr 0 j.toNat) g tb D σ H1 → R j H1) → ta σ H fun vs H1 => ∃ j : Int, vs = [.int j] ∧ R j H1) : tFor (iRng1 ta) g tb D σ H :=
  h (fun j H1 => -(2 ^ 62) ≤ j ∧ j < 2 ^ 62 ∧ LoopBy (Itr 0 j.toNat) g tb D σ H1) fun _ _ a b c => ⟨a, b, c⟩
theorem for_l {tl : TE} (h : ∀ R : V → Hp → Prop, (∀ a xs H1, SqL K H1 a xs → LoopBy (Itl K a) g tb D σ H1 → R (.ref a) H1) → tl σ H R) : tFor (iList K tl) g tb D σ H :=
  h (fun x H1 => ∃ a, x = .ref a ∧ (∃ xs, SqL K H1 a xs) ∧ LoopBy (Itl K a) g tb D σ H1) fun a xs _ b c => ⟨a, rfl, ⟨xs, b⟩, c⟩
theorem loop_list {a : Addr} {xs : List V} (Pv : Nat → St → Hp → Prop) (h0 : Pv 0 σ H) (hl : ∀ i σ H, i ≤ xs.length → Pv i σ H → SqL K H a xs)
    (hs : ∀ i x σ H (N : St → Hp → Prop), xs[i]? = some x → Pv i σ H → (∀ σ' H', Pv (i + 1) σ' H' → N σ' H') → g x σ H fun σ2 H2 => tb { D with nx := N, ct := N, bk := D.nx } σ2 H2) (hd : ∀ σ H, Pv xs.length σ H → D.nx σ H) : LoopBy (Itl K a) g tb D σ H :=
  for_list Pv h0 hl (fun i x σ H hx p => hs i x σ H _ hx p fun _ _ z => z) hd
theorem loop_range {lo : Int} {n : Nat} (Pv : Nat → St → Hp → Prop) (h0 : Pv 0 σ H)
    (hs : ∀ i σ H (N : St → Hp → Prop), i < n → Pv i σ H → (∀ σ' H', Pv (i + 1) σ' H' → N σ' H') → g (.int (lo + i)) σ H fun σ2 H2 => tb { D with nx := N, ct := N, bk := D.nx } σ2 H2) (hd : ∀ σ H, Pv n σ H → D.nx σ H) : LoopBy (Itr lo n) g tb D σ H :=
  for_range Pv h0 (fun i σ H hx p => hs i σ H _ hx p fun _ _ z => z) hd
end
/-- a comprehension over J -/
def CompBy (J : It) (acc : Addr) (g : TG) (tc : TT) (te : TE) (fin : Hp → Prop) (σ : St) (H : Hp) : Prop := ∃ W : Nat → Nat → St → List V → Hp → Prop, (∃ m, W 0 m σ [] H) ∧ compW J acc g tc te fin W
section
variable {im : List (Option Nat)} {g : TG} {tc : TT} {te : TE} {σ : St} {H : Hp} {fin : Addr → Hp → Prop} {K : PySem.W.Frag}
theorem comp_r1 {ta : TA} (h : ∀ R : Int → Hp → Prop, (∀ j H1, -(2 ^ 62) ≤ j → j < 2 ^ 62 → (∀ acc, H1 acc = none → CompBy (Itr 0 j.toNat) acc g tc te (fin acc) (imσ im σ) (upd H1 acc (.lst []))) → R j H1) → ta σ H fun vs H1 => ∃ j : Int, vs = [.int j] ∧ R j H1) :
    tCompR (iRng1 ta) im g tc te σ H fin :=
  h (fun j H1 => -(2 ^ 62) ≤ j ∧ j < 2 ^ 62 ∧ ∀ acc, H1 acc = none → CompBy (Itr 0 j.toNat) acc g tc te (fin acc) (imσ im σ) (upd H1 acc (.lst []))) fun _ _ a b c => ⟨a, b, c⟩
theorem comp_l {tl : TE} (h : ∀ R : V → Hp → Prop, (∀ a xs H1, SqL K H1 a xs → (∀ acc, H1 acc = none → CompBy (Itl K a) acc g tc te (fin acc) (imσ im σ) (upd H1 acc (.lst []))) → R (.ref a) H1) → tl σ H R) : tCompR (iList K tl) im g tc te σ H fin :=
  h (fun x H1 => ∃ a, x = .ref a ∧ (∃ xs, SqL K H1 a xs) ∧ ∀ acc, H1 acc = none → CompBy (Itl K a) acc g tc te (fin acc) (imσ im σ) (upd H1 acc (.lst []))) fun a xs _ b c => ⟨a, rfl, ⟨xs, b⟩, c⟩
theorem comp_d {tl : TE} (h : ∀ R : V → Hp → Prop, (∀ a kvs H1, H1 a = some (.dK kvs) → (∀ o acc, upd H1 a (.frz o (.dK kvs)) acc = none → CompBy (Itd a o kvs) acc g tc te (fin acc) (imσ im σ) (upd (upd H1 a (.frz o (.dK kvs))) acc (.lst []))) → R (.ref a) H1) → tl σ H R) : tCompR (iDict tl) im g tc te σ H fin :=
  h (fun x H1 => ∃ a kvs, x = .ref a ∧ H1 a = some (.dK kvs) ∧ ∀ o acc, upd H1 a (.frz o (.dK kvs)) acc = none → CompBy (Itd a o kvs) acc g tc te (fin acc) (imσ im σ) (upd (upd H1 a (.frz o (.dK kvs))) acc (.lst []))) fun a kvs _ b c => ⟨a, kvs, rfl, b, c⟩
end
/-! ### Python's own names -/
theorem bb_sum : bootBuiltins "sum" = some (.builtin "sum") := by decide +kernel
theorem bb_sorted : bootBuiltins "sorted" = some (.builtin "sorted") := by decide +kernel
theorem bb_min : bootBuiltins "min" = some (.builtin "min") := by decide +kernel
theorem bb_max : bootBuiltins "max" = some (.builtin "max") := by decide +kernel
theorem bb_abs : bootBuiltins "abs" = some (.builtin "abs") := by decide +kernel
theorem bb_len : bootBuiltins "len" = some (.builtin "len") := by decide +kernel
theorem bb_isinstance : bootBuiltins "isinstance" = some (.builtin "isinstance") := by decide +kernel
theorem bb_int : bootBuiltins "int" = some (.type "int") := by decide +kernel
theorem bb_bool : bootBuiltins "bool" = some (.type "bool") := by decide +kernel
theorem bb_str : bootBuiltins "str" = some (.type "str") := by decide +kernel
theorem bb_list : bootBuiltins "list" = some (.type "list") := by decide +kernel
theorem bb_tuple : bootBuiltins "tuple" = some (.type "tuple") := by decide +kernel
theorem bb_set : bootBuiltins "set" = some (.type "set") := by decide +kernel
/-! ### within a block: the written part by its own name -/
section
variable {X : Cx} {K : PySem.W.Frag}
theorem pg_tupK {es : List Expr} {k : Nat} {t : TGs} {n : Nat} {pos : Pos} (hK : X.K = K) (hc : X.calm = true) (h : PGs X es t) (hn : (assignEach es X.env).length = n) (hst : (assignEach es X.env).findIdx? (·.1) = none) : PG X (.Tuple es k pos) (gTup K n t) := by
  subst hK
  exact pg_tup hc h hn hst
theorem ix_listK (hK : X.K = K) : IxR X (rIxL K) := by subst hK; exact ix_list
theorem ix_tupK (hK : X.K = K) : IxR X (rIxT K) := by subst hK; exact ix_tup
theorem len_seqK (hK : X.K = K) : CallR X (.builtin "len") (fun xs H Q => ∃ p ys, xs = [.ref p] ∧ (SqL K H p ys ∨ SqT K H p ys) ∧ Q (.int ys.length) H) := by subst hK; exact call_len_seq
theorem list_ofK (hK : X.K = K) : CallR X (.type "list") (fun xs H Q => ∃ p ys, xs = [.ref p] ∧ (SqL K H p ys ∨ SqT K H p ys) ∧ ∀ l, H l = none → Q (.ref l) (upd H l (.lst ys))) := by subst hK; exact call_list_of
theorem op_eqRK {α : Type} [DecidableEq α] (R : Rep α) (hK : X.K = K) (hu : X.A.units + R.dep < cLine) : OpR X (compareOp .Eq) (rEqR R K) := by subst hK; exact op_eqR R hu
theorem op_neRK {α : Type} [DecidableEq α] (R : Rep α) (hK : X.K = K) (hu : X.A.units + R.dep < cLine) : OpR X (compareOp .NotEq) (rNeR R K) := by subst hK; exact op_neR R hu
theorem isinstK (hK : X.K = K) : CallR X (.builtin "isinstance") (fun xs H Q => ∃ (x : V) (n : String) (t : Value) (b : Bool), xs = [x, .ty n] ∧ TyOf K H x t ∧ PySem.W.kitOne K t (.type n) = some b ∧ Q (.bl b) H) := by subst hK; exact call_isinst
theorem pi_listK {l tg : Expr} {tl : TE} (hK : X.K = K) (hl : PE X l tl) : PI X tg l (iList K tl) := by subst hK; exact pi_list hl
end
/-! ### a heap without one object -/
def del (H : Hp) (p : Addr) : Hp := fun b => if b = p then none else H b
theorem del_same {H : Hp} {p : Addr} : del H p p = none := by unfold del; rw [if_pos rfl]
theorem del_ne {H : Hp} {p b : Addr} (h : b ≠ p) : del H p b = H b := by unfold del; rw [if_neg h]
theorem del_upd {H : Hp} {p : Addr} {o : HO} : del (upd H p o) p = del H p := by
  funext b
  unfold del
  by_cases h : b = p
  · rw [if_pos h, if_pos h]
  · rw [if_neg h, if_neg h, upd_ne h]
theorem Same.del {H : Hp} {p : Addr} : Same (del H p) H := fun b o h => by
  by_cases e : b = p
  · subst e; rw [del_same] at h; cases h
  · rw [del_ne e] at h; exact h
theorem Same.into_del {G H : Hp} {p : Addr} (e : Same G H) (h : G p = none) : Same G (L2.del H p) := fun b o q => by
  rw [del_ne (ne_of_none q h)]
  exact e b o q
theorem Same.new {H : Hp} {p : Addr} {o : HO} (h : H p = none) : Same H (upd H p o) := (Same.refl H).upd_new h
/-- a list that is being made: its items stand apart from it -/
structure Mk1 {α : Type} [DecidableEq α] (R : Rep α) (K : PySem.W.Frag) (H : Hp) (p : Addr) (xs : List V) (as : List α) : Prop where
  at_ : H p = some (.lst xs)
  its : Paired (R.rel K (L2.del H p)) xs as
theorem Mk1.rel {α : Type} [DecidableEq α] {R : Rep α} {K : PySem.W.Frag} {H : Hp} {p : Addr} {xs : List V} {as : List α} (m : Mk1 R K H p xs as) : (repList R).rel K H (.ref p) as :=
  ⟨p, xs, rfl, m.at_, Paired.mapP m.its fun _ _ q => R.mono Same.del q⟩
theorem Mk1.nil {α : Type} [DecidableEq α] {R : Rep α} {K : PySem.W.Frag} {H : Hp} {p : Addr} : Mk1 R K (upd H p (.lst [])) p [] ([] : List α) := ⟨upd_same, .nil⟩
/-- one more: x, a thing of a heap that holds all but the list -/
theorem Mk1.snoc {α : Type} [DecidableEq α] {R : Rep α} {K : PySem.W.Frag} {H H' : Hp} {p : Addr} {xs : List V} {as : List α} {x : V} {a : α} (m : Mk1 R K H p xs as) (e : Same (L2.del H p) (L2.del H' p)) (r : R.rel K (L2.del H' p) x a) :
    Mk1 R K (upd H' p (.lst (xs ++ [x]))) p (xs ++ [x]) (as ++ [a]) := ⟨upd_same, by rw [del_upd]; exact papp (Paired.mapP m.its fun _ _ q => R.mono e q) (.cons r .nil)⟩
/-- something else comes to be -/
theorem Mk1.keep {α : Type} [DecidableEq α] {R : Rep α} {K : PySem.W.Frag} {H H' : Hp} {p : Addr} {xs : List V} {as : List α} (m : Mk1 R K H p xs as) (e : Same H H') : Mk1 R K H' p xs as :=
  ⟨e _ _ m.at_, Paired.mapP m.its fun _ _ q => R.mono (Same.into_del (Same.del.trans e) del_same) q⟩
theorem same_del {H H' : Hp} {p : Addr} (e : Same H H') : Same (L2.del H p) (L2.del H' p) := Same.into_del (Same.del.trans e) del_same
theorem tyV_list {K : PySem.W.Frag} {p : Addr} {H : Hp} : tyV K "list" (.ref p) H ↔ ∃ xs, SqL K H p xs := by
  unfold tyV
  constructor
  · rintro (⟨_, h⟩ | ⟨h, _⟩ | ⟨h, _⟩ | ⟨h, _⟩)
    · exact h
    · exact absurd h (by decide)
    · exact absurd h (by decide)
    · exact absurd h (by decide)
  · exact fun h => .inl ⟨rfl, h⟩
/-- // by a positive divisor of up to 64 bits -/
def CDivB (_i j : Int) : Prop := 0 < j ∧ j < 18446744073709551616
theorem op_fdivB {X : Cx} : OpR X (binaryOp .FloorDiv) (rI CDivB fun i j => .int (i / j)) := opI fun i j _ _ _ _ _ hc q => by
  have h1 : (0 : Int) < j := hc.1
  have h2 : j < 18446744073709551616 := hc.2
  refine floordiv_int (by omega) (by rw [Int.fdiv_eq_ediv_of_nonneg i (by omega)]; exact q) (.inl (PyProof.noPylong_of_log2 ?_))
  have h3 : j.natAbs < 2 ^ 64 := by
    have : (2 : Nat) ^ 64 = 18446744073709551616 := by decide
    omega
  exact Nat.lt_trans ((Nat.log2_lt (by omega)).mpr h3) (by decide)
theorem p18 : ((10 : Int) ^ (18 : Int).toNat) = 1000000000000000000 := by decide
theorem line_le {n : Nat} (h : n ≤ 1000) : n ≤ sizeLine := Nat.le_of_lt (small1000 h)
end L2
set_option Elab.async false
set_option linter.all false
set_option maxRecDepth 100000
set_option maxHeartbeats 4000000
/-! for k, x in enumerate(xs) -/
namespace L2
open PySem PySem.Spec PyProof.Rows
theorem Un.laidX {fs ex : List Addr} {H : Hp} {h h' : Heap} {a : Addr} {o : HO} (k : ∀ b u, b ∉ ex → h.get? b = some u → h'.get? b = some u) (hp : h.objs.size ≤ a) (hn : H a = none) : Un fs ex H (upd H a o) h h' where
  keep := fun b u q _ _ hx => k b u hx q
  slot := fun b u q _ _ hx => ⟨u.slots, k b u hx q⟩
  free := fun b u q n _ => by rw [upd_ne (Nat.ne_of_lt (Nat.lt_of_lt_of_le (Heap.lt_size q) hp))]; exact n
  there := fun b u q hx => ⟨u, k b u hx q⟩
  tups := fun b xs q => by rw [upd_ne (ne_of_none q hn)]; exact q
  frzs := fun b u xs q => by rw [upd_ne (ne_of_none q hn)]; exact q
  tbls := fun b ps q => ⟨#[], by rw [upd_ne (ne_of_none q hn), q]; simp⟩
theorem HOk.laidX {P : Program} {w : World} {H : Hp} {h h' : Heap} {a : Addr} {o : HO} {ex : List Addr} (x : HOk P w H h) (k : ∀ b u, b ∉ ex → h.get? b = some u → h'.get? b = some u) (hx : ∀ b ∈ ex, H b = none) (hp : h.objs.size ≤ a)
    (new : ObjOk P w (upd H a o) h' a o) : HOk P w (upd H a o) h' := fun b u e => by
  have hn := x.fresh hp
  by_cases hb : b = a
  · subst hb; rw [upd_same] at e; cases e; exact new
  · rw [upd_ne hb] at e
    refine (x b u e).stay (fun c v hc q => k c v (fun z => ?_) q) (fun c q => by rw [upd_ne (ne_of_none q hn)]; exact q) fun c xs q => by rw [upd_ne (ne_of_none q hn)]; exact q
    have := hx c z
    rcases hc with hc | hc
    · rw [hc, e] at this; cases this
    · rw [hc] at this; cases this
/-- the number and the item, a new pair each time -/
def Ite (K : PySem.W.Frag) (a : Addr) : It :=
  ⟨fun i H => ∃ xs x, SqL K H a xs ∧ xs[i]? = some x, fun i H y H' => ∃ t x, y = .ref t ∧ H t = none ∧ H' = upd H t (.tup [.int i, x]) ∧ ∀ xs, SqL K H a xs → xs[i]? = some x, fun i H => ∃ xs, SqL K H a xs ∧ xs.length ≤ i⟩
theorem turn_enum {P : Program} {w : World} {K : PySem.W.Frag} {es : List Expr} {k : Nat} {pos : Pos} (a e it : Addr) (hne : e ≠ it) :
    Turn P w K (.Tuple es k pos) (Ite K a) [e, it] e (fun i h => (∃ old, IsEnum h e it i old) ∧ h.IsListIter it a i) where
  mem := by simp
  obj := fun i h st b hb => by
    obtain ⟨⟨old, he⟩, o, ho, _, d⟩ := st
    rcases List.mem_cons.mp hb with rfl | hb
    · exact ⟨_, he, fun v z => by
        have z' : Data.fields _ = Data.cell v := z
        cases z'⟩
    · rw [List.mem_singleton.mp hb]
      exact ⟨o, ho, fun v z => by rw [d] at z; cases z⟩
  keep := fun i h h' st k => by
    obtain ⟨⟨old, he⟩, hit⟩ := st
    exact ⟨⟨old, k e (by simp) _ he⟩, hit.at fun o q => k it (by simp) o q⟩
  item := by
    intro X hP hw hK hc i pins s σ H E I hf st hg
    subst hP hw hK
    obtain ⟨xs, x, hq, hx⟩ := hg
    obtain ⟨its, rv, p, hz⟩ := I.list hq
    obtain ⟨u, hu, ru⟩ := rv.get hx
    obtain ⟨⟨old, he⟩, hit⟩ := st
    have fe := hf e (by simp)
    have fi := hf it (by simp)
    refine wpAny_pyNext_enum_item he hit p.isList (x := u) (by simpa using hu) hne fun h1 heo hit1 ht1 hz1 hk1 => ⟨_, rfl, ?_⟩
    refine wpAny_letOwnedTupleGo_enum heo fun h2 he2 hs2 => ?_
    have hs2 : Heap.SameBut e h1 h2 := hs2
    have hel : e < s.heap.objs.size := Heap.lt_size he
    have k2 : ∀ b o, b ∉ [e, it] → s.heap.get? b = some o → h2.get? b = some o := fun b o hb q =>
      (hs2.2 b fun z => hb (by simp [z])).trans (hk1 b o (fun z => hb (by simp [z])) (fun z => hb (by simp [z])) q)
    have hn : H s.heap.objs.size = none := I.hok.fresh (Nat.le_refl _)
    have ht2 : h2.get? s.heap.objs.size = some { cls := .type "tuple", data := .seq #[.int i s.toks, u] } := (hs2.2 _ (Nat.ne_of_gt hel)).trans ht1
    have I2 : Inv X pins σ (upd H s.heap.objs.size (.tup [.int i, x])) { s with heap := h2, toks := s.toks + 1 } := by
      refine I.call (g' := s.gens) (t' := s.toks + 1) (d' := s.drawn) (ch := [e, it]) (Un.laidX k2 (Nat.le_refl _) hn) (I.hok.laidX k2 (fun b hb => (hf b hb).1) (Nat.le_refl _) ?_) I.bare (fun b hb => ?_)
      · exact ⟨by show 2 ≤ sizeLine; decide, [.int i s.toks, u], .cons ⟨_, rfl⟩ (.cons ru .nil), _, ht2, rfl, _, rfl⟩
      · obtain ⟨f0, f1, f2, f3, f4, f5⟩ := hf b hb
        exact ⟨f3, f1, f4, f5⟩
    refine ⟨.ref s.heap.objs.size, upd H s.heap.objs.size (.tup [.int i, x]), I2, rfl, ⟨_, x, rfl, hn, rfl, fun ys hy => by rw [I.list_inj hy hq]; exact hx⟩, ⟨⟨_, by simpa using he2⟩, hit1.at fun o q => (hs2.2 it hne.symm).trans q⟩, fun b hb => ?_⟩
    · have hlt : b < s.heap.objs.size := by
        rcases List.mem_cons.mp hb with rfl | hb
        · exact hel
        · rw [List.mem_singleton.mp hb]
          obtain ⟨o, ho, _⟩ := hit
          exact Heap.lt_size ho
      rw [upd_ne (Nat.ne_of_lt hlt)]
      exact (hf b hb).1
  done := by
    intro X hP hw hK hc i pins s σ H E I hf st hg
    subst hP hw hK
    obtain ⟨xs, hq, hx⟩ := hg
    obtain ⟨its, rv, p, hz⟩ := I.list hq
    obtain ⟨⟨old, he⟩, hit⟩ := st
    obtain ⟨f0, f1, f2, f3, f4, f5⟩ := hf it (by simp)
    have hl := rv.length
    exact wpAny_pyNext_enum_end (I.ok.hd hc) he hit p.isList (by simp; omega) fun h' eb => ⟨rfl, I.turned (t' := s.toks) (fun b o hb q => eb b o hb q) f0 f1 f3 f4 f5⟩
  self := fun _ _ _ _ _ st h => by
    obtain ⟨⟨old, he⟩, _⟩ := st
    exact wpAny_pyIter_enum he h
section
variable {X : Cx}
def iEnum (K : PySem.W.Frag) (ta : TA) : TI := fun σ H R => ta σ H fun vs H1 => ∃ a, vs = [.ref a] ∧ (∃ xs, SqL K H1 a xs) ∧ R (Ite K a) H1
theorem pi_enum {es : List Expr} {k : Nat} {tpos : Pos} {a : Expr} {ta : TA} {p pos : Pos} (hg : Gl X "enumerate") (hm : X.mg "enumerate" = none) (ha : PA X [a] ta) (hs : starEach [a] X.env = [(false, eval a X.env)] := by rfl) :
    PI X (.Tuple es k tpos) (.Call (.Name "enumerate" p) [a] [] pos) (iEnum X.K ta) := by
  intro pins s σ H R I h
  refine Call_ (ld_blt I hg hm boot_enumerate (PyProof.Rows.callWith_type1 (thn (ha pos pins s σ H _ I h) fun us s1 ⟨vs, H1, I1, r1, q1⟩ => ?_) hs rfl))
  obtain ⟨l, e, ⟨xs, hq⟩, q⟩ := q1
  subst e
  cases r1 with
  | cons r rr =>
    cases rr
    cases r
    obtain ⟨its, rv, p, hz⟩ := I1.list hq
    refine call_enumerate_list p.isList fun h' he hit hz' hk => ?_
    refine wpAny_pyIter_enum he ?_
    have I2 : Inv X pins σ H1 { s1 with heap := h' } := I1.kept (t' := s1.toks) hk
    refine ⟨s1.heap.objs.size + 1, [s1.heap.objs.size + 1, s1.heap.objs.size], _, _, H1, rfl, I2, turn_enum l _ _ (Nat.succ_ne_self _), ⟨⟨_, he⟩, hit⟩, fun b hb => ?_, q⟩
    have hb : s1.heap.objs.size ≤ b := by
      rcases List.mem_cons.mp hb with rfl | hb
      · omega
      · rw [List.mem_singleton.mp hb]
        exact Nat.le_refl _
    exact I1.fpOk hb (I1.hok.fresh hb)
theorem pi_enumK {K : PySem.W.Frag} {es : List Expr} {k : Nat} {tpos : Pos} {a : Expr} {ta : TA} {p pos : Pos} (hK : X.K = K) (hg : Gl X "enumerate") (hm : X.mg "enumerate" = none) (ha : PA X [a] ta) (hs : starEach [a] X.env = [(false, eval a X.env)] := by rfl) :
    PI X (.Tuple es k tpos) (.Call (.Name "enumerate" p) [a] [] pos) (iEnum K ta) := by subst hK; exact pi_enum hg hm ha hs
end
section
variable {g : TG} {tb : TS} {D : Ends} {σ : St} {H : Hp} {K : PySem.W.Frag}
theorem for_e {ta : TA} (h : ∀ R : List V → Hp → Prop, (∀ a xs H1, SqL K H1 a xs → LoopBy (Ite K a) g tb D σ H1 → R [.ref a] H1) → ta σ H R) : tFor (iEnum K ta) g tb D σ H :=
  h (fun vs H1 => ∃ a, vs = [.ref a] ∧ (∃ xs, SqL K H1 a xs) ∧ LoopBy (Ite K a) g tb D σ H1) fun a xs _ b c => ⟨a, rfl, ⟨xs, b⟩, c⟩
theorem loop_enum {a : Addr} {xs : List V} (Pv : Nat → St → Hp → Prop) (h0 : Pv 0 σ H) (hl : ∀ i σ H, i ≤ xs.length → Pv i σ H → SqL K H a xs)
    (hs : ∀ i x σ H t (N : St → Hp → Prop), xs[i]? = some x → H t = none → Pv i σ H → (∀ σ' H', Pv (i + 1) σ' H' → N σ' H') → g (.ref t) σ (upd H t (.tup [.int i, x])) fun σ2 H2 => tb { D with nx := N, ct := N, bk := D.nx } σ2 H2) (hd : ∀ σ H, Pv xs.length σ H → D.nx σ H) : LoopBy (Ite K a) g tb D σ H := by
  refine ⟨fun i m σ H => m = xs.length - i ∧ i ≤ xs.length ∧ Pv i σ H, ⟨xs.length, by simp, Nat.zero_le _, h0⟩, ?_⟩
  rintro i m σ H ⟨rfl, hi, p⟩
  have q := hl i σ H hi p
  by_cases hlt : i < xs.length
  · refine .inr ⟨⟨xs, xs[i], q, by simp [hlt]⟩, Pv (i + 1), fun σ' H' p' => ⟨xs.length - (i + 1), by omega, rfl, hlt, p'⟩, fun x H' y => ?_⟩
    obtain ⟨t, x', rfl, ht, rfl, hx⟩ := y
    exact hs i x' σ H t _ (hx xs q) ht p fun _ _ z => z
  · have e : i = xs.length := by omega
    subst e
    exact .inl ⟨⟨xs, q, Nat.le_refl _⟩, hd σ H p⟩
end
end L2
set_option Elab.async false
set_option linter.all false
/-! WHAT THE PROGRAM RECKONS, in plain Lean: no heap, no model. -/
namespace Cp
def met (bs : List Bool) (s : Int) : Bool := decide (bs.getD (s / 2).toNat false = decide (s % 2 = 0))
def worth (bs : List Bool) (ts : List (Int × Int)) : Int := ((ts.filter fun t => met bs t.2).map (·.1)).sum
theorem worth_snoc (bs : List Bool) (ts : List (Int × Int)) (t : Int × Int) : worth bs (ts ++ [t]) = worth bs ts + if met bs t.2 = true then t.1 else 0 := by
  unfold worth
  rw [List.filter_append, List.map_append, List.sum_append]
  by_cases h : met bs t.2 = true
  · simp [h]
  · simp [h]
theorem take_snoc {α : Type} {l : List α} {i : Nat} {a : α} (h : l[i]? = some a) : l.take (i + 1) = l.take i ++ [a] := by
  rw [List.take_add_one, h]
  rfl
def InFill (bs : List Bool) (ts : List (Int × Int)) : Prop := ∀ t ∈ ts, 0 ≤ t.2 ∧ t.2 / 2 < bs.length
theorem met_more (bs cs : List Bool) (s : Int) (h0 : 0 ≤ s) (h : s / 2 < bs.length) : met (bs ++ cs) s = met bs s := by
  unfold met
  rw [List.getD_eq_getElem?_getD, List.getD_eq_getElem?_getD, List.getElem?_append_left (by omega)]
def sumW (ts : List (Int × Int)) (s : Int) : Int := ((ts.filter fun t => decide (t.2 = s)).map (·.1)).sum
theorem sumW_snoc (ts : List (Int × Int)) (t : Int × Int) (s : Int) : sumW (ts ++ [t]) s = sumW ts s + if t.2 = s then t.1 else 0 := by
  unfold sumW
  rw [List.filter_append, List.map_append, List.sum_append]
  by_cases h : t.2 = s
  · simp [h]
  · simp [h]
theorem sumW_zero {ts : List (Int × Int)} {s : Int} (h : s ∉ ts.map (·.2)) : sumW ts s = 0 := by
  unfold sumW
  rw [List.filter_eq_nil_iff.mpr fun t ht => by simpa using fun e => h (List.mem_map.mpr ⟨t, ht, e⟩)]
  rfl
def tyT (y n u : Int) : List (Int × Int) := if n < y then [(y - n, 2 * u)] else if y < n then [(n - y, 2 * u + 1)] else []
def tidyT (ts : List (Int × Int)) (us : List Int) : List (Int × Int) := us.flatMap fun u => tyT (sumW ts (2 * u)) (sumW ts (2 * u + 1)) u
def tidyL (ts : List (Int × Int)) (us : List Int) : Int := (us.map fun u => min (sumW ts (2 * u)) (sumW ts (2 * u + 1))).sum
def un16 : List Int := (List.range 16).map fun (k : Nat) => (k : Int)
abbrev Row := List (Int × Int) × Int
def tidyR (r : Row) : Row := (tidyT r.1 un16, r.2 - tidyL r.1 un16)
def Sides (ts : List (Int × Int)) : Prop := ∀ t ∈ ts, 0 ≤ t.2 ∧ t.2 < 32
theorem tidyT_snoc (ts : List (Int × Int)) (us : List Int) (u : Int) : tidyT ts (us ++ [u]) = tidyT ts us ++ tyT (sumW ts (2 * u)) (sumW ts (2 * u + 1)) u := by
  unfold tidyT
  rw [List.flatMap_append]
  simp
theorem tidyL_snoc (ts : List (Int × Int)) (us : List Int) (u : Int) : tidyL ts (us ++ [u]) = tidyL ts us + min (sumW ts (2 * u)) (sumW ts (2 * u + 1)) := by
  unfold tidyL
  rw [List.map_append, List.sum_append]
  simp
theorem sorted_ext : ∀ {l m : List Int}, l.Pairwise (· < ·) → m.Pairwise (· < ·) → (∀ x, x ∈ l ↔ x ∈ m) → l = m
  | [], [], _, _, _ => rfl
  | [], b :: m, _, _, h => absurd ((h b).mpr List.mem_cons_self) (by simp)
  | a :: l, [], _, _, h => absurd ((h a).mp List.mem_cons_self) (by simp)
  | a :: l, b :: m, hl, hm, h => by
    obtain ⟨l1, l2⟩ := List.pairwise_cons.mp hl
    obtain ⟨m1, m2⟩ := List.pairwise_cons.mp hm
    have e : a = b := by
      rcases List.mem_cons.mp ((h a).mp List.mem_cons_self) with z | z
      · exact z
      · rcases List.mem_cons.mp ((h b).mpr List.mem_cons_self) with y | y
        · exact y.symm
        · have := m1 a z
          have := l1 b y
          omega
    subst e
    rw [sorted_ext l2 m2 fun x => ?_]
    constructor
    · intro hx
      rcases List.mem_cons.mp ((h x).mp (List.mem_cons_of_mem _ hx)) with z | z
      · have := l1 x hx
        omega
      · exact z
    · intro hx
      rcases List.mem_cons.mp ((h x).mpr (List.mem_cons_of_mem _ hx)) with z | z
      · have := m1 x hx
        omega
      · exact z
theorem un16_up : un16.Pairwise (· < ·) := by decide
theorem mem_un16 (x : Int) : x ∈ un16 ↔ 0 ≤ x ∧ x < 16 := by
  unfold un16
  rw [List.mem_map]
  constructor
  · rintro ⟨k, hk, rfl⟩
    rw [List.mem_range] at hk
    omega
  · rintro ⟨h0, h1⟩
    exact ⟨x.toNat, List.mem_range.mpr (by omega), by omega⟩
theorem flat_filter {β : Type} (f : Int → List β) (p : Int → Bool) : ∀ (l : List Int), (∀ x ∈ l, p x = false → f x = []) → (l.filter p).flatMap f = l.flatMap f
  | [], _ => rfl
  | a :: r, h => by
    have ih := flat_filter f p r fun x hx => h x (List.mem_cons_of_mem _ hx)
    cases e : p a with
    | true => simp [List.filter_cons, e, ih]
    | false => simp [List.filter_cons, e, ih, h a List.mem_cons_self e]
theorem sum_filter (f : Int → Int) (p : Int → Bool) : ∀ (l : List Int), (∀ x ∈ l, p x = false → f x = 0) → ((l.filter p).map f).sum = (l.map f).sum
  | [], _ => rfl
  | a :: r, h => by
    have ih := sum_filter f p r fun x hx => h x (List.mem_cons_of_mem _ hx)
    cases e : p a with
    | true => simp [List.filter_cons, e, ih]
    | false => simp [List.filter_cons, e, ih, h a List.mem_cons_self e]
theorem tidy_us {ts : List (Int × Int)} {us : List Int} (hs : Sides ts) (hu : us.Pairwise (· < ·)) (hm : ∀ x, x ∈ us ↔ ∃ t ∈ ts, t.2 / 2 = x) : tidyT ts us = tidyT ts un16 ∧ tidyL ts us = tidyL ts un16 := by
  have e : us = un16.filter fun x => decide (x ∈ us) := by
    refine sorted_ext hu (un16_up.sublist List.filter_sublist) fun x => ?_
    rw [List.mem_filter, mem_un16, decide_eq_true_iff]
    constructor
    · intro hx
      obtain ⟨t, ht, rfl⟩ := (hm x).mp hx
      have := hs t ht
      exact ⟨by omega, hx⟩
    · exact fun h => h.2
  have z : ∀ x, x ∉ us → sumW ts (2 * x) = 0 ∧ sumW ts (2 * x + 1) = 0 := fun x hx => by
    constructor
    · refine sumW_zero fun h => ?_
      obtain ⟨t, ht, q⟩ := List.mem_map.mp h
      exact hx ((hm x).mpr ⟨t, ht, by rw [q]; omega⟩)
    · refine sumW_zero fun h => ?_
      obtain ⟨t, ht, q⟩ := List.mem_map.mp h
      exact hx ((hm x).mpr ⟨t, ht, by rw [q]; omega⟩)
  constructor
  · unfold tidyT
    rw [e]
    refine flat_filter _ _ _ fun x _ hx => ?_
    obtain ⟨z1, z2⟩ := z x (by simpa using hx)
    rw [z1, z2]
    rfl
  · unfold tidyL
    rw [e]
    refine sum_filter _ _ _ fun x _ hx => ?_
    obtain ⟨z1, z2⟩ := z x (by simpa using hx)
    rw [z1, z2]
    rfl
theorem tyT_len (y n u : Int) : (tyT y n u).length ≤ 1 := by
  unfold tyT
  split
  · simp
  · split <;> simp
theorem tidyT_len (ts : List (Int × Int)) : ∀ us : List Int, (tidyT ts us).length ≤ us.length
  | [] => Nat.le_refl _
  | u :: us => by
    have ih := tidyT_len ts us
    have h1 := tyT_len (sumW ts (2 * u)) (sumW ts (2 * u + 1)) u
    have e : tidyT ts (u :: us) = tyT (sumW ts (2 * u)) (sumW ts (2 * u + 1)) u ++ tidyT ts us := by
      unfold tidyT
      simp
    rw [e, List.length_append, List.length_cons]
    omega
theorem nodup_len : ∀ (n : Nat) (ks : List Int), ks.Nodup → (∀ x ∈ ks, 0 ≤ x ∧ x < n) → ks.length ≤ n
  | 0, [], _, _ => Nat.le_refl _
  | 0, x :: r, _, h => by
    have := h x List.mem_cons_self
    omega
  | n + 1, ks, hn, h => by
    by_cases m : (n : Int) ∈ ks
    · have e := List.length_erase_of_mem m
      have ih := nodup_len n (ks.erase (n : Int)) (hn.erase _) fun x hx => by
        obtain ⟨z1, z2⟩ := (List.Nodup.mem_erase_iff hn).mp hx
        have := h x z2
        omega
      omega
    · have ih := nodup_len n ks hn fun x hx => by
        have := h x hx
        have : x ≠ n := fun z => m (z ▸ hx)
        omega
      omega
theorem up_of {us ks : List Int} (hp : us.Perm ks) (hs : us.Pairwise (· ≤ ·)) (hn : ks.Nodup) : us.Pairwise (· < ·) := by
  have h2 : us.Nodup := hp.nodup_iff.mpr hn
  exact List.Pairwise.imp₂ (fun a b h1 h2 => by omega) hs h2
/-! ### tidy rows -/
structure Tidy (ts : List (Int × Int)) : Prop where
  pos : ∀ t ∈ ts, 1 ≤ t.1
  up : (ts.map fun t => t.2 / 2).Pairwise (· < ·)
  sd : Sides ts
theorem sumW_cons (t : Int × Int) (ts : List (Int × Int)) (s : Int) : sumW (t :: ts) s = (if t.2 = s then t.1 else 0) + sumW ts s := by
  unfold sumW
  by_cases h : t.2 = s <;> simp [h]
theorem sumW_app (ts us : List (Int × Int)) (s : Int) : sumW (ts ++ us) s = sumW ts s + sumW us s := by
  unfold sumW
  simp
theorem worth_nil (bs : List Bool) : worth bs [] = 0 := rfl
theorem worth_cons (bs : List Bool) (t : Int × Int) (ts : List (Int × Int)) : worth bs (t :: ts) = (if met bs t.2 = true then t.1 else 0) + worth bs ts := by
  unfold worth
  by_cases h : met bs t.2 = true <;> simp [h]
theorem worth_app (bs : List Bool) (ts us : List (Int × Int)) : worth bs (ts ++ us) = worth bs ts + worth bs us := by
  unfold worth
  simp
theorem ty_abs {y n u : Int} (h : ¬ y = n) : tyT y n u = [(if y - n < 0 then -(y - n) else y - n, 2 * u + if y < n then 1 else 0)] := by
  unfold tyT
  by_cases h1 : n < y
  · rw [if_pos h1, if_neg (show ¬ y - n < 0 by omega), if_neg (show ¬ y < n by omega), Int.add_zero]
  · rw [if_neg h1, if_pos (show y < n by omega), if_pos (show y - n < 0 by omega), if_pos (show y < n by omega)]
    rw [show -(y - n) = n - y by omega]
theorem mem_tyT {y n u : Int} {t : Int × Int} (h : t ∈ tyT y n u) : 1 ≤ t.1 ∧ t.2 / 2 = u ∧ (t.2 = 2 * u ∨ t.2 = 2 * u + 1) ∧ (y ≠ 0 ∨ n ≠ 0) := by
  unfold tyT at h
  split at h
  · rw [List.mem_singleton] at h
    subst h
    exact ⟨by show 1 ≤ y - n; omega, by show 2 * u / 2 = u; omega, .inl rfl, by omega⟩
  · split at h
    · rw [List.mem_singleton] at h
      subst h
      exact ⟨by show 1 ≤ n - y; omega, by show (2 * u + 1) / 2 = u; omega, .inr rfl, by omega⟩
    · simp at h
theorem sumW_ne {ts : List (Int × Int)} {s : Int} (h : sumW ts s ≠ 0) : ∃ t ∈ ts, t.2 = s := by
  by_cases m : s ∈ ts.map (·.2)
  · obtain ⟨t, ht, e⟩ := List.mem_map.mp m
    exact ⟨t, ht, e⟩
  · exact absurd (sumW_zero m) h
theorem mem_tidyT {ts : List (Int × Int)} {us : List Int} {t : Int × Int} (h : t ∈ tidyT ts us) : 1 ≤ t.1 ∧ t.2 / 2 ∈ us ∧ ∃ x ∈ ts, x.2 / 2 = t.2 / 2 := by
  unfold tidyT at h
  obtain ⟨u, hu, ht⟩ := List.mem_flatMap.mp h
  obtain ⟨h1, h2, _, h4⟩ := mem_tyT ht
  refine ⟨h1, h2 ▸ hu, ?_⟩
  rcases h4 with z | z
  · obtain ⟨x, hx, e⟩ := sumW_ne z
    exact ⟨x, hx, by omega⟩
  · obtain ⟨x, hx, e⟩ := sumW_ne z
    exact ⟨x, hx, by omega⟩
theorem up_tidyT (ts : List (Int × Int)) : ∀ {us : List Int}, us.Pairwise (· < ·) → ((tidyT ts us).map fun t => t.2 / 2).Pairwise (· < ·)
  | [], _ => .nil
  | u :: us, h => by
    obtain ⟨h1, h2⟩ := List.pairwise_cons.mp h
    have e : tidyT ts (u :: us) = tyT (sumW ts (2 * u)) (sumW ts (2 * u + 1)) u ++ tidyT ts us := by
      unfold tidyT
      simp
    rw [e, List.map_append, List.pairwise_append]
    refine ⟨?_, up_tidyT ts h2, fun a ha b hb => ?_⟩
    · unfold tyT
      split
      · simp
      · split <;> simp
    · obtain ⟨x, hx, rfl⟩ := List.mem_map.mp ha
      obtain ⟨y, hy, rfl⟩ := List.mem_map.mp hb
      have z1 := (mem_tyT hx).2.1
      have z2 := h1 _ (mem_tidyT hy).2.1
      omega
theorem tidy_tidyT {ts : List (Int × Int)} (h : Sides ts) : Tidy (tidyT ts un16) where
  pos := fun t ht => (mem_tidyT ht).1
  up := up_tidyT ts un16_up
  sd := fun t ht => by
    obtain ⟨_, h1, _⟩ := mem_tidyT ht
    rw [mem_un16] at h1
    omega
theorem tidyT_sides {n : Int} {ts : List (Int × Int)} {us : List Int} (h : ∀ t ∈ ts, 0 ≤ t.2 ∧ t.2 < 2 * n) : ∀ t ∈ tidyT ts us, 0 ≤ t.2 ∧ t.2 < 2 * n := fun t ht => by
  obtain ⟨_, _, x, hx, e⟩ := mem_tidyT ht
  have := h x hx
  omega
/-- a side's weight, where each unknown stands once -/
theorem sumW_once : ∀ {ts : List (Int × Int)}, (ts.map fun t => t.2 / 2).Pairwise (· < ·) → ∀ t ∈ ts, sumW ts t.2 = t.1 ∧ ∀ s, s / 2 = t.2 / 2 → s ≠ t.2 → sumW ts s = 0
  | [], _, t, ht => absurd ht (by simp)
  | a :: ts, h, t, ht => by
    rw [List.map_cons] at h
    obtain ⟨h1, h2⟩ := List.pairwise_cons.mp h
    have far : ∀ x ∈ ts, a.2 / 2 < x.2 / 2 := fun x hx => h1 _ (List.mem_map.mpr ⟨x, hx, rfl⟩)
    rcases List.mem_cons.mp ht with e | m
    · subst e
      have z : ∀ s, s / 2 = t.2 / 2 → sumW ts s = 0 := fun s hs => by
        refine sumW_zero fun q => ?_
        obtain ⟨x, hx, e⟩ := List.mem_map.mp q
        have := far x hx
        rw [e] at this
        omega
      refine ⟨?_, fun s hs hn => ?_⟩
      · rw [sumW_cons, if_pos rfl, z _ rfl, Int.add_zero]
      · rw [sumW_cons, if_neg (Ne.symm hn), z _ hs]
        rfl
    · obtain ⟨i1, i2⟩ := sumW_once h2 t m
      have fa := far t m
      refine ⟨?_, fun s hs hn => ?_⟩
      · rw [sumW_cons, if_neg (fun e => by rw [e] at fa; omega), i1, Int.zero_add]
      · rw [sumW_cons, if_neg (fun e => by rw [e] at fa; omega), i2 s hs hn]
        rfl
theorem tidyT_self : ∀ (us : List (Int × Int)) (ts : List (Int × Int)), (∀ t ∈ us, 1 ≤ t.1 ∧ 0 ≤ t.2 ∧ sumW ts t.2 = t.1 ∧ ∀ s, s / 2 = t.2 / 2 → s ≠ t.2 → sumW ts s = 0) →
    tidyT ts (us.map fun t => t.2 / 2) = us ∧ tidyL ts (us.map fun t => t.2 / 2) = 0
  | [], ts, _ => ⟨rfl, rfl⟩
  | a :: us, ts, h => by
    obtain ⟨i1, i2⟩ := tidyT_self us ts fun t ht => h t (List.mem_cons_of_mem _ ht)
    obtain ⟨h1, h0, h2, h3⟩ := h a List.mem_cons_self
    have e : tidyT ts ((a :: us).map fun t => t.2 / 2) = tyT (sumW ts (2 * (a.2 / 2))) (sumW ts (2 * (a.2 / 2) + 1)) (a.2 / 2) ++ tidyT ts (us.map fun t => t.2 / 2) := by
      unfold tidyT
      simp
    have e2 : tidyL ts ((a :: us).map fun t => t.2 / 2) = min (sumW ts (2 * (a.2 / 2))) (sumW ts (2 * (a.2 / 2) + 1)) + tidyL ts (us.map fun t => t.2 / 2) := by
      unfold tidyL
      simp
    rw [e, e2, i1, i2]
    by_cases q : a.2 % 2 = 0
    · have z1 : 2 * (a.2 / 2) = a.2 := by omega
      have z2 := h3 (2 * (a.2 / 2) + 1) (by omega) (by omega)
      rw [z2, z1, h2]
      unfold tyT
      rw [if_pos (by omega)]
      refine ⟨?_, by omega⟩
      rw [z1, Int.sub_zero]
      rfl
    · have z1 : 2 * (a.2 / 2) + 1 = a.2 := by omega
      have z2 := h3 (2 * (a.2 / 2)) (by omega) (by omega)
      rw [z2, z1, h2]
      unfold tyT
      rw [if_neg (by omega), if_pos (by omega)]
      refine ⟨?_, by omega⟩
      rw [z1, Int.sub_zero]
      rfl
theorem tidyR_self {ts : List (Int × Int)} {l : Int} (h : Tidy ts) : tidyR (ts, l) = (ts, l) := by
  have hm : ∀ x, x ∈ (ts.map fun t => t.2 / 2) ↔ ∃ t ∈ ts, t.2 / 2 = x := fun x => List.mem_map
  obtain ⟨e1, e2⟩ := tidy_us h.sd h.up hm
  obtain ⟨i1, i2⟩ := tidyT_self ts ts fun t ht => ⟨h.pos t ht, (h.sd t ht).1, sumW_once h.up t ht⟩
  unfold tidyR
  show (tidyT ts un16, l - tidyL ts un16) = (ts, l)
  rw [← e1, ← e2, i1, i2, Int.sub_zero]
theorem tidyR_twice {r : Row} (h : Sides r.1) : tidyR (tidyR r) = tidyR r := tidyR_self (tidy_tidyT h)
/-! ### where rows hold -/
theorem met_yes (bs : List Bool) (u : Int) (h : 0 ≤ u) : met bs (2 * u) = bs.getD u.toNat false := by
  unfold met
  rw [show 2 * u / 2 = u by omega, show decide (2 * u % 2 = 0) = true from decide_eq_true (by omega)]
  cases bs.getD u.toNat false <;> rfl
theorem met_no (bs : List Bool) (u : Int) (h : 0 ≤ u) : met bs (2 * u + 1) = !bs.getD u.toNat false := by
  unfold met
  rw [show (2 * u + 1) / 2 = u by omega, show decide ((2 * u + 1) % 2 = 0) = false from decide_eq_false (by omega)]
  cases bs.getD u.toNat false <;> rfl
def pick (bs : List Bool) (u y n : Int) : Int := if bs.getD u.toNat false = true then y else n
theorem sum_add : ∀ (us : List Int) (f g : Int → Int), (us.map fun u => f u + g u).sum = (us.map f).sum + (us.map g).sum
  | [], _, _ => rfl
  | a :: us, f, g => by
    rw [List.map_cons, List.map_cons, List.map_cons, List.sum_cons, List.sum_cons, List.sum_cons, sum_add us f g]
    omega
theorem sum_one (c v : Int) : ∀ (us : List Int), us.Pairwise (· < ·) → v ∈ us → (us.map fun u => if u = v then c else 0).sum = c
  | [], _, h => absurd h (by simp)
  | a :: us, hp, h => by
    obtain ⟨h1, h2⟩ := List.pairwise_cons.mp hp
    rw [List.map_cons, List.sum_cons]
    rcases List.mem_cons.mp h with e | m
    · subst e
      rw [if_pos rfl]
      have : (us.map fun u => if u = v then c else 0).sum = 0 := by
        clear h hp h2
        induction us with
        | nil => rfl
        | cons b us ih =>
          have := h1 b List.mem_cons_self
          rw [List.map_cons, List.sum_cons, if_neg (by omega), ih fun x hx => h1 x (List.mem_cons_of_mem _ hx)]
          rfl
      omega
    · have := h1 v m
      rw [if_neg (by omega), sum_one c v us h2 m]
      omega
theorem sum_congr {us : List Int} {f g : Int → Int} (h : ∀ u ∈ us, f u = g u) : (us.map f).sum = (us.map g).sum := by
  rw [List.map_congr_left h]
theorem worth_by (bs : List Bool) {us : List Int} (hu : us.Pairwise (· < ·)) (h0 : ∀ u ∈ us, 0 ≤ u) : ∀ (ts : List (Int × Int)), (∀ t ∈ ts, t.2 / 2 ∈ us) →
    worth bs ts = (us.map fun u => pick bs u (sumW ts (2 * u)) (sumW ts (2 * u + 1))).sum
  | [], _ => by
    have : ∀ us : List Int, (us.map fun u => pick bs u (sumW [] (2 * u)) (sumW [] (2 * u + 1))).sum = 0 := fun us => by
      induction us with
      | nil => rfl
      | cons a us ih =>
        rw [List.map_cons, List.sum_cons, ih]
        unfold pick
        split <;> rfl
    rw [this]
    rfl
  | t :: ts, h => by
    have ih := worth_by bs hu h0 ts fun x hx => h x (List.mem_cons_of_mem _ hx)
    have hm := h t List.mem_cons_self
    have hn := h0 _ hm
    rw [worth_cons, ih]
    have e : ∀ u ∈ us, pick bs u (sumW (t :: ts) (2 * u)) (sumW (t :: ts) (2 * u + 1)) = (if u = t.2 / 2 then (if met bs t.2 = true then t.1 else 0) else 0) + pick bs u (sumW ts (2 * u)) (sumW ts (2 * u + 1)) := fun u hu => by
      rw [sumW_cons, sumW_cons]
      have u0 := h0 u hu
      by_cases q : u = t.2 / 2
      · rw [if_pos q]
        by_cases p : t.2 % 2 = 0
        · have e1 : t.2 = 2 * u := by omega
          rw [e1, met_yes bs u u0, if_pos rfl, if_neg (show ¬ 2 * u = 2 * u + 1 by omega)]
          unfold pick
          split <;> omega
        · have e1 : t.2 = 2 * u + 1 := by omega
          rw [e1, met_no bs u u0, if_pos rfl, if_neg (show ¬ 2 * u + 1 = 2 * u by omega)]
          unfold pick
          cases bs.getD u.toNat false <;> simp
      · rw [if_neg q, if_neg (show ¬ t.2 = 2 * u by omega), if_neg (show ¬ t.2 = 2 * u + 1 by omega), Int.zero_add, Int.zero_add, Int.zero_add]
    rw [sum_congr e, sum_add, sum_one _ _ us hu hm]
theorem worth_tyT (bs : List Bool) (y n u : Int) (h : 0 ≤ u) : worth bs (tyT y n u) = pick bs u y n - min y n := by
  unfold tyT
  split
  · rw [worth_cons, worth_nil, met_yes bs u h]
    unfold pick
    split <;> simp <;> omega
  · split
    · rw [worth_cons, worth_nil]
      show (if met bs (2 * u + 1) = true then n - y else 0) + 0 = _
      rw [met_no bs u h]
      unfold pick
      cases bs.getD u.toNat false <;> simp <;> omega
    · have : y = n := by omega
      subst this
      rw [worth_nil]
      unfold pick
      split <;> omega
theorem worth_tidyT (bs : List Bool) (ts : List (Int × Int)) : ∀ (us : List Int), (∀ u ∈ us, 0 ≤ u) → worth bs (tidyT ts us) = (us.map fun u => pick bs u (sumW ts (2 * u)) (sumW ts (2 * u + 1))).sum - tidyL ts us
  | [], _ => rfl
  | u :: us, h => by
    have ih := worth_tidyT bs ts us fun x hx => h x (List.mem_cons_of_mem _ hx)
    have e : tidyT ts (u :: us) = tyT (sumW ts (2 * u)) (sumW ts (2 * u + 1)) u ++ tidyT ts us := by
      unfold tidyT
      simp
    have e2 : tidyL ts (u :: us) = min (sumW ts (2 * u)) (sumW ts (2 * u + 1)) + tidyL ts us := by
      unfold tidyL
      simp
    rw [e, e2, worth_app, ih, worth_tyT bs _ _ u (h u List.mem_cons_self), List.map_cons, List.sum_cons]
    omega
theorem worth_tidy (bs : List Bool) {ts : List (Int × Int)} (h : Sides ts) : worth bs (tidyT ts un16) = worth bs ts - tidyL ts un16 := by
  have h0 : ∀ u ∈ un16, 0 ≤ u := fun u hu => ((mem_un16 u).mp hu).1
  rw [worth_tidyT bs ts un16 h0, worth_by bs un16_up h0 ts fun t ht => (mem_un16 _).mpr (by have := h t ht; omega)]
/-- the row holds of the filling -/
def Hold (bs : List Bool) (r : Row) : Prop := r.2 ≤ worth bs r.1
instance (bs : List Bool) (r : Row) : Decidable (Hold bs r) := inferInstanceAs (Decidable (_ ≤ _))
theorem hold_tidy (bs : List Bool) {r : Row} (h : Sides r.1) : Hold bs (tidyR r) ↔ Hold bs r := by
  unfold Hold tidyR
  show r.2 - tidyL r.1 un16 ≤ worth bs (tidyT r.1 un16) ↔ _
  rw [worth_tidy bs h]
  omega
/-! ### rows that come of rows -/
def addR (a b : Row) : Row := tidyR (a.1 ++ b.1, a.2 + b.2)
def timesR (r : Row) (k : Int) : Row := (r.1.map fun t => (t.1 * k, t.2), r.2 * k)
def cdiv (n k : Int) : Int := -(-n / k)
def cutR (r : Row) (k : Int) : Row := (r.1.map fun t => (cdiv t.1 k, t.2), cdiv r.2 k)
def sizedR (r : Row) : Row := if r.2 < 1 then r else (r.1.map fun t => (min t.1 r.2, t.2), r.2)
theorem sides_app {a b : List (Int × Int)} (ha : Sides a) (hb : Sides b) : Sides (a ++ b) := fun t ht => by
  rcases List.mem_append.mp ht with z | z
  · exact ha t z
  · exact hb t z
theorem cdiv_ge (n k : Int) (hk : 1 ≤ k) : n ≤ k * cdiv n k ∧ k * cdiv n k < n + k := by
  unfold cdiv
  have h1 := Int.mul_ediv_add_emod (-n) k
  have h2 := Int.emod_nonneg (-n) (show k ≠ 0 by omega)
  have h3 := Int.emod_lt_of_pos (-n) (show 0 < k by omega)
  have e : k * -(-n / k) = -(k * (-n / k)) := Int.mul_neg ..
  rw [e]
  omega
theorem cdiv_le {n k m : Int} (hk : 1 ≤ k) (h : n ≤ k * m) : cdiv n k ≤ m := by
  have h2 := (cdiv_ge n k hk).2
  have h3 : k * cdiv n k < k * (m + 1) := by
    rw [Int.mul_add, Int.mul_one]
    omega
  have := Int.lt_of_mul_lt_mul_left h3 (by omega)
  omega
/-! what stays tidy -/
theorem map_up {f : Int → Int} {ts : List (Int × Int)} : ((ts.map fun t => (f t.1, t.2)).map fun t => t.2 / 2) = ts.map fun t => t.2 / 2 := by
  rw [List.map_map]
  rfl
theorem Tidy.map {f : Int → Int} {ts : List (Int × Int)} (h : Tidy ts) (hf : ∀ x, 1 ≤ x → 1 ≤ f x) : Tidy (ts.map fun t => (f t.1, t.2)) where
  pos := fun t ht => by
    obtain ⟨x, hx, rfl⟩ := List.mem_map.mp ht
    exact hf _ (h.pos x hx)
  up := by rw [map_up]; exact h.up
  sd := fun t ht => by
    obtain ⟨x, hx, rfl⟩ := List.mem_map.mp ht
    exact h.sd x hx
theorem mul_pos1 {x k : Int} (h : 1 ≤ x) (hk : 1 ≤ k) : 1 ≤ x * k := by
  have := Int.mul_le_mul_of_nonneg_right h (show 0 ≤ k by omega)
  omega
theorem cdiv_pos1 {x k : Int} (h : 1 ≤ x) (hk : 1 ≤ k) : 1 ≤ cdiv x k := by
  have h1 := (cdiv_ge x k hk).1
  have : ¬ cdiv x k ≤ 0 := fun z => by
    have : k * cdiv x k ≤ 0 := Int.mul_nonpos_of_nonneg_of_nonpos (by omega) z
    omega
  omega
theorem tidy_tidyR {r : Row} (h : Sides r.1) : Tidy (tidyR r).1 := tidy_tidyT h
theorem tidy_addR {a b : Row} (ha : Sides a.1) (hb : Sides b.1) : Tidy (addR a b).1 := tidy_tidyT (sides_app ha hb)
theorem tidy_timesR {r : Row} {k : Int} (h : Tidy r.1) (hk : 1 ≤ k) : Tidy (timesR r k).1 := h.map (f := fun x => x * k) fun _ z => mul_pos1 z hk
theorem tidy_cutR {r : Row} {k : Int} (h : Tidy r.1) (hk : 1 ≤ k) : Tidy (cutR r k).1 := h.map (f := fun x => cdiv x k) fun _ z => cdiv_pos1 z hk
theorem tidy_sizedR {r : Row} (h : Tidy r.1) : Tidy (sizedR r).1 := by
  unfold sizedR
  split
  · exact h
  · exact h.map (f := fun x => min x r.2) fun _ z => by omega
theorem sides_map {f : Int → Int} {n : Int} {ts : List (Int × Int)} (h : ∀ t ∈ ts, 0 ≤ t.2 ∧ t.2 < n) : ∀ t ∈ (ts.map fun t => (f t.1, t.2)), 0 ≤ t.2 ∧ t.2 < n := fun t ht => by
  obtain ⟨x, hx, rfl⟩ := List.mem_map.mp ht
  exact h x hx
theorem Tidy.len {ts : List (Int × Int)} (h : Tidy ts) : ts.length ≤ 16 := by
  have nd : (ts.map fun t => t.2 / 2).Nodup := List.Pairwise.imp (R := (· < ·)) (fun {a b} z => by show a ≠ b; omega) h.up
  have := nodup_len 16 (ts.map fun t : Int × Int => t.2 / 2) nd fun x hx => by
    obtain ⟨t, ht, rfl⟩ := List.mem_map.mp hx
    have := h.sd t ht
    omega
  rwa [List.length_map] at this
/-! ### how the laws draw -/
def mixN : Nat → Int → Int
  | 0, m => m
  | n + 1, m => mixN n m * 48271 % 2147483647
def mixF (c : Int) (k : Nat) : Int := mixN (k + 2) (c % 2147483646 + 1)
def wtBy (g : Bool) (one : Int) : Int := if g = true then one / 64 % 2000001 - 1000000 else one / 64 % 19 - 9
def termBy (c u : Int) (k : Nat) : Int × Int := (wtBy (decide (c / 35 % 8 = 3)) (mixF c k), mixF c k % (2 * u))
def leastBy (c : Int) : Int := if decide (c / 35 % 8 = 3) = true then mixF c 99 / 16 % 2000001 - 1000000 else mixF c 99 / 16 % 16 - 6
def rowBy (c u size : Int) : Row := ((List.range (c % size).toNat).map (termBy c u), leastBy c)
theorem rowBy_sides {c u size : Int} (hu : 1 ≤ u) : ∀ t ∈ (rowBy c u size).1, 0 ≤ t.2 ∧ t.2 < 2 * u := fun t ht => by
  obtain ⟨k, _, rfl⟩ := List.mem_map.mp ht
  exact ⟨Int.emod_nonneg _ (by omega), Int.emod_lt_of_pos _ (by omega)⟩
theorem rowBy_len {c u size : Int} (hs : 1 ≤ size) : (rowBy c u size).1.length < size.toNat := by
  unfold rowBy
  rw [List.length_map, List.length_range]
  have := Int.emod_lt_of_pos c (show 0 < size by omega)
  omega
theorem sides_of {u : Int} {ts : List (Int × Int)} (hu : u ≤ 16) (h : ∀ t ∈ ts, 0 ≤ t.2 ∧ t.2 < 2 * u) : Sides ts := fun t ht => by
  have := h t ht
  omega
theorem up_cdiv (n k : Int) (hk : 1 ≤ k) : (if n / k * k < n then n / k + 1 else n / k) = cdiv n k := by
  obtain ⟨h1, h2⟩ := cdiv_ge n k hk
  have h3 := Int.mul_ediv_add_emod n k
  have h4 := Int.emod_nonneg n (show k ≠ 0 by omega)
  have h5 := Int.emod_lt_of_pos n (show 0 < k by omega)
  rw [Int.mul_comm (n / k) k]
  have key : ∀ a b : Int, k * a < k * b + k → a ≤ b := fun a b h => by
    have : k * a < k * (b + 1) := by rw [Int.mul_add, Int.mul_one]; exact h
    have := Int.lt_of_mul_lt_mul_left this (by omega)
    omega
  split
  · have e : k * (n / k + 1) = k * (n / k) + k := by rw [Int.mul_add, Int.mul_one]
    have a1 := key (n / k + 1) (cdiv n k) (by omega)
    have a2 := key (cdiv n k) (n / k + 1) (by omega)
    omega
  · have a1 := key (n / k) (cdiv n k) (by omega)
    have a2 := key (cdiv n k) (n / k) (by omega)
    omega
/-! ### all fillings -/
theorem inFill_of {u : Int} {bs : List Bool} {ts : List (Int × Int)} (hb : (bs.length : Int) = u) (h : ∀ t ∈ ts, 0 ≤ t.2 ∧ t.2 < 2 * u) : InFill bs ts := fun t ht => by
  have := h t ht
  exact ⟨this.1, by omega⟩
/-! ### papers -/
inductive Stp where
  | given (r : Int)
  | side (s : Int)
  | add (i j : Int)
  | times (i k : Int)
  | cut (i k : Int)
  | size (i : Int)
def Stp.good (rows here : Int) : Stp → Prop
  | .given r => 0 ≤ r ∧ r < rows
  | .side s => 0 ≤ s ∧ s ≤ 31
  | .add i j => (0 ≤ i ∧ i < here) ∧ 0 ≤ j ∧ j < here
  | .times i k => (0 ≤ i ∧ i < here) ∧ 1 ≤ k ∧ k ≤ 1000000000000000000
  | .cut i k => (0 ≤ i ∧ i < here) ∧ 1 ≤ k ∧ k ≤ 1000000000000000000
  | .size i => 0 ≤ i ∧ i < here
def row0 : Row := ([], 0)
def lineR (rows made : List Row) : Stp → Row
  | .given r => tidyR (rows.getD r.toNat row0)
  | .side s => ([(1, s)], 0)
  | .add i j => addR (made.getD i.toNat row0) (made.getD j.toNat row0)
  | .times i k => timesR (made.getD i.toNat row0) k
  | .cut i k => cutR (made.getD i.toNat row0) k
  | .size i => sizedR (made.getD i.toNat row0)
def linesR (rows : List Row) (paper : List Stp) : List Row := paper.foldl (fun made st => made ++ [lineR rows made st]) []
theorem linesR_snoc (rows : List Row) (paper : List Stp) (st : Stp) : linesR rows (paper ++ [st]) = linesR rows paper ++ [lineR rows (linesR rows paper) st] := by
  unfold linesR
  rw [List.foldl_append]
  rfl
theorem linesR_len (rows : List Row) : ∀ (n : Nat) (paper : List Stp), paper.length = n → (linesR rows paper).length = n
  | 0, paper, h => by
    rw [List.length_eq_zero_iff] at h
    rw [h]
    rfl
  | n + 1, paper, h => by
    have hne : paper ≠ [] := fun z => by rw [z] at h; simp at h
    rw [← List.dropLast_concat_getLast hne, linesR_snoc, List.length_append, linesR_len rows n _ (by rw [List.length_dropLast, h]; rfl)]
    rfl
/-- every step is good where it stands -/
def Goods (rows : Int) (paper : List Stp) : Prop := ∀ (i : Nat) (st : Stp), paper[i]? = some st → st.good rows i
theorem Goods.nil (rows : Int) : Goods rows [] := fun i st h => by simp at h
theorem Goods.snoc {rows : Int} {paper : List Stp} {st : Stp} (h : Goods rows paper) (g : st.good rows paper.length) : Goods rows (paper ++ [st]) := fun i s e => by
  by_cases hi : i < paper.length
  · rw [List.getElem?_append_left hi] at e
    exact h i s e
  · rw [List.getElem?_append_right (by omega)] at e
    by_cases z : i - paper.length = 0
    · rw [z] at e
      simp at e
      subst e
      have : i = paper.length := by omega
      rw [this]
      exact g
    · rw [List.getElem?_eq_none (by simp; omega)] at e
      cases e
theorem getD_mem {α : Type} {l : List α} {i : Int} {d : α} (h0 : 0 ≤ i) (h1 : i < l.length) : l.getD i.toNat d ∈ l := by
  rw [List.getD_eq_getElem?_getD, List.getElem?_eq_getElem (by omega)]
  exact List.getElem_mem _
theorem line_tidy {rows made : List Row} {st : Stp} (g : st.good rows.length made.length) (hr : ∀ r ∈ rows, Sides r.1) (hm : ∀ r ∈ made, Tidy r.1) : Tidy (lineR rows made st).1 := by
  cases st with
  | given r => exact tidy_tidyR (hr _ (getD_mem g.1 g.2))
  | side s =>
    have := g.1
    have := g.2
    exact ⟨fun t ht => by rw [List.mem_singleton.mp ht]; exact Int.le_refl 1, by simp [lineR], fun t ht => by rw [List.mem_singleton.mp ht]; exact ⟨g.1, by show s < 32; omega⟩⟩
  | add i j => exact tidy_addR (hm _ (getD_mem g.1.1 g.1.2)).sd (hm _ (getD_mem g.2.1 g.2.2)).sd
  | times i k => exact tidy_timesR (hm _ (getD_mem g.1.1 g.1.2)) g.2.1
  | cut i k => exact tidy_cutR (hm _ (getD_mem g.1.1 g.1.2)) g.2.1
  | size i => exact tidy_sizedR (hm _ (getD_mem g.1 g.2))
/-- the sides are of so many unknowns -/
def Of (u : Int) (r : Row) : Prop := ∀ t ∈ r.1, 0 ≤ t.2 ∧ t.2 < 2 * u
theorem Of.tidy {u : Int} {r : Row} (h : Of u r) : Of u (tidyR r) := tidyT_sides h
theorem Of.add {u : Int} {a b : Row} (ha : Of u a) (hb : Of u b) : Of u (addR a b) := tidyT_sides fun t ht => by
  rcases List.mem_append.mp ht with z | z
  · exact ha t z
  · exact hb t z
theorem Of.times {u k : Int} {r : Row} (h : Of u r) : Of u (timesR r k) := sides_map (f := fun x => x * k) h
theorem Of.cut {u k : Int} {r : Row} (h : Of u r) : Of u (cutR r k) := sides_map (f := fun x => cdiv x k) h
theorem Of.sized {u : Int} {r : Row} (h : Of u r) : Of u (sizedR r) := by
  unfold sizedR
  split
  · exact h
  · exact sides_map (f := fun x => min x r.2) h
theorem lines_all {rows : List Row} (F : Row → Prop) (hs : ∀ (made : List Row) (st : Stp), st.good rows.length made.length → (∀ r ∈ made, F r) → F (lineR rows made st)) : ∀ (n : Nat) (paper : List Stp), paper.length = n → Goods rows.length paper → ∀ r ∈ linesR rows paper, F r
  | 0, paper, h, _, r, hr => by
    rw [List.length_eq_zero_iff] at h
    rw [h] at hr
    simp [linesR] at hr
  | n + 1, paper, h, g, r, hr => by
    have hne : paper ≠ [] := fun z => by rw [z] at h; simp at h
    have e := List.dropLast_concat_getLast hne
    have hl : paper.dropLast.length = n := by rw [List.length_dropLast, h]; rfl
    have g1 : Goods rows.length paper.dropLast := fun i st q => g i st (by
      have hi : i < paper.dropLast.length := (List.getElem?_eq_some_iff.mp q).1
      rw [← e, List.getElem?_append_left hi]
      exact q)
    have g2 : (paper.getLast hne).good rows.length n := g n _ (by
      have q : (paper.dropLast ++ [paper.getLast hne])[n]? = some (paper.getLast hne) := by
        rw [List.getElem?_append_right (by omega), hl, Nat.sub_self]
        simp
      rw [e] at q
      exact q)
    have ih := lines_all F hs n _ hl g1
    rw [← e, linesR_snoc] at hr
    rcases List.mem_append.mp hr with z | z
    · exact ih r z
    · rw [List.mem_singleton.mp z]
      exact hs _ _ (by rw [linesR_len rows n _ hl]; exact g2) ih
theorem lines_tidy {rows : List Row} {paper : List Stp} (hr : ∀ r ∈ rows, Sides r.1) (g : Goods rows.length paper) : ∀ r ∈ linesR rows paper, Tidy r.1 :=
  lines_all (fun r => Tidy r.1) (fun _ _ g hm => line_tidy g hr hm) _ paper rfl g
end Cp
set_option Elab.async false
set_option linter.all false
/-! other sides, counts of met sides -/
namespace Cp
def otherS (s : Int) : Int := if s % 2 = 0 then s + 1 else s - 1
theorem otherS_bd {s u : Int} (h : 0 ≤ s ∧ s < 2 * u) : 0 ≤ otherS s ∧ otherS s < 2 * u := by
  unfold otherS
  split <;> omega
theorem otherS_half (s : Int) : otherS s / 2 = s / 2 := by
  unfold otherS
  split <;> omega
theorem met_other (bs : List Bool) (s : Int) : met bs (otherS s) = !met bs s := by
  unfold met
  rw [otherS_half]
  have h : decide (otherS s % 2 = 0) = !decide (s % 2 = 0) := by
    unfold otherS
    by_cases e : s % 2 = 0
    · rw [if_pos e, decide_eq_true e, decide_eq_false (by omega)]
      rfl
    · rw [if_neg e, decide_eq_false e, decide_eq_true (by omega)]
      rfl
  rw [h]
  cases bs.getD (s / 2).toNat false <;> cases decide (s % 2 = 0) <;> rfl
end Cp
set_option Elab.async false
set_option linter.all false
/-! fillings found: starts, what may still come, the search -/
namespace Cp
def failed (st : List Bool) (s : Int) : Bool := decide (s / 2 < st.length) && !met st s
def mostC (st : List Bool) (ts : List (Int × Int)) : Int := ((ts.filter fun t => !failed st t.2).map (·.1)).sum
def brokenAt (st : List Bool) (r : Row) : Bool := decide (mostC st r.1 < r.2)
def firstB (rows : List Row) (st : List Bool) : Option Nat := rows.findIdx? (brokenAt st)
def fillFrom (rows : List Row) : Nat → List Bool → Option (List Bool)
  | 0, st => if (firstB rows st).isSome = true then none else some st
  | n + 1, st => if (firstB rows st).isSome = true then none else match fillFrom rows n (st ++ [true]) with
    | some bs => some bs
    | none => fillFrom rows n (st ++ [false])
theorem mostC_cons (st : List Bool) (t : Int × Int) (ts : List (Int × Int)) : mostC st (t :: ts) = (if failed st t.2 = true then 0 else t.1) + mostC st ts := by
  unfold mostC
  by_cases h : failed st t.2 = true
  · rw [List.filter_cons_of_neg (by simp [h]), if_pos h, Int.zero_add]
  · rw [List.filter_cons_of_pos (by simp [h]), if_neg h, List.map_cons, List.sum_cons]
theorem mostC_snoc (st : List Bool) (t : Int × Int) (ts : List (Int × Int)) : mostC st (ts ++ [t]) = mostC st ts + if failed st t.2 = true then 0 else t.1 := by
  unfold mostC
  rw [List.filter_append, List.map_append, List.sum_append]
  by_cases h : failed st t.2 = true <;> simp [h]
theorem failed_met {st cs : List Bool} {s : Int} (h0 : 0 ≤ s) (h : failed st s = true) : met (st ++ cs) s = false := by
  unfold failed at h
  rw [Bool.and_eq_true, Bool.not_eq_true'] at h
  rw [met_more st cs s h0 (of_decide_eq_true h.1)]
  exact h.2
theorem worth_most {st cs : List Bool} : ∀ {ts : List (Int × Int)}, (∀ t ∈ ts, 0 ≤ t.1 ∧ 0 ≤ t.2) → worth (st ++ cs) ts ≤ mostC st ts
  | [], _ => Int.le_refl 0
  | t :: ts, h => by
    have ih := worth_most (st := st) (cs := cs) fun t ht => h t (List.mem_cons_of_mem _ ht)
    obtain ⟨h1, h2⟩ := h t List.mem_cons_self
    rw [worth_cons, mostC_cons]
    by_cases f : failed st t.2 = true
    · rw [if_pos f, failed_met h2 f]
      simpa using ih
    · rw [if_neg f]
      split <;> omega
theorem most_full {st : List Bool} : ∀ {ts : List (Int × Int)}, InFill st ts → mostC st ts = worth st ts
  | [], _ => rfl
  | t :: ts, h => by
    rw [worth_cons, mostC_cons, most_full fun t ht => h t (List.mem_cons_of_mem _ ht)]
    have e : failed st t.2 = !met st t.2 := by
      unfold failed
      rw [decide_eq_true (h t List.mem_cons_self).2, Bool.true_and]
    rw [e]
    cases met st t.2 <;> rfl
theorem firstB_some {rows : List Row} {st : List Bool} {i : Nat} (h : firstB rows st = some i) : ∃ r, rows[i]? = some r ∧ mostC st r.1 < r.2 := by
  obtain ⟨h1, h2, _⟩ := List.findIdx?_eq_some_iff_getElem.mp h
  exact ⟨rows[i], List.getElem?_eq_getElem h1, of_decide_eq_true h2⟩
theorem firstB_none {rows : List Row} {st : List Bool} (h : firstB rows st = none) : ∀ r ∈ rows, r.2 ≤ mostC st r.1 := fun r hr => by
  have := List.findIdx?_eq_none_iff.mp h r hr
  have := of_decide_eq_false this
  omega
theorem firstB_not {rows : List Row} {st cs : List Bool} {i : Nat} (hr : ∀ r ∈ rows, Tidy r.1) (h : firstB rows st = some i) : ∃ r ∈ rows, ¬ Hold (st ++ cs) r := by
  obtain ⟨r, h1, h2⟩ := firstB_some h
  have hm := List.mem_of_getElem? h1
  refine ⟨r, hm, fun z => ?_⟩
  have t := hr r hm
  have := worth_most (st := st) (cs := cs) (ts := r.1) fun t' ht => ⟨by have := t.pos t' ht; omega, (t.sd t' ht).1⟩
  unfold Hold at z
  omega
theorem fillFrom_some {rows : List Row} {u : Int} (hr : ∀ r ∈ rows, Of u r) : ∀ {n : Nat} {st bs : List Bool}, (st.length : Int) + n = u → fillFrom rows n st = some bs → (bs.length : Int) = u ∧ ∀ r ∈ rows, Hold bs r
  | 0, st, bs, hl, h => by
    unfold fillFrom at h
    cases e : firstB rows st with
    | some i => rw [e] at h; simp at h
    | none =>
      rw [e] at h
      simp at h
      subst h
      refine ⟨by omega, fun r hm => ?_⟩
      have := firstB_none e r hm
      rw [most_full (inFill_of (u := u) (by omega) (hr r hm))] at this
      exact this
  | n + 1, st, bs, hl, h => by
    unfold fillFrom at h
    cases e : firstB rows st with
    | some i => rw [e] at h; simp at h
    | none =>
      rw [e] at h
      simp at h
      cases e1 : fillFrom rows n (st ++ [true]) with
      | some b1 =>
        rw [e1] at h
        simp at h
        subst h
        exact fillFrom_some hr (by rw [List.length_append]; simp; omega) e1
      | none =>
        rw [e1] at h
        exact fillFrom_some hr (by rw [List.length_append]; simp; omega) h
theorem fillFrom_none {rows : List Row} (hr : ∀ r ∈ rows, Tidy r.1) : ∀ {n : Nat} {st : List Bool}, fillFrom rows n st = none → ∀ cs : List Bool, cs.length = n → ∃ r ∈ rows, ¬ Hold (st ++ cs) r
  | 0, st, h, cs, hc => by
    unfold fillFrom at h
    cases e : firstB rows st with
    | some i => exact firstB_not hr e
    | none => rw [e] at h; simp at h
  | n + 1, st, h, cs, hc => by
    unfold fillFrom at h
    cases e : firstB rows st with
    | some i => exact firstB_not hr e
    | none =>
      rw [e] at h
      simp at h
      cases e1 : fillFrom rows n (st ++ [true]) with
      | some b1 => rw [e1] at h; simp at h
      | none =>
        rw [e1] at h
        have h2 : fillFrom rows n (st ++ [false]) = none := h
        cases cs with
        | nil => simp at hc
        | cons c cs =>
          have hc2 : cs.length = n := by simpa using hc
          cases c with
          | true =>
            have := fillFrom_none hr e1 cs hc2
            rwa [List.append_assoc] at this
          | false =>
            have := fillFrom_none hr h2 cs hc2
            rwa [List.append_assoc] at this
/-- a filling of which all rows hold, or none -/
def meetR (u : Int) (rows : List Row) : Option (List Bool) := fillFrom (rows.map tidyR) u.toNat []
theorem meet_some {u : Int} {rows : List Row} {bs : List Bool} (hu : 0 ≤ u ∧ u ≤ 16) (hr : ∀ r ∈ rows, Of u r) (h : meetR u rows = some bs) : (bs.length : Int) = u ∧ ∀ r ∈ rows, Hold bs r := by
  have := fillFrom_some (u := u) (fun r hm => by
    obtain ⟨x, hx, rfl⟩ := List.mem_map.mp hm
    exact (hr x hx).tidy) (by simp; omega) h
  refine ⟨this.1, fun r hm => ?_⟩
  exact (hold_tidy bs (sides_of hu.2 (hr r hm))).mp (this.2 _ (List.mem_map_of_mem hm))
theorem meet_none {u : Int} {rows : List Row} (hu : 0 ≤ u ∧ u ≤ 16) (hr : ∀ r ∈ rows, Of u r) (h : meetR u rows = none) (bs : List Bool) (hb : (bs.length : Int) = u) : ∃ r ∈ rows, ¬ Hold bs r := by
  obtain ⟨r, hm, z⟩ := fillFrom_none (fun r hm => by
    obtain ⟨x, hx, rfl⟩ := List.mem_map.mp hm
    exact tidy_tidyR (sides_of hu.2 (hr x hx))) h bs (by omega)
  obtain ⟨x, hx, rfl⟩ := List.mem_map.mp hm
  exact ⟨x, hx, fun q => z ((hold_tidy bs (sides_of hu.2 (hr x hx))).mpr q)⟩
end Cp
set_option Elab.async false
set_option linter.all false
/-! lines that show: a broken row stripped, cut to ones; two such lines added -/
namespace Cp
/-- all weights and the least are 1 -/
structure Bare (r : Row) : Prop where
  ti : Tidy r.1
  wt : ∀ t ∈ r.1, t.1 = 1
  ls : r.2 = 1
theorem cdiv_one {w m : Int} (h1 : 1 ≤ w) (h2 : w ≤ m) : cdiv w m = 1 := by
  have hm : 1 ≤ m := by omega
  have a := cdiv_le (k := m) (n := w) (m := 1) hm (by omega)
  have b := cdiv_pos1 (x := w) (k := m) h1 hm
  omega
theorem bare_cut {r : Row} {m : Int} (h : Tidy r.1) (hl : 1 ≤ r.2) (hw : ∀ t ∈ r.1, t.1 ≤ m) (hm : r.2 ≤ m) : Bare (cutR r m) where
  ti := tidy_cutR h (by omega)
  wt := fun t ht => by
    obtain ⟨x, hx, rfl⟩ := List.mem_map.mp ht
    exact cdiv_one (h.pos x hx) (hw x hx)
  ls := cdiv_one hl hm
theorem cut_mem {r : Row} {m : Int} {t : Int × Int} (h : t ∈ (cutR r m).1) : ∃ x ∈ r.1, x.2 = t.2 := by
  obtain ⟨x, hx, rfl⟩ := List.mem_map.mp h
  exact ⟨x, hx, rfl⟩
theorem Tidy.sub {us ts : List (Int × Int)} (h : Tidy ts) (s : us.Sublist ts) : Tidy us where
  pos := fun t ht => h.pos t (s.subset ht)
  up := List.Pairwise.sublist (s.map _) h.up
  sd := fun t ht => h.sd t (s.subset ht)
theorem tidyT_self' {ts : List (Int × Int)} (h : Tidy ts) : tidyT ts un16 = ts ∧ tidyL ts un16 = 0 := by
  have e := tidyR_self (l := 0) h
  have e1 : tidyT ts un16 = ts := congrArg Prod.fst e
  have e2 : (0 : Int) - tidyL ts un16 = 0 := congrArg Prod.snd e
  exact ⟨e1, by omega⟩
theorem sumW_filter_ne {s u : Int} : ∀ ts : List (Int × Int), sumW (ts.filter fun t => decide (t.2 ≠ s)) u = if u = s then 0 else sumW ts u
  | [] => by simp [sumW]
  | t :: ts => by
    have ih := sumW_filter_ne (s := s) (u := u) ts
    by_cases e : t.2 = s
    · rw [List.filter_cons_of_neg (by simp [e]), ih, sumW_cons]
      by_cases eu : u = s
      · rw [if_pos eu, if_pos eu]
      · rw [if_neg eu, if_neg eu, if_neg (by omega), Int.zero_add]
    · rw [List.filter_cons_of_pos (by simp [e]), sumW_cons, sumW_cons, ih]
      by_cases eu : u = s
      · rw [if_pos eu, if_pos eu, if_neg (by omega), Int.zero_add]
      · rw [if_neg eu, if_neg eu]
theorem flat_congr {β : Type} {f g : Int → List β} : ∀ {l : List Int}, (∀ u ∈ l, f u = g u) → l.flatMap f = l.flatMap g
  | [], _ => rfl
  | x :: l, h => by
    rw [List.flatMap_cons, List.flatMap_cons, h x List.mem_cons_self, flat_congr fun u hu => h u (List.mem_cons_of_mem _ hu)]
/-- a term taken away by as much weight on the other side -/
theorem strip {ts : List (Int × Int)} {l w s : Int} (h : Tidy ts) (hm : (w, s) ∈ ts) :
    addR (ts, l) (timesR ([(1, otherS s)], 0) w) = (ts.filter (fun t => decide (t.2 ≠ s)), l - w) := by
  have s0 := h.sd _ hm
  have s0 : 0 ≤ s ∧ s < 32 := s0
  have wp : 1 ≤ w := h.pos _ hm
  obtain ⟨w1, w2⟩ := sumW_once h.up _ hm
  have w1 : sumW ts s = w := w1
  have w2 : ∀ x, x / 2 = s / 2 → x ≠ s → sumW ts x = 0 := w2
  have ht : Tidy (ts.filter fun t => decide (t.2 ≠ s)) := h.sub List.filter_sublist
  obtain ⟨t1, t2⟩ := tidyT_self' ht
  obtain ⟨t3, t4⟩ := tidyT_self' h
  show (tidyT (ts ++ [(1 * w, otherS s)]) un16, l + 0 * w - tidyL (ts ++ [(1 * w, otherS s)]) un16) = _
  have es : ∀ u, sumW (ts ++ [(1 * w, otherS s)]) u = sumW ts u + if otherS s = u then w else 0 := fun u => by
    rw [sumW_snoc, Int.one_mul]
  have o1 := otherS_half s
  have o2 : otherS s ≠ s := by
    unfold otherS
    split <;> omega
  have key : ∀ u ∈ un16, u ≠ s / 2 → sumW (ts ++ [(1 * w, otherS s)]) (2 * u) = sumW (ts.filter fun t => decide (t.2 ≠ s)) (2 * u) ∧ sumW (ts ++ [(1 * w, otherS s)]) (2 * u + 1) = sumW (ts.filter fun t => decide (t.2 ≠ s)) (2 * u + 1) := fun u _ hu => by
    rw [es, es, sumW_filter_ne, sumW_filter_ne, if_neg (by omega), if_neg (by omega), if_neg (by omega), if_neg (by omega)]
    omega
  have key2 : ∀ u ∈ un16, u = s / 2 → (sumW (ts ++ [(1 * w, otherS s)]) (2 * u) = w ∧ sumW (ts ++ [(1 * w, otherS s)]) (2 * u + 1) = w) ∧ (sumW (ts.filter fun t => decide (t.2 ≠ s)) (2 * u) = 0 ∧ sumW (ts.filter fun t => decide (t.2 ≠ s)) (2 * u + 1) = 0) := fun u _ hu => by
    have c : s = 2 * u ∧ otherS s = 2 * u + 1 ∨ s = 2 * u + 1 ∧ otherS s = 2 * u := by
      unfold otherS
      split <;> omega
    rw [es, es, sumW_filter_ne, sumW_filter_ne]
    rcases c with ⟨c1, c2⟩ | ⟨c1, c2⟩
    · rw [c2, ← c1, w1, if_neg (by omega), if_pos rfl, if_pos rfl, if_neg (by omega), w2 (s + 1) (by omega) (by omega)]
      omega
    · rw [c2, ← c1, w1, w2 (2 * u) (by omega) (by omega), if_pos rfl, if_neg (by omega), if_neg (by omega), if_pos rfl]
      omega
  refine Prod.ext ?_ ?_
  · refine Eq.trans ?_ t1
    refine flat_congr fun u hu => ?_
    by_cases e : u = s / 2
    · obtain ⟨⟨k1, k2⟩, k3, k4⟩ := key2 u hu e
      rw [k1, k2, k3, k4]
      unfold tyT
      rw [if_neg (by omega), if_neg (by omega), if_neg (by omega), if_neg (by omega)]
    · obtain ⟨k1, k2⟩ := key u hu e
      rw [k1, k2]
  · show l + 0 * w - tidyL (ts ++ [(1 * w, otherS s)]) un16 = l - w
    have : tidyL (ts ++ [(1 * w, otherS s)]) un16 = w := by
      have e1 : tidyL (ts ++ [(1 * w, otherS s)]) un16 = (un16.map fun u => min (sumW (ts.filter fun t => decide (t.2 ≠ s)) (2 * u)) (sumW (ts.filter fun t => decide (t.2 ≠ s)) (2 * u + 1)) + if u = s / 2 then w else 0).sum := by
        unfold tidyL
        refine sum_congr fun u hu => ?_
        by_cases e : u = s / 2
        · obtain ⟨⟨k1, k2⟩, k3, k4⟩ := key2 u hu e
          rw [k1, k2, k3, k4, if_pos e]
          omega
        · obtain ⟨k1, k2⟩ := key u hu e
          rw [k1, k2, if_neg e, Int.add_zero]
      rw [e1, sum_add, sum_one w (s / 2) un16 un16_up ((mem_un16 _).mpr (by omega))]
      have e2 : (un16.map fun u => min (sumW (ts.filter fun t => decide (t.2 ≠ s)) (2 * u)) (sumW (ts.filter fun t => decide (t.2 ≠ s)) (2 * u + 1))).sum = 0 := t2
      rw [e2, Int.zero_add]
    rw [this]
    omega
/-- a row of which the first i terms were looked at -/
def stripped (st : List Bool) (r : Row) (i : Nat) : Row := ((r.1.take i).filter (fun t => failed st t.2) ++ r.1.drop i, r.2 - mostC st (r.1.take i))
theorem stripped_zero (st : List Bool) (r : Row) : stripped st r 0 = r := by
  unfold stripped
  simp [mostC]
theorem stripped_tidy {st : List Bool} {r : Row} (h : Tidy r.1) (i : Nat) : Tidy (stripped st r i).1 := by
  refine h.sub ?_
  show ((r.1.take i).filter (fun t => failed st t.2) ++ r.1.drop i).Sublist r.1
  have := (List.filter_sublist (l := r.1.take i) (p := fun t => failed st t.2)).append (List.Sublist.refl (r.1.drop i))
  rwa [List.take_append_drop] at this
theorem drop_cons' {α : Type} {l : List α} {i : Nat} {a : α} (h : l[i]? = some a) : l.drop i = a :: l.drop (i + 1) := by
  obtain ⟨hi, e⟩ := List.getElem?_eq_some_iff.mp h
  rw [List.drop_eq_getElem_cons hi, e]
theorem stripped_fail {st : List Bool} {r : Row} {i : Nat} {t : Int × Int} (h : r.1[i]? = some t) (hf : failed st t.2 = true) : stripped st r (i + 1) = stripped st r i := by
  unfold stripped
  rw [take_snoc h, List.filter_append, mostC_snoc, if_pos hf, Int.add_zero, drop_cons' h]
  simp [hf]
theorem stripped_step {st : List Bool} {r : Row} {i : Nat} {t : Int × Int} (ht : Tidy r.1) (h : r.1[i]? = some t) (hf : ¬ failed st t.2 = true) :
    addR (stripped st r i) (timesR ([(1, otherS t.2)], 0) t.1) = stripped st r (i + 1) := by
  have hm : (t.1, t.2) ∈ (stripped st r i).1 := by
    show t ∈ (r.1.take i).filter (fun t => failed st t.2) ++ r.1.drop i
    rw [drop_cons' h]
    simp
  have e := strip (l := (stripped st r i).2) (stripped_tidy ht i) hm
  refine Eq.trans e ?_
  have el : r.1 = r.1.take i ++ t :: r.1.drop (i + 1) := by rw [← drop_cons' h, List.take_append_drop]
  have hup := ht.up
  rw [el, List.map_append, List.map_cons, List.pairwise_append] at hup
  obtain ⟨_, h2, h3⟩ := hup
  have n1 : ∀ x ∈ r.1.take i, x.2 ≠ t.2 := fun x hx z => by
    have := h3 (x.2 / 2) (List.mem_map_of_mem (f := fun t : Int × Int => t.2 / 2) hx) (t.2 / 2) List.mem_cons_self
    rw [z] at this
    omega
  have n2 : ∀ x ∈ r.1.drop (i + 1), x.2 ≠ t.2 := fun x hx z => by
    have := (List.pairwise_cons.mp h2).1 (x.2 / 2) (List.mem_map_of_mem (f := fun t : Int × Int => t.2 / 2) hx)
    rw [z] at this
    omega
  refine Prod.ext ?_ ?_
  · show ((r.1.take i).filter (fun t => failed st t.2) ++ r.1.drop i).filter (fun x => decide (x.2 ≠ t.2)) = (r.1.take (i + 1)).filter (fun t => failed st t.2) ++ r.1.drop (i + 1)
    rw [drop_cons' h, take_snoc h, List.filter_append, List.filter_append, List.filter_cons_of_neg (by simp)]
    rw [show (r.1.drop (i + 1)).filter (fun x => decide (x.2 ≠ t.2)) = r.1.drop (i + 1) from List.filter_eq_self.mpr fun x hx => by simpa using n2 x hx]
    rw [show ((r.1.take i).filter (fun t => failed st t.2)).filter (fun x => decide (x.2 ≠ t.2)) = (r.1.take i).filter (fun t => failed st t.2) from List.filter_eq_self.mpr fun x hx => by simpa using n1 x (List.mem_filter.mp hx).1]
    simp [hf]
  · show r.2 - mostC st (r.1.take i) - t.1 = r.2 - mostC st (r.1.take (i + 1))
    rw [take_snoc h, mostC_snoc, if_neg hf]
    omega
theorem stripped_mem {st : List Bool} {r : Row} {i : Nat} {x : Int × Int} (h : x ∈ (stripped st r i).1) : x ∈ r.1 := by
  rcases List.mem_append.mp h with z | z
  · exact List.mem_of_mem_take (List.mem_filter.mp z).1
  · exact List.mem_of_mem_drop z
theorem mostC_nonneg {st : List Bool} : ∀ {ts : List (Int × Int)}, (∀ t ∈ ts, 0 ≤ t.1) → 0 ≤ mostC st ts
  | [], _ => Int.le_refl 0
  | t :: ts, h => by
    have ih := mostC_nonneg (st := st) fun t ht => h t (List.mem_cons_of_mem _ ht)
    have := h t List.mem_cons_self
    rw [mostC_cons]
    split <;> omega
theorem stripped_least {st : List Bool} {r : Row} (h : Tidy r.1) (i : Nat) : (stripped st r i).2 ≤ r.2 := by
  have := mostC_nonneg (st := st) (ts := r.1.take i) fun t ht => by
    have := h.pos t (List.mem_of_mem_take ht)
    omega
  show r.2 - mostC st (r.1.take i) ≤ r.2
  omega
theorem stripped_end {st : List Bool} {r : Row} (hb : mostC st r.1 < r.2) : (∀ t ∈ (stripped st r r.1.length).1, failed st t.2 = true) ∧ 1 ≤ (stripped st r r.1.length).2 := by
  constructor
  · intro t ht
    have ht : t ∈ (r.1.take r.1.length).filter (fun t => failed st t.2) ++ r.1.drop r.1.length := ht
    rw [List.drop_length, List.append_nil] at ht
    exact (List.mem_filter.mp ht).2
  · show 1 ≤ r.2 - mostC st (r.1.take r.1.length)
    rw [List.take_length]
    omega
theorem failed_nil {s : Int} (h : 0 ≤ s) : failed [] s = false := by
  unfold failed
  rw [decide_eq_false (by simp; omega), Bool.false_and]
theorem failed_snoc {st : List Bool} {b : Bool} {s : Int} (h0 : 0 ≤ s) (h : failed (st ++ [b]) s = true) : failed st s = true ∨ s = 2 * st.length + (if b = true then 1 else 0) := by
  unfold failed at h
  rw [Bool.and_eq_true, Bool.not_eq_true', List.length_append] at h
  obtain ⟨h1, h2⟩ := h
  have h1 := of_decide_eq_true h1
  by_cases c : s / 2 < st.length
  · left
    rw [met_more st [b] s h0 c] at h2
    unfold failed
    rw [decide_eq_true c, h2]
    rfl
  · right
    have e : s / 2 = st.length := by simp at h1; omega
    unfold met at h2
    have e2 : (st ++ [b]).getD (s / 2).toNat false = b := by
      rw [e, Int.toNat_natCast, List.getD_eq_getElem?_getD, List.getElem?_append_right (Nat.le_refl _), Nat.sub_self]
      rfl
    rw [e2] at h2
    have h2 := of_decide_eq_false h2
    cases b with
    | true =>
      simp at h2
      simp
      omega
    | false =>
      simp at h2
      simp
      omega
theorem failed_not_both {st : List Bool} {s : Int} (h : failed st s = true) : failed st (otherS s) = false := by
  unfold failed at *
  rw [Bool.and_eq_true, Bool.not_eq_true'] at h
  rw [met_other, h.2]
  simp
theorem sumW_nonneg {ts : List (Int × Int)} (h : ∀ t ∈ ts, 0 ≤ t.1) (s : Int) : 0 ≤ sumW ts s := by
  induction ts with
  | nil => exact Int.le_refl 0
  | cons t ts ih =>
    rw [sumW_cons]
    have := ih fun t ht => h t (List.mem_cons_of_mem _ ht)
    have := h t List.mem_cons_self
    split <;> omega
theorem sumW_le {ts : List (Int × Int)} (h : ∀ t ∈ ts, t.1 = 1) (s : Int) : sumW ts s ≤ ts.length := by
  induction ts with
  | nil => exact Int.le_refl 0
  | cons t ts ih =>
    rw [sumW_cons, List.length_cons]
    have := ih fun t ht => h t (List.mem_cons_of_mem _ ht)
    have := h t List.mem_cons_self
    split <;> omega
/-- two bare lines that want the two sides of the next unknown -/
theorem resolve {st : List Bool} {a b : Row} (ha : Bare a) (hb : Bare b) (k16 : st.length < 16)
    (fa : ∀ t ∈ a.1, failed (st ++ [true]) t.2 = true) (fb : ∀ t ∈ b.1, failed (st ++ [false]) t.2 = true)
    (na : (2 * (st.length : Int) + 1) ∈ a.1.map (·.2)) (nb : (2 * (st.length : Int)) ∈ b.1.map (·.2)) :
    (addR a b).2 = 1 ∧ (∀ t ∈ (addR a b).1, failed st t.2 = true) ∧ ∀ t ∈ (addR a b).1, t.1 ≤ 64 := by
  have ca : ∀ t ∈ a.1, failed st t.2 = true ∨ t.2 = 2 * st.length + 1 := fun t ht => by
    have := failed_snoc (ha.ti.sd t ht).1 (fa t ht)
    simpa using this
  have cb : ∀ t ∈ b.1, failed st t.2 = true ∨ t.2 = 2 * st.length := fun t ht => by
    have := failed_snoc (hb.ti.sd t ht).1 (fb t ht)
    simpa using this
  have lt : ∀ s, failed st s = true → s / 2 < st.length := fun s h => by
    unfold failed at h
    rw [Bool.and_eq_true] at h
    exact of_decide_eq_true h.1
  have pa : ∀ t ∈ a.1, (0 : Int) ≤ t.1 := fun t ht => by rw [ha.wt t ht]; decide
  have pb : ∀ t ∈ b.1, (0 : Int) ≤ t.1 := fun t ht => by rw [hb.wt t ht]; decide
  have za : ∀ s, 0 ≤ s → ¬ failed st s = true → s ≠ 2 * st.length + 1 → sumW a.1 s = 0 := fun s _ h1 h2 => by
    refine Classical.byContradiction fun z => ?_
    obtain ⟨t, ht, e⟩ := sumW_ne z
    rcases ca t ht with q | q
    · exact h1 (e ▸ q)
    · exact h2 (e ▸ q)
  have zb : ∀ s, 0 ≤ s → ¬ failed st s = true → s ≠ 2 * st.length → sumW b.1 s = 0 := fun s _ h1 h2 => by
    refine Classical.byContradiction fun z => ?_
    obtain ⟨t, ht, e⟩ := sumW_ne z
    rcases cb t ht with q | q
    · exact h1 (e ▸ q)
    · exact h2 (e ▸ q)
  obtain ⟨ta, hta, ea⟩ := List.mem_map.mp na
  obtain ⟨tb, htb, eb⟩ := List.mem_map.mp nb
  have ea : ta.2 = 2 * st.length + 1 := ea
  have eb : tb.2 = 2 * st.length := eb
  obtain ⟨a1, a2⟩ := sumW_once ha.ti.up ta hta
  obtain ⟨b1, b2⟩ := sumW_once hb.ti.up tb htb
  rw [ha.wt ta hta, ea] at a1
  rw [hb.wt tb htb, eb] at b1
  have a3 : sumW a.1 (2 * (st.length : Int)) = 0 := a2 _ (by omega) (by omega)
  have b3 : sumW b.1 (2 * (st.length : Int) + 1) = 0 := b2 _ (by omega) (by omega)
  have nf : ¬ failed st (2 * (st.length : Int)) = true := fun z => by
    have := lt _ z
    omega
  have nf1 : ¬ failed st (2 * (st.length : Int) + 1) = true := fun z => by
    have := lt _ z
    omega
  have mn : ∀ u ∈ un16, min (sumW (a.1 ++ b.1) (2 * u)) (sumW (a.1 ++ b.1) (2 * u + 1)) = if u = st.length then 1 else 0 := fun u hu => by
    have u0 := ((mem_un16 u).mp hu).1
    rw [sumW_app, sumW_app]
    by_cases e : u = st.length
    · rw [if_pos e, e, a1, b1, a3, b3]
      decide
    · rw [if_neg e]
      have g1 := sumW_nonneg pa (2 * u)
      have g2 := sumW_nonneg pb (2 * u)
      have g3 := sumW_nonneg pa (2 * u + 1)
      have g4 := sumW_nonneg pb (2 * u + 1)
      by_cases f : failed st (2 * u) = true
      · have o : otherS (2 * u) = 2 * u + 1 := by
          unfold otherS
          rw [if_pos (by omega)]
        have f2 := failed_not_both f
        rw [o] at f2
        rw [za (2 * u + 1) (by omega) (by rw [f2]; decide) (by omega), zb (2 * u + 1) (by omega) (by rw [f2]; decide) (by omega)]
        omega
      · rw [za (2 * u) (by omega) f (by omega), zb (2 * u) (by omega) f (by omega)]
        omega
  refine ⟨?_, fun t ht => ?_, fun t ht => ?_⟩
  · show a.2 + b.2 - tidyL (a.1 ++ b.1) un16 = 1
    have : tidyL (a.1 ++ b.1) un16 = 1 := by
      unfold tidyL
      rw [sum_congr mn]
      exact sum_one 1 (st.length : Int) un16 un16_up ((mem_un16 _).mpr (by omega))
    rw [this, ha.ls, hb.ls]
    decide
  · have ht : t ∈ tidyT (a.1 ++ b.1) un16 := ht
    unfold tidyT at ht
    obtain ⟨u, hu, hx⟩ := List.mem_flatMap.mp ht
    have u0 := ((mem_un16 u).mp hu).1
    have hm := mn u hu
    have g1 := sumW_nonneg pa (2 * u)
    have g2 := sumW_nonneg pb (2 * u)
    have g3 := sumW_nonneg pa (2 * u + 1)
    have g4 := sumW_nonneg pb (2 * u + 1)
    refine Classical.byContradiction fun nft => ?_
    unfold tyT at hx
    rw [sumW_app, sumW_app] at hx hm
    by_cases e : u = st.length
    · rw [e, a1, b1, a3, b3] at hx
      simp at hx
    · split at hx
      · have et : t.2 = 2 * u := by simp at hx; rw [hx]
        rw [et] at nft
        rw [za (2 * u) (by omega) nft (by omega), zb (2 * u) (by omega) nft (by omega)] at *
        omega
      · split at hx
        · have et : t.2 = 2 * u + 1 := by simp at hx; rw [hx]
          rw [et] at nft
          rw [za (2 * u + 1) (by omega) nft (by omega), zb (2 * u + 1) (by omega) nft (by omega)] at *
          omega
        · simp at hx
  · have ht : t ∈ tidyT (a.1 ++ b.1) un16 := ht
    unfold tidyT at ht
    obtain ⟨u, hu, hx⟩ := List.mem_flatMap.mp ht
    have g1 := sumW_nonneg pa (2 * u)
    have g2 := sumW_nonneg pb (2 * u)
    have g3 := sumW_nonneg pa (2 * u + 1)
    have g4 := sumW_nonneg pb (2 * u + 1)
    have k1 := sumW_le ha.wt (2 * u)
    have k2 := sumW_le hb.wt (2 * u)
    have k3 := sumW_le ha.wt (2 * u + 1)
    have k4 := sumW_le hb.wt (2 * u + 1)
    have la := ha.ti.len
    have lb := hb.ti.len
    unfold tyT at hx
    rw [sumW_app, sumW_app] at hx
    split at hx
    · simp at hx
      rw [hx]
      show _ ≤ (64 : Int)
      simp only
      omega
    · split at hx
      · simp at hx
        rw [hx]
        show _ ≤ (64 : Int)
        simp only
        omega
      · simp at hx
end Cp
set_option Elab.async false
set_option linter.all false
/-! papers that grow: a step is written once -/
namespace Cp
/-- the line number i -/
def LN (rows : List Row) (p : List Stp) (i : Nat) : Row := (linesR rows p).getD i row0
theorem linesR_app (rows : List Row) (p : List Stp) : ∀ more : List Stp, ∃ ls, linesR rows (p ++ more) = linesR rows p ++ ls
  | [] => ⟨[], by simp⟩
  | st :: more => by
    obtain ⟨ls, e⟩ := linesR_app rows (p ++ [st]) more
    rw [linesR_snoc] at e
    rw [List.append_assoc, List.append_assoc] at e
    exact ⟨_, e⟩
theorem LN_app {rows : List Row} {p : List Stp} {i : Nat} (more : List Stp) (h : i < p.length) : LN rows (p ++ more) i = LN rows p i := by
  obtain ⟨ls, e⟩ := linesR_app rows p more
  have hl := linesR_len rows _ p rfl
  unfold LN
  rw [e, List.getD_eq_getElem?_getD, List.getElem?_append_left (by omega), ← List.getD_eq_getElem?_getD]
theorem LN_new (rows : List Row) (p : List Stp) (st : Stp) : LN rows (p ++ [st]) p.length = lineR rows (linesR rows p) st := by
  have hl := linesR_len rows _ p rfl
  unfold LN
  rw [linesR_snoc, List.getD_eq_getElem?_getD, List.getElem?_append_right (by omega), hl, Nat.sub_self]
  rfl
theorem lineR_at {rows made more : List Row} {st : Stp} (g : st.good rows.length made.length) : lineR rows (made ++ more) st = lineR rows made st := by
  have k : ∀ i : Int, 0 ≤ i → i < made.length → (made ++ more).getD i.toNat row0 = made.getD i.toNat row0 := fun i h0 h1 => by
    rw [List.getD_eq_getElem?_getD, List.getElem?_append_left (by omega), ← List.getD_eq_getElem?_getD]
  cases st with
  | given r => rfl
  | side s => rfl
  | add i j =>
    show addR ((made ++ more).getD i.toNat row0) ((made ++ more).getD j.toNat row0) = addR (made.getD i.toNat row0) (made.getD j.toNat row0)
    rw [k i g.1.1 g.1.2, k j g.2.1 g.2.2]
  | times i n => exact congrArg (timesR · n) (k i g.1.1 g.1.2)
  | cut i n => exact congrArg (cutR · n) (k i g.1.1 g.1.2)
  | size i => exact congrArg sizedR (k i g.1 g.2)
theorem LN_ref {rows : List Row} {p : List Stp} {st : Stp} {i : Nat} (g : Goods rows.length p) (h : p[i]? = some st) : LN rows p i = lineR rows (linesR rows p) st := by
  obtain ⟨hi, e⟩ := List.getElem?_eq_some_iff.mp h
  have ep : p = p.take i ++ st :: p.drop (i + 1) := by rw [← drop_cons' h, List.take_append_drop]
  have hl : (p.take i).length = i := by rw [List.length_take]; omega
  have e2 : p = (p.take i ++ [st]) ++ p.drop (i + 1) := by rw [List.append_assoc]; exact ep
  have a : LN rows p i = lineR rows (linesR rows (p.take i)) st := by
    have := LN_app (rows := rows) (p := p.take i ++ [st]) (i := i) (p.drop (i + 1)) (by rw [List.length_append, hl]; simp)
    rw [← e2] at this
    rw [this]
    have := LN_new rows (p.take i) st
    rwa [hl] at this
  obtain ⟨ls, e3⟩ := linesR_app rows (p.take i) (st :: p.drop (i + 1))
  rw [← ep] at e3
  rw [a, e3, lineR_at]
  rw [linesR_len rows _ _ hl]
  exact g i st h
theorem LN_tidy {rows : List Row} {p : List Stp} {i : Nat} (hr : ∀ r ∈ rows, Tidy r.1) (g : Goods rows.length p) (hi : i < p.length) : Tidy (LN rows p i).1 := by
  have hl := linesR_len rows _ p rfl
  refine lines_tidy (fun r h => (hr r h).sd) g _ ?_
  exact getD_mem (l := linesR rows p) (i := (i : Int)) (d := row0) (by omega) (by omega)
/-- p' has all of p, and at most n steps more; all steps are good -/
structure Grow (rows : List Row) (p p' : List Stp) (n : Nat) : Prop where
  ext : ∃ more : List Stp, p' = p ++ more ∧ more.length ≤ n
  good : Goods rows.length p'
theorem Grow.refl {rows : List Row} {p : List Stp} {n : Nat} (g : Goods rows.length p) : Grow rows p p n := ⟨⟨[], by simp, Nat.zero_le _⟩, g⟩
theorem Grow.trans {rows : List Row} {p q r : List Stp} {m n k : Nat} (a : Grow rows p q m) (b : Grow rows q r n) (h : m + n ≤ k) : Grow rows p r k := by
  obtain ⟨⟨x, rfl, hx⟩, _⟩ := a
  obtain ⟨⟨y, rfl, hy⟩, g⟩ := b
  exact ⟨⟨x ++ y, by rw [List.append_assoc], by rw [List.length_append]; omega⟩, g⟩
theorem Grow.le {rows : List Row} {p q : List Stp} {n : Nat} (a : Grow rows p q n) : p.length ≤ q.length ∧ q.length ≤ p.length + n := by
  obtain ⟨⟨x, rfl, hx⟩, _⟩ := a
  rw [List.length_append]
  omega
theorem Grow.line {rows : List Row} {p q : List Stp} {n i : Nat} (a : Grow rows p q n) (h : i < p.length) : LN rows q i = LN rows p i := by
  obtain ⟨⟨x, rfl, hx⟩, _⟩ := a
  exact LN_app x h
theorem Grow.wider {rows : List Row} {p q : List Stp} {m n : Nat} (a : Grow rows p q m) (h : m ≤ n) : Grow rows p q n := by
  obtain ⟨⟨x, e, hx⟩, g⟩ := a
  exact ⟨⟨x, e, by omega⟩, g⟩
/-- no cut has come to a line without terms -/
def NEC (rows : List Row) (p : List Stp) : Prop := ∀ i k n, p[i]? = some (.cut k n) → (LN rows p i).1 ≠ []
/-- a step is written, or was there -/
def WR (p : List Stp) (st : Stp) (p' : List Stp) (m : Nat) : Prop := (p' = p ∧ p[m]? = some st) ∨ (p' = p ++ [st] ∧ m = p.length)
theorem WR.grow {rows : List Row} {p p' : List Stp} {st : Stp} {m : Nat} (w : WR p st p' m) (g : Goods rows.length p) (gs : st.good rows.length p.length) : Grow rows p p' 1 := by
  rcases w with ⟨rfl, _⟩ | ⟨rfl, _⟩
  · exact Grow.refl g
  · exact ⟨⟨[st], rfl, Nat.le_refl 1⟩, g.snoc gs⟩
theorem WR.lt {p p' : List Stp} {st : Stp} {m : Nat} (w : WR p st p' m) : m < p'.length := by
  rcases w with ⟨rfl, h⟩ | ⟨rfl, rfl⟩
  · exact (List.getElem?_eq_some_iff.mp h).1
  · rw [List.length_append]
    simp
theorem WR.line {rows : List Row} {p p' : List Stp} {st : Stp} {m : Nat} (w : WR p st p' m) (g : Goods rows.length p) : LN rows p' m = lineR rows (linesR rows p) st := by
  rcases w with ⟨rfl, h⟩ | ⟨rfl, rfl⟩
  · exact LN_ref g h
  · exact LN_new rows p st
theorem NEC.snoc {rows : List Row} {p : List Stp} {st : Stp} (h : NEC rows p) (hs : (∃ k n, st = .cut k n) → (LN rows (p ++ [st]) p.length).1 ≠ []) : NEC rows (p ++ [st]) := fun i k n e => by
  by_cases hi : i < p.length
  · rw [List.getElem?_append_left hi] at e
    rw [LN_app [st] hi]
    exact h i k n e
  · rw [List.getElem?_append_right (by omega)] at e
    by_cases z : i - p.length = 0
    · rw [z] at e
      simp at e
      have : i = p.length := by omega
      rw [this]
      exact hs ⟨k, n, e⟩
    · rw [List.getElem?_eq_none (by simp; omega)] at e
      cases e
theorem WR.nec {rows : List Row} {p p' : List Stp} {st : Stp} {m : Nat} (w : WR p st p' m) (h : NEC rows p) (hs : ∀ k n, st ≠ .cut k n) : NEC rows p' := by
  rcases w with ⟨rfl, _⟩ | ⟨rfl, _⟩
  · exact h
  · exact h.snoc fun ⟨k, n, e⟩ => absurd e (hs k n)
/-- where a paper may end -/
def Fin (rows : List Row) (p : List Stp) (m : Nat) : Prop := ((LN rows p m).1 ≠ [] ∧ NEC rows p) ∨ ((LN rows p m).1 = [] ∧ m + 1 = p.length)
theorem WR.fin {rows : List Row} {p p' : List Stp} {k n : Int} {m : Nat} (w : WR p (.cut k n) p' m) (h : NEC rows p) : Fin rows p' m := by
  by_cases e : (LN rows p' m).1 = []
  · right
    refine ⟨e, ?_⟩
    rcases w with ⟨rfl, q⟩ | ⟨rfl, rfl⟩
    · exact absurd e (h m k n q)
    · rw [List.length_append]
      rfl
  · left
    refine ⟨e, ?_⟩
    rcases w with ⟨rfl, q⟩ | ⟨rfl, rfl⟩
    · exact h
    · exact h.snoc fun _ => e
/-- the lines of a paper about tidied rows -/
theorem lineR_tidied {rows made : List Row} {st : Stp} (hr : ∀ r ∈ rows, Sides r.1) (g : st.good rows.length made.length) : lineR (rows.map tidyR) made st = lineR rows made st := by
  cases st with
  | given r =>
    have h := getD_mem (l := rows) (d := row0) g.1 g.2
    have e : (rows.map tidyR).getD r.toNat row0 = tidyR (rows.getD r.toNat row0) := by
      have hi : r.toNat < rows.length := by
        have h1 := g.1
        have h2 := g.2
        omega
      rw [List.getD_eq_getElem?_getD, List.getElem?_map, List.getD_eq_getElem?_getD, List.getElem?_eq_getElem hi]
      rfl
    show tidyR ((rows.map tidyR).getD r.toNat row0) = tidyR (rows.getD r.toNat row0)
    rw [e]
    exact tidyR_twice (hr _ h)
  | _ => rfl
theorem linesR_tidied {rows : List Row} (hr : ∀ r ∈ rows, Sides r.1) : ∀ (n : Nat) (p : List Stp), p.length = n → Goods rows.length p → linesR (rows.map tidyR) p = linesR rows p
  | 0, p, h, _ => by
    rw [List.length_eq_zero_iff] at h
    rw [h]
    rfl
  | n + 1, p, h, g => by
    have hne : p ≠ [] := fun z => by rw [z] at h; simp at h
    have e := List.dropLast_concat_getLast hne
    have hl : p.dropLast.length = n := by rw [List.length_dropLast, h]; rfl
    have g1 : Goods rows.length p.dropLast := fun i st q => g i st (by
      have hi : i < p.dropLast.length := (List.getElem?_eq_some_iff.mp q).1
      rw [← e, List.getElem?_append_left hi]
      exact q)
    have g2 : (p.getLast hne).good rows.length n := g n _ (by
      have q : (p.dropLast ++ [p.getLast hne])[n]? = some (p.getLast hne) := by
        rw [List.getElem?_append_right (by omega), hl, Nat.sub_self]
        simp
      rw [e] at q
      exact q)
    rw [← e, linesR_snoc, linesR_snoc, linesR_tidied hr n _ hl g1]
    rw [lineR_tidied hr (by rw [linesR_len rows n _ hl]; exact g2)]
/-- how many steps a refutation takes at most -/
def cost : Nat → Nat
  | 0 => 0
  | n + 1 => max 50 (2 * cost n + 2)
theorem cost_9 {n : Nat} (h : n ≤ 9) : cost n ≤ 13310 := by
  have k : ∀ i : _root_.Fin 10, cost i.val ≤ 13310 := by decide
  exact k ⟨n, by omega⟩
theorem cost_50 (n : Nat) : 50 ≤ cost (n + 1) := Nat.le_max_left ..
theorem cost_2 (n : Nat) : cost n + cost n + 2 ≤ cost (n + 1) := Nat.le_trans (by omega) (Nat.le_max_right ..)
/-- a paper that shows that no filling meets all rows -/
def Refutes (rows : List Row) (p : List Stp) : Prop := Goods rows.length p ∧ p.length ≤ 20000 ∧ ∃ m, m + 1 = p.length ∧ (LN rows p m).1 = [] ∧ (LN rows p m).2 = 1
end Cp
set_option Elab.async false
set_option linter.all false
/-! how great the numbers of a row are -/
namespace Cp
def Big (r : Row) : Prop := r.2 ≤ 1000000000000000000 ∧ ∀ t ∈ r.1, t.1 ≤ 1000000000000000000
structure Sm (B : Int) (r : Row) : Prop where
  wt : ∀ t ∈ r.1, -1000000 ≤ t.1 ∧ t.1 ≤ 1000000
  ln : r.1.length ≤ 20
  ls : -B ≤ r.2 ∧ r.2 ≤ B
theorem Sm.mono {B C : Int} {r : Row} (h : Sm B r) (hb : B ≤ C) : Sm C r := ⟨h.wt, h.ln, by have := h.ls; omega⟩
theorem sumW_abs {ts : List (Int × Int)} (h : ∀ t ∈ ts, -1000000 ≤ t.1 ∧ t.1 ≤ 1000000) (s : Int) : -(1000000 * (ts.length : Int)) ≤ sumW ts s ∧ sumW ts s ≤ 1000000 * (ts.length : Int) := by
  induction ts with
  | nil => exact ⟨Int.le_refl 0, Int.le_refl 0⟩
  | cons t ts ih =>
    have := ih fun t ht => h t (List.mem_cons_of_mem _ ht)
    have := h t List.mem_cons_self
    rw [sumW_cons, List.length_cons]
    split <;> omega
theorem worth_abs (bs : List Bool) {ts : List (Int × Int)} (h : ∀ t ∈ ts, -1000000 ≤ t.1 ∧ t.1 ≤ 1000000) : -(1000000 * (ts.length : Int)) ≤ worth bs ts ∧ worth bs ts ≤ 1000000 * (ts.length : Int) := by
  induction ts with
  | nil => exact ⟨Int.le_refl 0, Int.le_refl 0⟩
  | cons t ts ih =>
    have := ih fun t ht => h t (List.mem_cons_of_mem _ ht)
    have := h t List.mem_cons_self
    rw [worth_cons, List.length_cons]
    split <;> omega
theorem sum_low {f : Int → Int} {B : Int} : ∀ {us : List Int}, (∀ u ∈ us, -B ≤ f u) → -(B * (us.length : Int)) ≤ (us.map f).sum
  | [], _ => by simp
  | u :: us, h => by
    have := sum_low (f := f) (B := B) fun v hv => h v (List.mem_cons_of_mem _ hv)
    have := h u List.mem_cons_self
    rw [List.map_cons, List.sum_cons, List.length_cons]
    have e : B * ((us.length + 1 : Nat) : Int) = B * (us.length : Int) + B := by
      rw [Int.natCast_add, Int.mul_add]
      simp
    rw [e]
    omega
theorem big_tidy {B : Int} {r : Row} (h : Sm B r) (hb : B ≤ 1000000000000) : Big (tidyR r) := by
  have hl := h.ln
  have key : ∀ s, -20000000 ≤ sumW r.1 s ∧ sumW r.1 s ≤ 20000000 := fun s => by
    have := sumW_abs h.wt s
    omega
  constructor
  · show r.2 - tidyL r.1 un16 ≤ _
    have : -(20000000 * (un16.length : Int)) ≤ tidyL r.1 un16 := by
      refine sum_low fun u _ => ?_
      have := key (2 * u)
      have := key (2 * u + 1)
      omega
    have e : (un16.length : Int) = 16 := rfl
    rw [e] at this
    have := h.ls
    omega
  · intro t ht
    have ht : t ∈ tidyT r.1 un16 := ht
    unfold tidyT at ht
    obtain ⟨u, hu, hx⟩ := List.mem_flatMap.mp ht
    have := key (2 * u)
    have := key (2 * u + 1)
    unfold tyT at hx
    split at hx
    · simp at hx
      rw [hx]
      show sumW r.1 (2 * u) - sumW r.1 (2 * u + 1) ≤ _
      omega
    · split at hx
      · simp at hx
        rw [hx]
        show sumW r.1 (2 * u + 1) - sumW r.1 (2 * u) ≤ _
        omega
      · simp at hx
/-- a row turned about -/
def negR (r : Row) : Row := (r.1.map fun t => (-t.1, t.2), 1 - r.2)
theorem Sm.neg {B : Int} {r : Row} (h : Sm B r) : Sm (B + 1) (negR r) where
  wt := fun t ht => by
    obtain ⟨x, hx, rfl⟩ := List.mem_map.mp ht
    have := h.wt x hx
    show -1000000 ≤ -x.1 ∧ -x.1 ≤ 1000000
    omega
  ln := by
    show (r.1.map _).length ≤ 20
    rw [List.length_map]
    exact h.ln
  ls := by
    have := h.ls
    show -(B + 1) ≤ 1 - r.2 ∧ 1 - r.2 ≤ B + 1
    omega
theorem Of.neg {u : Int} {r : Row} (h : Of u r) : Of u (negR r) := sides_map (f := fun x => -x) h
theorem wtBy_bd (g : Bool) (one : Int) : -1000000 ≤ wtBy g one ∧ wtBy g one ≤ 1000000 := by
  unfold wtBy
  split <;> omega
theorem leastBy_bd (c : Int) : -1000000 ≤ leastBy c ∧ leastBy c ≤ 1000000 := by
  unfold leastBy
  split <;> omega
theorem rowBy_wt {c u size : Int} : ∀ t ∈ (rowBy c u size).1, -1000000 ≤ t.1 ∧ t.1 ≤ 1000000 := fun t ht => by
  obtain ⟨k, _, rfl⟩ := List.mem_map.mp ht
  exact wtBy_bd _ _
theorem rowBy_sm {c u size : Int} (h1 : 1 ≤ size) (h2 : size ≤ 17) : Sm 1000000 (rowBy c u size) := ⟨rowBy_wt, by have := rowBy_len (c := c) (u := u) (size := size) h1; omega, leastBy_bd c⟩
end Cp
set_option Elab.async false
set_option linter.all false
set_option maxRecDepth 100000
set_option maxHeartbeats 4000000
/-! fields, in, max over a list -/
namespace L2
open PySem PySem.Spec PyProof.Rows
section
variable {X : Cx} {K : PySem.W.Frag}
theorem pe_fldK {e : Expr} {ta : TE} {f : Str} {pos : Pos} (hK : X.K = K) (he : PE X e ta) (hb : attributeBase e f X.env (eval e X.env) = eval e X.env) : PE X (.Attribute e f pos) (tFld K ta f) := by subst hK; exact pe_fld he hb
theorem ps_fldK {o value : Expr} {ta tv : TE} {f : Str} {pos pos' : Pos} (hK : X.K = K) (ha : PE X o ta) (hv : PE X value tv) (hs : swapsWith value (some (.Attribute o f pos')) pos.line X.env = pure false) : PS X (.Assign [.Attribute o f pos'] value pos) (sFld K ta tv f) := by
  subst hK; exact ps_fld ha hv hs
theorem op_in_seqK (hK : X.K = K) : OpR X (compareOp .In) (rIn K false) := by subst hK; exact op_in_seq
theorem op_notin_seqK (hK : X.K = K) : OpR X (compareOp .NotIn) (rIn K true) := by subst hK; exact op_notIn_seq
theorem argBest_le (val : Nat → Int) : ∀ k, argBest (fun i j => decide (val i > val j)) k ≤ k ∧ ∀ i, i ≤ k → val i ≤ val (argBest (fun i j => decide (val i > val j)) k)
  | 0 => ⟨Nat.le_refl 0, fun i hi => by
    have : i = 0 := by omega
    rw [this]
    exact Int.le_refl _⟩
  | k + 1 => by
    obtain ⟨h1, h2⟩ := argBest_le val k
    have e : argBest (fun i j => decide (val i > val j)) (k + 1) = if decide (val (k + 1) > val (argBest (fun i j => decide (val i > val j)) k)) = true then k + 1 else argBest (fun i j => decide (val i > val j)) k := rfl
    rw [e]
    by_cases c : val (k + 1) > val (argBest (fun i j => decide (val i > val j)) k)
    · rw [if_pos (decide_eq_true c)]
      refine ⟨Nat.le_refl _, fun i hi => ?_⟩
      by_cases z : i ≤ k
      · have := h2 i z
        omega
      · have : i = k + 1 := by omega
        rw [this]
        exact Int.le_refl _
    · rw [if_neg (by simpa using c)]
      refine ⟨by omega, fun i hi => ?_⟩
      by_cases z : i ≤ k
      · exact h2 i z
      · have : i = k + 1 := by omega
        rw [this]
        omega
theorem call_maxL (hK : X.K = K) (hc : X.calm = true) : CallR X (.builtin "max") (fun xs H Q => ∃ (p : Addr) (ns : List Int), xs = [.ref p] ∧ SqL K H p (ns.map V.int) ∧ 0 < ns.length ∧ ∀ m, m ∈ ns → (∀ x ∈ ns, x ≤ m) → Q (.int m) H) := by
  subst hK
  intro pins s σ H xs us Q I r h
  obtain ⟨p, ns, rfl, hq, hl0, q⟩ := h
  obtain ⟨u, rfl, rx⟩ := vals1 r
  cases rx
  obtain ⟨its, r', pl, hz⟩ := I.list hq
  have hi : IntsAre its ns := intsAre_of r'
  obtain ⟨ys, e⟩ := hi.allInts.items
  have hl := pl.isList
  rw [e] at hl
  have en : ys.toList.map (·.1) = ns := by
    have e2 := hi.numsOf
    have e3 : numsOf its = numsOf (intItems ys).toList := by rw [← e]
    rw [e3, nums_intItems] at e2
    exact e2
  have hs : ys.size = ns.length := by rw [← en, List.length_map]; rfl
  have hv : ∀ i, numAt ys i = (ns[i]?).getD 0 := fun i => by
    unfold numAt
    rw [← en, List.getElem?_map]
    simp
  refine max_intList (I.ok.hd hc) hl (by omega) fun v h' tk hv' kp => ?_
  obtain ⟨t, rfl⟩ := intItems_at hv'
  obtain ⟨b1, b2⟩ := argBest_le (numAt ys) (ys.size - 1)
  refine ⟨.int _, H, I.kept kp, ⟨t, rfl⟩, q _ ?_ fun x hx => ?_⟩
  · rw [hv, List.getElem?_eq_getElem (by omega)]
    exact List.getElem_mem _
  · obtain ⟨i, hi', e'⟩ := List.getElem_of_mem hx
    have := b2 i (by omega)
    rw [hv i, List.getElem?_eq_getElem hi', e'] at this
    exact this
end
end L2
set_option Elab.async false
set_option linter.all false
set_option maxRecDepth 100000
set_option maxHeartbeats 4000000
/-! ROWS AND FILLINGS in the heap. -/
namespace Cp
open PySem L2
abbrev rTerm : Rep (Int × Int) := repPair repInt repInt
abbrev rTerms : Rep (List (Int × Int)) := repList rTerm
abbrev rRow : Rep Row := repPair rTerms repInt
abbrev rFill : Rep (List Bool) := repList repBl
abbrev rInts : Rep (List Int) := repList repInt
abbrev rRows : Rep (List Row) := repList rRow
/-! ### what a call has made: new objects, and tuples (which never change) -/
def nw (H H' : Hp) : Hp := fun b => match H b with
  | none => H' b
  | some (.tup _) => H' b
  | _ => none
theorem nw_same (H H' : Hp) : Same (nw H H') H' := fun b o h => by
  unfold nw at h
  split at h
  · exact h
  · exact h
  · cases h
theorem nw_new {H H' : Hp} {b : Addr} (h : H b = none) : nw H H' b = H' b := by
  unfold nw
  rw [h]
theorem nw_tup {H H' : Hp} {b : Addr} {xs : List V} (h : H b = some (.tup xs)) : nw H H' b = H' b := by
  unfold nw
  rw [h]
theorem nw_lst {H H' : Hp} {b : Addr} {xs : List V} (h : H b = some (.lst xs)) : nw H H' b = none := by
  unfold nw
  rw [h]
theorem nw_upd {H H' : Hp} {b : Addr} {o : HO} (h : H b = none) : nw H (upd H' b o) = upd (nw H H') b o := by
  funext c
  by_cases e : c = b
  · subst e
    rw [nw_new h, upd_same, upd_same]
  · rw [upd_ne e]
    unfold nw
    rw [upd_ne e]
theorem nw_mono {H H1 H2 : Hp} (e : Same H1 H2) : Same (nw H H1) (nw H H2) := fun b o h => by
  unfold nw at h ⊢
  split at h
  · exact e _ _ h
  · exact e _ _ h
  · cases h
/-- what is made within a later part is made within the whole -/
theorem nw_part {H H1 H2 : Hp} (e : Same H H1) (e2 : Same H1 H2) : Same (nw H1 H2) (nw H H2) := fun b o h => by
  unfold nw at h ⊢
  split at h
  · rename_i q
    rw [e.free q]
    exact h
  · rename_i xs q
    cases z : H b with
    | none => exact h
    | some u =>
      have := e _ _ z
      rw [q] at this
      cases this
      exact h
  · cases h
theorem nw_old {H H' : Hp} {b : Addr} {xs : List V} (e : Same H H') (h : nw H H' b = some (.lst xs)) : H b = none ∧ H' b = some (.lst xs) := by
  have h2 := nw_same _ _ _ _ h
  refine ⟨?_, h2⟩
  cases z : H b with
  | none => rfl
  | some o =>
    have := e _ _ z
    rw [h2] at this
    cases this
    rw [nw_lst z] at h
    cases h
theorem nw_of_tup {H H' : Hp} {b : Addr} {xs : List V} (e : Same H H') (h : H' b = some (.tup xs)) : nw H H' b = some (.tup xs) := by
  cases z : H b with
  | none => rw [nw_new z]; exact h
  | some o =>
    have := e _ _ z
    rw [h] at this
    cases this
    rw [nw_tup z]
    exact h
/-- what is made in a later part, beside a list that was there -/
theorem nw_in {H1 H2 H4 : Hp} {acc : Addr} {ys : List V} (e : Same H1 H2) (e2 : Same H2 H4) (h : H2 acc = some (.lst ys)) : Same (nw H2 H4) (L2.del (nw H1 H4) acc) :=
  Same.into_del (nw_part e e2) (nw_lst h)
theorem nw_refl {H H' : Hp} (e : Same H H') {v : V} {t : Int × Int} {K : PySem.W.Frag} (h : rTerm.rel K H' v t) : rTerm.rel K (nw H H') v t := by
  obtain ⟨p, x, y, rfl, hT, h1, h2⟩ := h
  exact ⟨p, x, y, rfl, nw_of_tup e hT, h1, h2⟩
/-- a part of the heap and what was made since -/
def ad (G H H' : Hp) : Hp := fun b => match H b with
  | none => H' b
  | some (.tup _) => H' b
  | _ => G b
theorem ad_new {G H H' : Hp} : Same (nw H H') (ad G H H') := fun b o h => by
  unfold nw at h
  unfold ad
  split at h <;> simp_all
theorem ad_old {G H H' : Hp} (e : Same G H) (e2 : Same H H') : Same G (ad G H H') := fun b o h => by
  have h1 := e _ _ h
  unfold ad
  split
  · rename_i z
    rw [h1] at z
    cases z
  · exact e2 _ _ h1
  · exact h
theorem ad_all {G H H' : Hp} (e : Same G H) (e2 : Same H H') : Same (ad G H H') H' := fun b o h => by
  unfold ad at h
  split at h
  · exact h
  · exact h
  · exact e2 _ _ (e _ _ h)
/-- beside a list that the part does not have -/
theorem ad_del {G H H' : Hp} {a : Addr} {ys : List V} (e : Same G H) (e2 : Same H H') (h : H a = some (.lst ys)) (hG : G a = none) : Same (ad G H H') (L2.del H' a) :=
  Same.into_del (ad_all e e2) (by unfold ad; rw [h]; exact hG)
/-- a term, in whatever heap has the tuples -/
def SameT (H H' : Hp) : Prop := ∀ b xs, H b = some (.tup xs) → H' b = some (.tup xs)
theorem Same.tups {H H' : Hp} (e : Same H H') : SameT H H' := fun b xs h => e _ _ h
theorem SameT.lst {H : Hp} {a : Addr} {xs : List V} {o : HO} (h : H a = some (.lst xs)) : SameT H (upd H a o) := fun b ys q => by
  rw [upd_ne (ne_of q h (by intro z; cases z))]
  exact q
theorem SameT.del {H : Hp} {a : Addr} {xs : List V} (h : H a = some (.lst xs)) : SameT H (L2.del H a) := fun b ys q => by
  rw [del_ne (ne_of q h (by intro z; cases z))]
  exact q
theorem term_mono {K : PySem.W.Frag} {H H' : Hp} {v : V} {t : Int × Int} (e : SameT H H') (h : rTerm.rel K H v t) : rTerm.rel K H' v t := by
  obtain ⟨p, x, y, rfl, hT, h1, h2⟩ := h
  exact ⟨p, x, y, rfl, e _ _ hT, h1, h2⟩
/-- the list at a has these terms -/
structure TmAt (K : PySem.W.Frag) (H : Hp) (a : Addr) (xs : List V) (ts : List (Int × Int)) : Prop where
  at_ : H a = some (.lst xs)
  its : Paired (rTerm.rel K H) xs ts
section
variable {K : PySem.W.Frag} {H H' : Hp} {a : Addr} {xs : List V} {ts : List (Int × Int)}
theorem TmAt.rel (h : TmAt K H a xs ts) : rTerms.rel K H (.ref a) ts := ⟨a, xs, rfl, h.at_, h.its⟩
theorem TmAt.mono (e : Same H H') (h : TmAt K H a xs ts) : TmAt K H' a xs ts := ⟨e _ _ h.at_, Paired.mapP h.its fun _ _ q => rTerm.mono e q⟩
theorem TmAt.len (h : TmAt K H a xs ts) : xs.length = ts.length := h.its.length
theorem TmAt.nil : TmAt K (upd H a (.lst [])) a [] [] := ⟨upd_same, .nil⟩
theorem TmAt.snoc {t : Addr} {x y : Int} (h : TmAt K H a xs ts) (ht : H t = none) : TmAt K (upd (upd H t (.tup [.int x, .int y])) a (.lst (xs ++ [.ref t]))) a (xs ++ [.ref t]) (ts ++ [(x, y)]) := by
  have nt : a ≠ t := ne_of_none h.at_ ht
  have e1 : SameT H (upd H t (.tup [.int x, .int y])) := Same.tups (Same.new ht)
  have e2 : SameT (upd H t (.tup [.int x, .int y])) (upd (upd H t (.tup [.int x, .int y])) a (.lst (xs ++ [.ref t]))) := SameT.lst (xs := xs) (by rw [upd_ne nt]; exact h.at_)
  refine ⟨upd_same, papp (Paired.mapP h.its fun _ _ q => term_mono e2 (term_mono e1 q)) (.cons ⟨t, _, _, rfl, e2 _ _ upd_same, rfl, rfl⟩ .nil)⟩
theorem TmAt.copy {b : Addr} (h : TmAt K H a xs ts) (n : H b = none) : TmAt K (upd H b (.lst xs)) b xs ts := ⟨upd_same, Paired.mapP h.its fun _ _ q => rTerm.mono (Same.new n) q⟩
/-- another list changes -/
theorem TmAt.other {b : Addr} {ys : List V} {o : HO} (h : TmAt K H a xs ts) (ne : a ≠ b) (hb : H b = some (.lst ys)) : TmAt K (upd H b o) a xs ts :=
  ⟨by rw [upd_ne ne]; exact h.at_, Paired.mapP h.its fun _ _ q => term_mono (SameT.lst hb) q⟩
end
theorem push_at {H : Hp} {t a : Addr} {o u : HO} (h : H a = some o) (ht : H t = none) : upd H t u a = some o := by
  rw [upd_ne (ne_of_none h ht)]
  exact h
theorem push_keep {H : Hp} {t a b : Addr} {o u w : HO} (hb : H b = some o) (ht : H t = none) (nb : b ≠ a) : upd (upd H t u) a w b = some o := by
  rw [upd_ne nb, upd_ne (ne_of_none hb ht)]
  exact hb
/-- the row at q has its list at a -/
structure RowAt (K : PySem.W.Frag) (H : Hp) (q a : Addr) (xs : List V) (r : Row) : Prop where
  tp : H q = some (.tup [.ref a, .int r.2])
  tm : TmAt K H a xs r.1
section
variable {K : PySem.W.Frag} {H H' : Hp} {q a : Addr} {xs : List V} {r : Row}
theorem RowAt.rel (h : RowAt K H q a xs r) : rRow.rel K H (.ref q) r := ⟨q, .ref a, .int r.2, rfl, h.tp, h.tm.rel, rfl⟩
theorem RowAt.mono (e : Same H H') (h : RowAt K H q a xs r) : RowAt K H' q a xs r := ⟨e _ _ h.tp, h.tm.mono e⟩
theorem RowAt.other {b : Addr} {ys : List V} {o : HO} (h : RowAt K H q a xs r) (ne : a ≠ b) (hb : H b = some (.lst ys)) : RowAt K (upd H b o) q a xs r :=
  ⟨by rw [upd_ne (ne_of h.tp hb (by intro z; cases z))]; exact h.tp, h.tm.other ne hb⟩
theorem rowAt {v : V} (h : rRow.rel K H v r) : ∃ q a xs, v = .ref q ∧ RowAt K H q a xs r := by
  obtain ⟨q, x, y, rfl, hT, ⟨a, xs, rfl, hS, hp⟩, h2⟩ := h
  obtain rfl : y = .int r.2 := h2
  exact ⟨q, a, xs, rfl, hT, hS, hp⟩
/-- a row that was made here -/
theorem rowNew {v : V} (e : Same H H') (h : rRow.rel K (nw H H') v r) : ∃ q a xs, v = .ref q ∧ H a = none ∧ RowAt K H' q a xs r := by
  obtain ⟨q, a, xs, rfl, m⟩ := rowAt h
  exact ⟨q, a, xs, rfl, (nw_old e m.tm.at_).1, m.mono (nw_same _ _)⟩
theorem newRow (e : Same H H') (ha : H a = none) (h : RowAt K H' q a xs r) : rRow.rel K (nw H H') (.ref q) r :=
  ⟨q, .ref a, .int r.2, rfl, nw_of_tup e h.tp, ⟨a, xs, rfl, by rw [nw_new ha]; exact h.tm.at_, Paired.mapP h.tm.its fun _ _ z => nw_refl e z⟩, rfl⟩
end
/-- a def gives back something that it has made -/
def New {β : Type} [DecidableEq β] (S : Rep β) (K : PySem.W.Frag) (H : Hp) (b : β) (Q : VK) : Prop := ∀ v H', Same H H' → S.rel K (nw H H') v b → Q v H'
theorem New.up {β : Type} [DecidableEq β] {S : Rep β} {K : PySem.W.Frag} {H H' : Hp} {v : V} {b : β} (h : S.rel K (nw H H') v b) : S.rel K H' v b := S.mono (nw_same _ _) h
/-- what was made in the first part was made in the whole; so was what was made in the second -/
theorem nw_first {β : Type} [DecidableEq β] {S : Rep β} {K : PySem.W.Frag} {H H1 H2 : Hp} {v : V} {b : β} (e : Same H1 H2) (h : S.rel K (nw H H1) v b) : S.rel K (nw H H2) v b := S.mono (nw_mono e) h
theorem nw_second {β : Type} [DecidableEq β] {S : Rep β} {K : PySem.W.Frag} {H H1 H2 : Hp} {v : V} {b : β} (e : Same H H1) (e2 : Same H1 H2) (h : S.rel K (nw H1 H2) v b) : S.rel K (nw H H2) v b := S.mono (nw_part e e2) h
/-! ### comprehensions that make something new -/
section
variable {α β : Type} [DecidableEq α] [DecidableEq β] {K : PySem.W.Frag} {a acc : Addr} {xs : List V} {as : List α} {g : TG} {tc : TT} {te : TE} {σ : St} {H : Hp} {fin : Hp → Prop} {R : Rep α} {S : Rep β}
theorem compInv {ys : List V} {bs : List β} {H2 H4 : Hp} {y : V} {b : β} (hacc : H acc = none) (e : Same H H2) (mk : Mk1 S K (nw H H2) acc ys bs) (e2 : Same H2 H4) (hy : S.rel K (nw H2 H4) y b) :
    H4 acc = some (.lst ys) ∧ Same H (upd H4 acc (.lst (ys ++ [y]))) ∧ Mk1 S K (nw H (upd H4 acc (.lst (ys ++ [y])))) acc (ys ++ [y]) (bs ++ [b]) := by
  have h2 := nw_same _ _ _ _ mk.at_
  refine ⟨e2 _ _ h2, (e.trans e2).upd_new hacc, ?_⟩
  rw [nw_upd hacc]
  exact mk.snoc (same_del (nw_mono e2)) (S.mono (nw_in e e2 h2) hy)
theorem comp_base (hacc : H acc = none) : Mk1 S K (nw H (upd H acc (.lst []))) acc [] ([] : List β) := by
  rw [nw_upd hacc]
  exact Mk1.nil
theorem compL (R : Rep α) (S : Rep β) (p : α → Bool) (f : α → β) (Pσ : St → Prop) (hS : SqL K H a xs) (hp : Paired (R.rel K H) xs as) (hn : as.length ≤ 1000) (hacc : H acc = none) (h0 : Pσ σ)
    (hs : ∀ x t σ H2, t ∈ as → Same H H2 → R.rel K H2 x t → Pσ σ → ∀ C : St → Bool → Hp → Prop,
      (∀ σ2 b H3, b = p t → Same H2 H3 → Pσ σ2 → (p t = true → ∀ D : VK, (∀ y H4, Same H2 H4 → S.rel K (nw H2 H4) y (f t) → D y H4) → te σ2 H3 D) → C σ2 b H3) → g x σ H2 fun σ2 H3 => tc σ2 H3 (C σ2))
    (hd : ∀ H', Same H H' → (repList S).rel K (nw H H') (.ref acc) ((as.filter p).map f) → fin H') : CompBy (Itl K a) acc g tc te fin σ (upd H acc (.lst [])) := by
  refine comp_list (xs := xs) (fun i σ ys H2 => Pσ σ ∧ Same H H2 ∧ Mk1 S K (nw H H2) acc ys (((as.take i).filter p).map f)) ⟨h0, Same.new hacc, comp_base hacc⟩ ?_ ?_ ?_
  · rintro i σ ys H2 _ ⟨_, e, mk⟩
    exact ⟨e.seq hS, nw_same _ _ _ _ mk.at_⟩
  · rintro i x σ ys H2 N hx ⟨hP, e, mk⟩ hN
    obtain ⟨t, ht, hr⟩ := pgetL hp hx
    have es : (as.take (i + 1)).filter p = (as.take i).filter p ++ if p t = true then [t] else [] := by
      rw [take_snoc ht, List.filter_append]
      by_cases h : p t = true <;> simp [h]
    have hlen : ys.length ≤ 1000 := by
      rw [mk.its.length, List.length_map]
      refine Nat.le_trans (List.length_filter_le _ _) ?_
      rw [List.length_take]
      omega
    unfold compT
    refine hs x t σ H2 (List.mem_of_getElem? ht) e (R.mono e hr) hP _ fun σ2 b H3 hb e3 hP2 hte => ?_
    subst hb
    refine ite2 (fun hc => hte hc _ fun y H4 e4 hy => ?_) (fun hc => hN _ _ _ ⟨hP2, e.trans e3, ?_⟩)
    · obtain ⟨q1, q2, q3⟩ := compInv hacc e mk e4 hy
      refine ⟨q1, small1000 hlen, hN _ _ _ ⟨hP2, q2, ?_⟩⟩
      rw [es, if_pos hc, List.map_append]
      exact q3
    · rw [es, if_neg hc, List.append_nil]
      exact mk.keep (nw_mono e3)
  · rintro σ ys H2 ⟨_, e, mk⟩
    have el : xs.length = as.length := hp.length
    rw [el, List.take_length] at mk
    exact hd H2 e mk.rel
theorem compR {n : Nat} {lo : Int} (S : Rep β) (p : Int → Bool) (f : Int → β) (Pσ : St → Prop) (hn : n ≤ 1000) (hacc : H acc = none) (h0 : Pσ σ)
    (hs : ∀ (i : Nat) σ H2, i < n → Same H H2 → Pσ σ → ∀ C : St → Bool → Hp → Prop,
      (∀ σ2 b H3, b = p (lo + i) → Same H2 H3 → Pσ σ2 → (p (lo + i) = true → ∀ D : VK, (∀ y H4, Same H2 H4 → S.rel K (nw H2 H4) y (f (lo + i)) → D y H4) → te σ2 H3 D) → C σ2 b H3) → g (.int (lo + i)) σ H2 fun σ2 H3 => tc σ2 H3 (C σ2))
    (hd : ∀ H', Same H H' → (repList S).rel K (nw H H') (.ref acc) ((((List.range n).map fun i : Nat => lo + i).filter p).map f) → fin H') : CompBy (Itr lo n) acc g tc te fin σ (upd H acc (.lst [])) := by
  refine comp_range (fun i σ ys H2 => Pσ σ ∧ Same H H2 ∧ Mk1 S K (nw H H2) acc ys ((((List.range i).map fun i : Nat => lo + i).filter p).map f)) ⟨h0, Same.new hacc, comp_base hacc⟩ ?_ ?_ ?_
  · rintro i σ ys H2 _ ⟨_, e, mk⟩
    exact nw_same _ _ _ _ mk.at_
  · rintro i σ ys H2 N hi ⟨hP, e, mk⟩ hN
    have es : ((List.range (i + 1)).map fun i : Nat => lo + i).filter p = ((List.range i).map fun i : Nat => lo + i).filter p ++ if p (lo + i) = true then [lo + (i : Int)] else [] := by
      rw [List.range_succ, List.map_append, List.filter_append]
      by_cases h : p (lo + i) = true <;> simp [h]
    have hlen : ys.length ≤ 1000 := by
      rw [mk.its.length, List.length_map]
      refine Nat.le_trans (List.length_filter_le _ _) ?_
      rw [List.length_map, List.length_range]
      omega
    unfold compT
    refine hs i σ H2 hi e hP _ fun σ2 b H3 hb e3 hP2 hte => ?_
    subst hb
    refine ite2 (fun hc => hte hc _ fun y H4 e4 hy => ?_) (fun hc => hN _ _ _ ⟨hP2, e.trans e3, ?_⟩)
    · obtain ⟨q1, q2, q3⟩ := compInv hacc e mk e4 hy
      refine ⟨q1, small1000 hlen, hN _ _ _ ⟨hP2, q2, ?_⟩⟩
      rw [es, if_pos hc, List.map_append]
      exact q3
    · rw [es, if_neg hc, List.append_nil]
      exact mk.keep (nw_mono e3)
  · rintro σ ys H2 ⟨_, e, mk⟩
    exact hd H2 e mk.rel
end
theorem filter_all {α : Type} (as : List α) : as.filter (fun _ => true) = as := List.filter_eq_self.mpr fun _ _ => rfl
/-- a list of whole numbers, as it lies there -/
theorem ints_at {K : PySem.W.Frag} {H : Hp} {v : V} {ns : List Int} (h : rInts.rel K H v ns) : ∃ a, v = .ref a ∧ H a = some (.lst (ns.map V.int)) := by
  obtain ⟨a, xs, rfl, hS, hp⟩ := h
  rw [ints_map hp] at hS
  exact ⟨a, rfl, hS⟩
/-! ### texts that are written -/
theorem str_inj (s t : String) : (Str.ofString s = Str.ofString t) = (s = t) := by
  refine propext ⟨fun h => ?_, fun h => h ▸ rfl⟩
  rw [Str.ofString_eq_toList, Str.ofString_eq_toList] at h
  injection h with h
  have h2 := congrArg Array.toList h
  simp only [List.toList_toArray] at h2
  have key : ∀ (a b : List Char), a.map Char.toNat = b.map Char.toNat → a = b := fun a => by
    induction a with
    | nil => intro b hb; cases b with
      | nil => rfl
      | cons _ _ => simp at hb
    | cons x a ih => intro b hb; cases b with
      | nil => simp at hb
      | cons y b =>
        simp only [List.map_cons, List.cons.injEq] at hb
        rw [Char.toNat_inj.mp hb.1, ih b hb.2]
  exact String.toList_inj.mp (key _ _ h2)
/-! ### steps -/
def Stp.key : Stp → List Key
  | .given r => [.inr (Str.ofString "given"), .inl r]
  | .side s => [.inr (Str.ofString "side"), .inl s]
  | .add i j => [.inr (Str.ofString "add"), .inl i, .inl j]
  | .times i k => [.inr (Str.ofString "times"), .inl i, .inl k]
  | .cut i k => [.inr (Str.ofString "cut"), .inl i, .inl k]
  | .size i => [.inr (Str.ofString "size"), .inl i]
instance (rows here : Int) (st : Stp) : Decidable (st.good rows here) := by
  cases st <;> unfold Stp.good <;> infer_instance
abbrev rStep : Rep (List Key) := repTupL repKey
abbrev rPaper : Rep (List (List Key)) := repList rStep
theorem step_at {K : PySem.W.Frag} {H : Hp} {v : V} {ks : List Key} (h : rStep.rel K H v ks) : ∃ p, v = .ref p ∧ H p = some (.tup (ks.map kV)) := by
  obtain ⟨p, xs, rfl, hT, hp⟩ := h
  rw [paired_map kV (fun _ _ z => z) hp] at hT
  exact ⟨p, rfl, hT⟩
theorem at_step {K : PySem.W.Frag} {H : Hp} {p : Addr} : ∀ {ks : List Key}, H p = some (.tup (ks.map kV)) → rStep.rel K H (.ref p) ks := fun {ks} h =>
  ⟨p, _, rfl, h, by
    clear h
    induction ks with
    | nil => exact .nil
    | cons k ks ih => exact .cons rfl ih⟩
/-- a step stays where only lists change -/
theorem step_mono {K : PySem.W.Frag} {H H' : Hp} {v : V} {ks : List Key} (e : SameT H H') (h : rStep.rel K H v ks) : rStep.rel K H' v ks := by
  obtain ⟨p, rfl, hT⟩ := step_at h
  exact at_step (e _ _ hT)
/-- a paper in the heap -/
structure PapAt (K : PySem.W.Frag) (n : Int) (H : Hp) (pa : Addr) (pxs : List V) (paper : List Stp) : Prop where
  at_ : H pa = some (.lst pxs)
  its : Paired (rStep.rel K H) pxs (paper.map Stp.key)
  gd : Goods n paper
theorem PapAt.mono {K : PySem.W.Frag} {n : Int} {H H' : Hp} {pa : Addr} {pxs : List V} {paper : List Stp} (e : Same H H') (h : PapAt K n H pa pxs paper) : PapAt K n H' pa pxs paper :=
  ⟨e _ _ h.at_, Paired.mapP h.its fun _ _ z => rStep.mono e z, h.gd⟩
theorem PapAt.len {K : PySem.W.Frag} {n : Int} {H : Hp} {pa : Addr} {pxs : List V} {paper : List Stp} (h : PapAt K n H pa pxs paper) : pxs.length = paper.length := by rw [h.its.length, List.length_map]
theorem PapAt.snoc {K : PySem.W.Frag} {n : Int} {H : Hp} {pa : Addr} {pxs : List V} {paper : List Stp} {v : V} {st : Stp} (h : PapAt K n H pa pxs paper) (hv : rStep.rel K H v st.key) (g : st.good n paper.length) :
    PapAt K n (upd H pa (.lst (pxs ++ [v]))) pa (pxs ++ [v]) (paper ++ [st]) :=
  ⟨upd_same, by
    rw [List.map_append]
    exact papp (Paired.mapP h.its fun _ _ z => step_mono (SameT.lst h.at_) z) (.cons (step_mono (SameT.lst h.at_) hv) .nil), h.gd.snoc g⟩
/-- a <= b < c, as it is read -/
theorem chain_q {A B : Prop} [Decidable A] [Decidable B] {Q : VK} {H : Hp} (h : Q (.bl (decide (A ∧ B))) H) : if A then Q (.bl (decide B)) H else Q (.bl false) H := by
  split
  · rename_i a
    rw [show decide (A ∧ B) = decide B by simp [a]] at h
    exact h
  · rename_i a
    rw [show decide (A ∧ B) = false by simp [a]] at h
    exact h
/-! ### the dict of the weights -/
def DictFor (ts : List (Int × Int)) (kvs : List (Key × V)) : Prop :=
  (∀ s : Int, valV kvs (Sum.inl s) = if s ∈ ts.map (·.2) then some (.int (sumW ts s)) else none) ∧ (∀ p ∈ kvs, ∃ s : Int, p.1 = Sum.inl s) ∧ kvs.length ≤ ts.length
theorem DictFor.get {ts : List (Int × Int)} {kvs : List (Key × V)} (h : DictFor ts kvs) (s : Int) : (valV kvs (Sum.inl s : Key)).getD (.int 0) = .int (sumW ts s) := by
  rw [h.1 s]
  by_cases e : s ∈ ts.map (·.2)
  · rw [if_pos e]
    rfl
  · rw [if_neg e, sumW_zero e]
    rfl
theorem putK_keys {kvs : List (Key × V)} {k : Key} {v : V} {p : Key × V} (h : p ∈ putK kvs k v) : p.1 = k ∨ ∃ q ∈ kvs, q.1 = p.1 := by
  unfold putK at h
  split at h
  · obtain ⟨q, hq, e⟩ := List.mem_map.mp h
    refine .inr ⟨q, hq, ?_⟩
    rw [← e]
    split <;> rfl
  · rcases List.mem_append.mp h with z | z
    · exact .inr ⟨p, z, rfl⟩
    · rw [List.mem_singleton] at z
      exact .inl (by rw [z])
theorem DictFor.put {ts : List (Int × Int)} {kvs : List (Key × V)} (h : DictFor ts kvs) (t : Int × Int) : DictFor (ts ++ [t]) (putK kvs (Sum.inl t.2) (.int (sumW ts t.2 + t.1))) := by
  refine ⟨fun s => ?_, fun p hp => ?_, ?_⟩
  · rw [valV_put, h.1 s, sumW_snoc]
    by_cases e : s = t.2
    · subst e
      rw [if_pos rfl, if_pos rfl, if_pos (by simp)]
    · have e2 : ¬ (Sum.inl s : Key) = Sum.inl t.2 := fun z => e (Sum.inl.inj z)
      rw [if_neg e2, if_neg (Ne.symm e), Int.add_zero]
      by_cases m : s ∈ ts.map (·.2)
      · rw [if_pos m, if_pos (by simp; simp at m; exact .inl m)]
      · rw [if_neg m, if_neg (by simp; simp at m; exact ⟨m, e⟩)]
  · rcases putK_keys hp with e | ⟨q, hq, e⟩
    · exact ⟨_, e⟩
    · obtain ⟨s, z⟩ := h.2.1 q hq
      exact ⟨s, by rw [← e]; exact z⟩
  · have := length_putK kvs (Sum.inl t.2 : Key) (V.int (sumW ts t.2 + t.1))
    rw [List.length_append]
    have := h.2.2
    simp
    omega
theorem DictFor.nil : DictFor [] [] := ⟨fun s => rfl, fun p hp => absurd hp (by simp), Nat.le_refl _⟩
def keyInt : Key → Int
  | .inl s => s
  | .inr _ => 0
theorem DictFor.keys {ts : List (Int × Int)} {kvs : List (Key × V)} (h : DictFor ts kvs) : (kvs.map fun p => kV p.1) = (kvs.map fun p => keyInt p.1).map V.int := by
  rw [List.map_map]
  refine List.map_congr_left fun p hp => ?_
  obtain ⟨s, e⟩ := h.2.1 p hp
  show kV p.1 = V.int (keyInt p.1)
  rw [e]
  rfl
theorem DictFor.mem {ts : List (Int × Int)} {kvs : List (Key × V)} (h : DictFor ts kvs) (x : Int) : x ∈ kvs.map (fun p => keyInt p.1 / 2) ↔ ∃ t ∈ ts, t.2 / 2 = x := by
  constructor
  · intro hx
    obtain ⟨p, hp, e⟩ := List.mem_map.mp hx
    obtain ⟨s, es⟩ := h.2.1 p hp
    have hk : (Sum.inl s : Key) ∈ kvs.map (·.1) := List.mem_map.mpr ⟨p, hp, es⟩
    have hv : s ∈ ts.map (·.2) := by
      by_cases m : s ∈ ts.map (·.2)
      · exact m
      · have := h.1 s
        rw [if_neg m] at this
        exact absurd hk (valV_not this)
    obtain ⟨t, ht, q⟩ := List.mem_map.mp hv
    refine ⟨t, ht, ?_⟩
    rw [q, ← e, es]
    rfl
  · rintro ⟨t, ht, rfl⟩
    have hv : t.2 ∈ ts.map (·.2) := List.mem_map.mpr ⟨t, ht, rfl⟩
    have := h.1 t.2
    rw [if_pos hv] at this
    obtain ⟨p, hp, e⟩ := List.mem_map.mp (valV_in this)
    exact List.mem_map.mpr ⟨p, hp, by rw [e]; rfl⟩
/-- an if by a text that is known -/
theorem ofStr_ne {a b : String} (h : (a == b) = false) : Str.ofString a ≠ Str.ofString b := fun z => by
  rw [str_inj] at z
  rw [z, beq_self_eq_true] at h
  cases h
theorem if_skip {i : Nat} {k s : Str} {t u : TS} {D : Ends} {σ : St} {H : Hp} (hσ : σ[i]? = some (some (.str k))) (ne : k ≠ s) (h : u D σ H) : tIfS (tTest (tOp rEq (tVar i) (tC (.str s)))) t u D σ H := by
  refine ⟨_, hσ, rfl, _, rfl, ?_⟩
  rw [decide_eq_false (fun z => ne (V.str.inj z))]
  exact h
theorem if_take {i : Nat} {s : Str} {t u : TS} {D : Ends} {σ : St} {H : Hp} (hσ : σ[i]? = some (some (.str s))) (h : t D σ H) : tIfS (tTest (tOp rEq (tVar i) (tC (.str s)))) t u D σ H := by
  refine ⟨_, hσ, rfl, _, rfl, ?_⟩
  rw [decide_eq_true rfl]
  exact h
theorem seq_skip {i : Nat} {k s : Str} {t u : TS} {D : Ends} {σ : St} {H : Hp} (hσ : σ[i]? = some (some (.str k))) (ne : k ≠ s) (h : u D σ H) : tSeq (tIfS (tTest (tOp rEq (tVar i) (tC (.str s)))) t tNext) u D σ H := if_skip hσ ne h
theorem seq_take {i : Nat} {s : Str} {t u v : TS} {D : Ends} {σ : St} {H : Hp} (hσ : σ[i]? = some (some (.str s))) (h : t { D with nx := u D } σ H) : tSeq (tIfS (tTest (tOp rEq (tVar i) (tC (.str s)))) t v) u D σ H := if_take hσ h
end Cp
set_option Elab.async false
set_option linter.all false
set_option maxRecDepth 100000
set_option maxHeartbeats 4000000
/-! the writer in the heap -/
namespace Cp
open PySem L2
/-- a heap without the addresses of D -/
def mns (H : Hp) (D : List Addr) : Hp := fun b => if b ∈ D then none else H b
section
variable {H H' : Hp} {D : List Addr} {a b : Addr} {o : HO}
theorem mns_ne (h : b ∉ D) : mns H D b = H b := if_neg h
theorem mns_in (h : b ∈ D) : mns H D b = none := if_pos h
theorem mns_same : Same (mns H D) H := fun b o h => by
  unfold mns at h
  split at h
  · cases h
  · exact h
theorem mns_mono (e : Same H H') : Same (mns H D) (mns H' D) := fun b o h => by
  unfold mns at h ⊢
  split at h
  · cases h
  · rename_i n
    rw [if_neg n]
    exact e _ _ h
theorem mns_upd_in (h : a ∈ D) : mns (upd H a o) D = mns H D := by
  funext c
  unfold mns
  split
  · rfl
  · rename_i n
    exact upd_ne fun z => n (z ▸ h)
theorem mns_at (h : mns H D b = some o) : b ∉ D := fun z => by
  rw [mns_in z] at h
  cases h
/-- what was made since lies outside of D -/
theorem mns_nw (e : Same H H') (hD : ∀ b ∈ D, ∃ u, H b = some u ∧ ∀ xs, u ≠ .tup xs) : Same (nw H H') (mns H' D) := fun b o h => by
  have n : b ∉ D := fun z => by
    obtain ⟨u, hu, nt⟩ := hD b z
    unfold nw at h
    rw [hu] at h
    cases u with
    | tup xs => exact nt xs rfl
    | _ => cases h
  rw [mns_ne n]
  exact nw_same _ _ _ _ h
end
theorem upd_none {H : Hp} {a b : Addr} {o : HO} (h : upd H a o b = none) : b ≠ a ∧ H b = none := by
  by_cases z : b = a
  · rw [z, upd_same] at h
    cases h
  · rw [upd_ne z] at h
    exact ⟨z, h⟩
theorem Stp.key_inj : ∀ {a b : Stp}, a.key = b.key → a = b := by
  intro a b h
  cases a <;> cases b <;> simp only [Stp.key, List.cons.injEq, Sum.inr.injEq, Sum.inl.injEq, str_inj, String.reduceEq, false_and, true_and, and_true, and_false, reduceCtorEq] at h <;> first | exact h.elim | (obtain ⟨h1, h2⟩ := h; rw [h1, h2]) | (rw [h])
/-- the numbers that are kept of the steps -/
structure Nums (kvs : List (List Key × V)) (p : List Stp) : Prop where
  at_ : ∀ (st : Stp) (v : V), valV kvs st.key = some v → ∃ i : Nat, p[i]? = some st ∧ v = .int i
  len : kvs.length ≤ p.length
theorem Nums.nil : Nums [] [] := ⟨fun st v h => (nomatch h), Nat.le_refl 0⟩
def wflds (ra sa ma na : Addr) : List (Str × V) := putF "numbers" (.ref na) (putF "made" (.ref ma) (putF "steps" (.ref sa) (putF "rows" (.ref ra) [])))
theorem wf_numbers (ra sa ma na : Addr) : (wflds ra sa ma na).lookup ("numbers" : Str) = some (.ref na) := by
  unfold wflds
  rw [lookup_putF, if_pos rfl]
theorem wf_made (ra sa ma na : Addr) : (wflds ra sa ma na).lookup ("made" : Str) = some (.ref ma) := by
  unfold wflds
  rw [lookup_putF, if_neg (by decide +kernel), lookup_putF, if_pos rfl]
theorem wf_steps (ra sa ma na : Addr) : (wflds ra sa ma na).lookup ("steps" : Str) = some (.ref sa) := by
  unfold wflds
  rw [lookup_putF, if_neg (by decide +kernel), lookup_putF, if_neg (by decide +kernel), lookup_putF, if_pos rfl]
theorem wf_rows (ra sa ma na : Addr) : (wflds ra sa ma na).lookup ("rows" : Str) = some (.ref ra) := by
  unfold wflds
  rw [lookup_putF, if_neg (by decide +kernel), lookup_putF, if_neg (by decide +kernel), lookup_putF, if_neg (by decide +kernel), lookup_putF, if_pos rfl]
theorem wf_no (ra sa ma na : Addr) {m : Str} (h1 : ¬ m = "numbers") (h2 : ¬ m = "made") (h3 : ¬ m = "steps") (h4 : ¬ m = "rows") : (wflds ra sa ma na).lookup m = none := by
  unfold wflds
  rw [lookup_putF, if_neg h1, lookup_putF, if_neg h2, lookup_putF, if_neg h3, lookup_putF, if_neg h4]
  all_goals rfl
/-- a writer stands at x: its steps at sa, their lines at ma, their numbers at na -/
structure WrAt (K : PySem.W.Frag) (C : Addr) (H : Hp) (x sa ma na : Addr) (rows : List Row) (p : List Stp) : Prop where
  ob : ∃ dx ra, mns H [sa, ma, na] x = some (.ins C dx (wflds ra sa ma na)) ∧ rRows.rel K (mns H [sa, ma, na]) (.ref ra) rows
  st : ∃ xs, H sa = some (.lst xs) ∧ Paired (rStep.rel K (mns H [sa, ma, na])) xs (p.map Stp.key)
  md : ∃ ys, H ma = some (.lst ys) ∧ Paired (rRow.rel K (mns H [sa, ma, na])) ys (linesR rows p)
  nm : ∃ kvs, H na = some (.dT kvs) ∧ Nums kvs p
  gd : Goods rows.length p
  ti : ∀ r ∈ rows, Tidy r.1
  ne : sa ≠ ma
section
variable {K : PySem.W.Frag} {C : Addr} {H H' : Hp} {x sa ma na : Addr} {rows : List Row} {p : List Stp}
/-- the writer's own three are left as they are -/
theorem WrAt.keep (w : WrAt K C H x sa ma na rows p) (e : Same H H') : WrAt K C H' x sa ma na rows p := by
  obtain ⟨⟨dx, ra, h1, h2⟩, ⟨xs, h3, h4⟩, ⟨ys, h5, h6⟩, ⟨kvs, h7, h8⟩, gd, ti, ne⟩ := w
  have m := mns_mono (D := [sa, ma, na]) e
  exact ⟨⟨dx, ra, m _ _ h1, rRows.mono m h2⟩, ⟨xs, e _ _ h3, Paired.mapP h4 fun _ _ z => rStep.mono m z⟩, ⟨ys, e _ _ h5, Paired.mapP h6 fun _ _ z => rRow.mono m z⟩, ⟨kvs, e _ _ h7, h8⟩, gd, ti, ne⟩
theorem WrAt.own (w : WrAt K C H x sa ma na rows p) : ∀ b ∈ [sa, ma, na], ∃ u, H b = some u ∧ ∀ xs, u ≠ .tup xs := fun b hb => by
  obtain ⟨_, ⟨xs, h3, _⟩, ⟨ys, h5, _⟩, ⟨kvs, h7, _⟩, _⟩ := w
  simp only [List.mem_cons, List.not_mem_nil, or_false] at hb
  rcases hb with z | z | z <;> subst z
  · exact ⟨_, h3, fun _ q => by cases q⟩
  · exact ⟨_, h5, fun _ q => by cases q⟩
  · exact ⟨_, h7, fun _ q => by cases q⟩
theorem WrAt.nots (w : WrAt K C H x sa ma na rows p) {b : Addr} (h : H b = none) : b ∉ [sa, ma, na] := fun z => by
  obtain ⟨u, hu, _⟩ := w.own b z
  rw [h] at hu
  cases hu
/-- a step that is not there yet is written -/
theorem Nums.put {kvs : List (List Key × V)} {p : List Stp} {st : Stp} (h : Nums kvs p) : Nums (putK kvs st.key (.int (p.length : Nat))) (p ++ [st]) where
  at_ := fun st' v e => by
    rw [valV_put] at e
    by_cases z : st'.key = st.key
    · rw [if_pos z] at e
      cases e
      rw [Stp.key_inj z]
      exact ⟨p.length, by simp, rfl⟩
    · rw [if_neg z] at e
      obtain ⟨i, h1, h2⟩ := h.at_ st' v e
      exact ⟨i, by rw [List.getElem?_append_left (List.getElem?_eq_some_iff.mp h1).1]; exact h1, h2⟩
  len := by
    rw [List.length_append]
    have := length_putK kvs st.key (.int (p.length : Nat))
    have := h.len
    simp
    omega
/-- the line number n -/
theorem WrAt.line (w : WrAt K C H x sa ma na rows p) {n : Nat} (hn : n < p.length) : ∃ ys v, H ma = some (.lst ys) ∧ atI ys (n : Int) = some v ∧ rRow.rel K (mns H [sa, ma, na]) v (LN rows p n) := by
  obtain ⟨_, _, ⟨ys, h5, h6⟩, _⟩ := w
  obtain ⟨v, e1, r, e2, hv⟩ := atI_pair h6 (i := (n : Int)) (by omega) (by rw [linesR_len rows _ p rfl]; omega)
  refine ⟨ys, v, h5, e1, ?_⟩
  rw [Int.toNat_natCast] at e2
  unfold LN
  rw [List.getD_eq_getElem?_getD, e2]
  exact hv
theorem inV_ints (s : Int) : ∀ ns : List Int, inV (.int s) (ns.map V.int) = decide (s ∈ ns)
  | [] => rfl
  | n :: ns => by
    have ih := inV_ints s ns
    unfold inV at ih ⊢
    rw [List.map_cons, List.any_cons, ih]
    show (n == s || decide (s ∈ ns)) = decide (s ∈ n :: ns)
    rw [Bool.eq_iff_iff, Bool.or_eq_true, beq_iff_eq, decide_eq_true_iff, decide_eq_true_iff, List.mem_cons]
    exact ⟨fun z => z.imp_left Eq.symm, fun z => z.imp_left Eq.symm⟩
theorem flat_ints : ∀ ns : List Int, (ns.map V.int).all flatV = true
  | [] => rfl
  | n :: ns => by
    rw [List.map_cons, List.all_cons, flat_ints ns]
    rfl
/-- a step made for the writer -/
theorem WrAt.step (w : WrAt K C H x sa ma na rows p) {t : Addr} (ht : H t = none) (st : Stp) : WrAt K C (upd H t (.tup (st.key.map kV))) x sa ma na rows p ∧
    rStep.rel K (mns (upd H t (.tup (st.key.map kV))) [sa, ma, na]) (.ref t) st.key ∧ Same (mns H [sa, ma, na]) (mns (upd H t (.tup (st.key.map kV))) [sa, ma, na]) := by
  have e := Same.new (o := .tup (st.key.map kV)) ht
  refine ⟨w.keep e, at_step ?_, mns_mono e⟩
  rw [mns_ne (w.nots ht)]
  exact upd_same
theorem WrAt.inst (w : WrAt K C H x sa ma na rows p) : ∃ dx ra, H x = some (.ins C dx (wflds ra sa ma na)) ∧ rRows.rel K (mns H [sa, ma, na]) (.ref ra) rows := by
  obtain ⟨⟨dx, ra, h1, h2⟩, _⟩ := w
  exact ⟨dx, ra, mns_same _ _ h1, h2⟩
theorem Grow.wr {rows : List Row} {p p' : List Stp} {st : Stp} {m : Nat} (w : WR p st p' m) (g : Goods rows.length p) (gs : st.good rows.length p.length) : Grow rows p p' 1 := w.grow g gs
end
end Cp
set_option Elab.async false
set_option linter.all false
set_option maxRecDepth 100000
set_option maxHeartbeats 4000000
namespace Cp
open PySem L2
def top (i : Nat) : Stmt := PySem.Challenge.pw_cutpaper_k13_whole_the_best_and_its_pape.main.body.getD i (.Pass ⟨0, 0, 0, 0⟩)
abbrev s_is_met : Stmt := top 1
abbrev N_is_met : List Str := ["side", "filling"]
abbrev P_is_met : List Str := ["side", "filling"]
theorem sc_is_met : FnScope N_is_met P_is_met (defScope s_is_met) := ⟨rfl, rfl, rfl, by decide +kernel, rfl, by decide +kernel, by decide +kernel⟩
abbrev s_other_side : Stmt := top 2
abbrev N_other_side : List Str := ["side"]
abbrev P_other_side : List Str := ["side"]
theorem sc_other_side : FnScope N_other_side P_other_side (defScope s_other_side) := ⟨rfl, rfl, rfl, by decide +kernel, rfl, by decide +kernel, by decide +kernel⟩
abbrev s_met_weight : Stmt := top 3
abbrev N_met_weight : List Str := ["terms", "filling"]
abbrev P_met_weight : List Str := ["terms", "filling"]
theorem sc_met_weight : FnScope N_met_weight P_met_weight (defScope s_met_weight) := ⟨rfl, rfl, rfl, by decide +kernel, rfl, by decide +kernel, by decide +kernel⟩
abbrev s_weights_by_side : Stmt := top 4
abbrev N_weights_by_side : List Str := ["terms", "weights", "weight", "side"]
abbrev P_weights_by_side : List Str := ["terms"]
theorem sc_weights_by_side : FnScope N_weights_by_side P_weights_by_side (defScope s_weights_by_side) := ⟨rfl, rfl, rfl, by decide +kernel, rfl, by decide +kernel, by decide +kernel⟩
abbrev s_tidy : Stmt := top 5
abbrev N_tidy : List Str := ["row", "weights", "terms", "least", "unknown", "yes", "no"]
abbrev P_tidy : List Str := ["row"]
theorem sc_tidy : FnScope N_tidy P_tidy (defScope s_tidy) := ⟨rfl, rfl, rfl, by decide +kernel, rfl, by decide +kernel, by decide +kernel⟩
abbrev s_added : Stmt := top 6
abbrev N_added : List Str := ["one", "other"]
abbrev P_added : List Str := ["one", "other"]
theorem sc_added : FnScope N_added P_added (defScope s_added) := ⟨rfl, rfl, rfl, by decide +kernel, rfl, by decide +kernel, by decide +kernel⟩
abbrev s_times : Stmt := top 7
abbrev N_times : List Str := ["row", "number"]
abbrev P_times : List Str := ["row", "number"]
theorem sc_times : FnScope N_times P_times (defScope s_times) := ⟨rfl, rfl, rfl, by decide +kernel, rfl, by decide +kernel, by decide +kernel⟩
abbrev s_divided_up : Stmt := top 8
abbrev N_divided_up : List Str := ["number", "divisor"]
abbrev P_divided_up : List Str := ["number", "divisor"]
theorem sc_divided_up : FnScope N_divided_up P_divided_up (defScope s_divided_up) := ⟨rfl, rfl, rfl, by decide +kernel, rfl, by decide +kernel, by decide +kernel⟩
abbrev s_cut : Stmt := top 9
abbrev N_cut : List Str := ["row", "number", "terms"]
abbrev P_cut : List Str := ["row", "number"]
theorem sc_cut : FnScope N_cut P_cut (defScope s_cut) := ⟨rfl, rfl, rfl, by decide +kernel, rfl, by decide +kernel, by decide +kernel⟩
abbrev s_sized : Stmt := top 10
abbrev N_sized : List Str := ["row", "least"]
abbrev P_sized : List Str := ["row"]
theorem sc_sized : FnScope N_sized P_sized (defScope s_sized) := ⟨rfl, rfl, rfl, by decide +kernel, rfl, by decide +kernel, by decide +kernel⟩
abbrev s_line_of : Stmt := top 12
abbrev N_line_of : List Str := ["step", "rows", "ahead", "kind", "line"]
abbrev P_line_of : List Str := ["step", "rows", "ahead"]
theorem sc_line_of : FnScope N_line_of P_line_of (defScope s_line_of) := ⟨rfl, rfl, rfl, by decide +kernel, rfl, by decide +kernel, by decide +kernel⟩
abbrev s_is_failed : Stmt := top 14
abbrev N_is_failed : List Str := ["side", "start"]
abbrev P_is_failed : List Str := ["side", "start"]
theorem sc_is_failed : FnScope N_is_failed P_is_failed (defScope s_is_failed) := ⟨rfl, rfl, rfl, by decide +kernel, rfl, by decide +kernel, by decide +kernel⟩
abbrev s_most_to_come : Stmt := top 15
abbrev N_most_to_come : List Str := ["row", "start"]
abbrev P_most_to_come : List Str := ["row", "start"]
theorem sc_most_to_come : FnScope N_most_to_come P_most_to_come (defScope s_most_to_come) := ⟨rfl, rfl, rfl, by decide +kernel, rfl, by decide +kernel, by decide +kernel⟩
abbrev s_first_broken : Stmt := top 16
abbrev N_first_broken : List Str := ["rows", "start", "number", "row"]
abbrev P_first_broken : List Str := ["rows", "start"]
theorem sc_first_broken : FnScope N_first_broken P_first_broken (defScope s_first_broken) := ⟨rfl, rfl, rfl, by decide +kernel, rfl, by decide +kernel, by decide +kernel⟩
abbrev s_filling_from : Stmt := top 17
abbrev N_filling_from : List Str := ["unknowns", "rows", "start", "found"]
abbrev P_filling_from : List Str := ["unknowns", "rows", "start"]
theorem sc_filling_from : FnScope N_filling_from P_filling_from (defScope s_filling_from) := ⟨rfl, rfl, rfl, by decide +kernel, rfl, by decide +kernel, by decide +kernel⟩
abbrev s_meeting : Stmt := top 18
abbrev N_meeting : List Str := ["unknowns", "rows"]
abbrev P_meeting : List Str := ["unknowns", "rows"]
theorem sc_meeting : FnScope N_meeting P_meeting (defScope s_meeting) := ⟨rfl, rfl, rfl, by decide +kernel, rfl, by decide +kernel, by decide +kernel⟩
abbrev s_Writer___init__ : Stmt := inClass (top 19) 0
abbrev N_Writer___init__ : List Str := ["self", "rows"]
abbrev P_Writer___init__ : List Str := ["self", "rows"]
theorem sc_Writer___init__ : FnScope N_Writer___init__ P_Writer___init__ (defScope s_Writer___init__) := ⟨rfl, rfl, rfl, by decide +kernel, rfl, by decide +kernel, by decide +kernel⟩
abbrev s_Writer_write : Stmt := inClass (top 19) 1
abbrev N_Writer_write : List Str := ["self", "step"]
abbrev P_Writer_write : List Str := ["self", "step"]
theorem sc_Writer_write : FnScope N_Writer_write P_Writer_write (defScope s_Writer_write) := ⟨rfl, rfl, rfl, by decide +kernel, rfl, by decide +kernel, by decide +kernel⟩
abbrev s_Writer_names : Stmt := inClass (top 19) 2
abbrev N_Writer_names : List Str := ["self", "number", "side"]
abbrev P_Writer_names : List Str := ["self", "number", "side"]
theorem sc_Writer_names : FnScope N_Writer_names P_Writer_names (defScope s_Writer_names) := ⟨rfl, rfl, rfl, by decide +kernel, rfl, by decide +kernel, by decide +kernel⟩
abbrev s_Writer_without : Stmt := inClass (top 19) 3
abbrev N_Writer_without : List Str := ["self", "number", "weight", "side", "other", "against"]
abbrev P_Writer_without : List Str := ["self", "number", "weight", "side"]
theorem sc_Writer_without : FnScope N_Writer_without P_Writer_without (defScope s_Writer_without) := ⟨rfl, rfl, rfl, by decide +kernel, rfl, by decide +kernel, by decide +kernel⟩
abbrev s_Writer_bare : Stmt := inClass (top 19) 4
abbrev N_Writer_bare : List Str := ["self", "number", "terms", "greatest"]
abbrev P_Writer_bare : List Str := ["self", "number"]
theorem sc_Writer_bare : FnScope N_Writer_bare P_Writer_bare (defScope s_Writer_bare) := ⟨rfl, rfl, rfl, by decide +kernel, rfl, by decide +kernel, by decide +kernel⟩
abbrev s_Writer_bare_of_row : Stmt := inClass (top 19) 5
abbrev N_Writer_bare_of_row : List Str := ["self", "row_number", "start", "number", "weight", "side"]
abbrev P_Writer_bare_of_row : List Str := ["self", "row_number", "start"]
theorem sc_Writer_bare_of_row : FnScope N_Writer_bare_of_row P_Writer_bare_of_row (defScope s_Writer_bare_of_row) := ⟨rfl, rfl, rfl, by decide +kernel, rfl, by decide +kernel, by decide +kernel⟩
abbrev s_refuted : Stmt := top 20
abbrev N_refuted : List Str := ["writer", "start", "broken", "yes_side", "yes", "no"]
abbrev P_refuted : List Str := ["writer", "start"]
theorem sc_refuted : FnScope N_refuted P_refuted (defScope s_refuted) := ⟨rfl, rfl, rfl, by decide +kernel, rfl, by decide +kernel, by decide +kernel⟩
abbrev s_paper_against : Stmt := top 21
abbrev N_paper_against : List Str := ["rows", "writer"]
abbrev P_paper_against : List Str := ["rows"]
theorem sc_paper_against : FnScope N_paper_against P_paper_against (defScope s_paper_against) := ⟨rfl, rfl, rfl, by decide +kernel, rfl, by decide +kernel, by decide +kernel⟩
abbrev s_find : Stmt := top 22
abbrev N_find : List Str := ["unknowns", "rows", "filling"]
abbrev P_find : List Str := ["unknowns", "rows"]
theorem sc_find : FnScope N_find P_find (defScope s_find) := ⟨rfl, rfl, rfl, by decide +kernel, rfl, by decide +kernel, by decide +kernel⟩
abbrev s_worth : Stmt := top 24
abbrev N_worth : List Str := ["terms", "filling"]
abbrev P_worth : List Str := ["terms", "filling"]
theorem sc_worth : FnScope N_worth P_worth (defScope s_worth) := ⟨rfl, rfl, rfl, by decide +kernel, rfl, by decide +kernel, by decide +kernel⟩
abbrev s_better : Stmt := top 25
abbrev N_better : List Str := ["unknowns", "rows", "terms", "filling"]
abbrev P_better : List Str := ["unknowns", "rows", "terms", "filling"]
theorem sc_better : FnScope N_better P_better (defScope s_better) := ⟨rfl, rfl, rfl, by decide +kernel, rfl, by decide +kernel, by decide +kernel⟩
abbrev s_best : Stmt := top 26
abbrev N_best : List Str := ["unknowns", "rows", "terms", "found", "filling"]
abbrev P_best : List Str := ["unknowns", "rows", "terms"]
theorem sc_best : FnScope N_best P_best (defScope s_best) := ⟨rfl, rfl, rfl, by decide +kernel, rfl, by decide +kernel, by decide +kernel⟩
abbrev s_law_cell_at : Stmt := top 28
abbrev N_law_cell_at : List Str := ["script", "k"]
abbrev P_law_cell_at : List Str := ["script", "k"]
theorem sc_law_cell_at : FnScope N_law_cell_at P_law_cell_at (defScope s_law_cell_at) := ⟨rfl, rfl, rfl, by decide +kernel, rfl, by decide +kernel, by decide +kernel⟩
abbrev s_law_whole : Stmt := top 29
abbrev N_law_whole : List Str := ["found"]
abbrev P_law_whole : List Str := ["found"]
theorem sc_law_whole : FnScope N_law_whole P_law_whole (defScope s_law_whole) := ⟨rfl, rfl, rfl, by decide +kernel, rfl, by decide +kernel, by decide +kernel⟩
abbrev s_law_mixed : Stmt := top 30
abbrev N_law_mixed : List Str := ["cell", "k", "mixed", "turn"]
abbrev P_law_mixed : List Str := ["cell", "k"]
theorem sc_law_mixed : FnScope N_law_mixed P_law_mixed (defScope s_law_mixed) := ⟨rfl, rfl, rfl, by decide +kernel, rfl, by decide +kernel, by decide +kernel⟩
abbrev s_law_row_by : Stmt := top 31
abbrev N_law_row_by : List Str := ["cell", "unknowns", "size", "great", "terms", "k", "one", "weight", "least"]
abbrev P_law_row_by : List Str := ["cell", "unknowns", "size"]
theorem sc_law_row_by : FnScope N_law_row_by P_law_row_by (defScope s_law_row_by) := ⟨rfl, rfl, rfl, by decide +kernel, rfl, by decide +kernel, by decide +kernel⟩
abbrev s_law_rows_by : Stmt := top 32
abbrev N_law_rows_by : List Str := ["script", "start", "many", "unknowns"]
abbrev P_law_rows_by : List Str := ["script", "start", "many", "unknowns"]
theorem sc_law_rows_by : FnScope N_law_rows_by P_law_rows_by (defScope s_law_rows_by) := ⟨rfl, rfl, rfl, by decide +kernel, rfl, by decide +kernel, by decide +kernel⟩
abbrev s_law_worth : Stmt := top 33
abbrev N_law_worth : List Str := ["terms", "filling", "total", "weight", "side"]
abbrev P_law_worth : List Str := ["terms", "filling"]
theorem sc_law_worth : FnScope N_law_worth P_law_worth (defScope s_law_worth) := ⟨rfl, rfl, rfl, by decide +kernel, rfl, by decide +kernel, by decide +kernel⟩
abbrev s_law_holds : Stmt := top 34
abbrev N_law_holds : List Str := ["row", "filling"]
abbrev P_law_holds : List Str := ["row", "filling"]
theorem sc_law_holds : FnScope N_law_holds P_law_holds (defScope s_law_holds) := ⟨rfl, rfl, rfl, by decide +kernel, rfl, by decide +kernel, by decide +kernel⟩
abbrev s_law_tidy : Stmt := top 36
abbrev N_law_tidy : List Str := ["row", "sums", "weight", "side", "terms", "least", "at", "yes", "no"]
abbrev P_law_tidy : List Str := ["row"]
theorem sc_law_tidy : FnScope N_law_tidy P_law_tidy (defScope s_law_tidy) := ⟨rfl, rfl, rfl, by decide +kernel, rfl, by decide +kernel, by decide +kernel⟩
abbrev s_law_up : Stmt := top 37
abbrev N_law_up : List Str := ["number", "part", "whole"]
abbrev P_law_up : List Str := ["number", "part"]
theorem sc_law_up : FnScope N_law_up P_law_up (defScope s_law_up) := ⟨rfl, rfl, rfl, by decide +kernel, rfl, by decide +kernel, by decide +kernel⟩
abbrev s_law_cut : Stmt := top 38
abbrev N_law_cut : List Str := ["row", "number"]
abbrev P_law_cut : List Str := ["row", "number"]
theorem sc_law_cut : FnScope N_law_cut P_law_cut (defScope s_law_cut) := ⟨rfl, rfl, rfl, by decide +kernel, rfl, by decide +kernel, by decide +kernel⟩
abbrev s_law_sized : Stmt := top 39
abbrev N_law_sized : List Str := ["row"]
abbrev P_law_sized : List Str := ["row"]
theorem sc_law_sized : FnScope N_law_sized P_law_sized (defScope s_law_sized) := ⟨rfl, rfl, rfl, by decide +kernel, rfl, by decide +kernel, by decide +kernel⟩
abbrev s_law_near : Stmt := top 40
abbrev N_law_near : List Str := ["number", "many"]
abbrev P_law_near : List Str := ["number", "many"]
theorem sc_law_near : FnScope N_law_near P_law_near (defScope s_law_near) := ⟨rfl, rfl, rfl, by decide +kernel, rfl, by decide +kernel, by decide +kernel⟩
abbrev s_law_line : Stmt := top 41
abbrev N_law_line : List Str := ["rows", "made", "step", "kind", "here", "one", "other"]
abbrev P_law_line : List Str := ["rows", "made", "step"]
theorem sc_law_line : FnScope N_law_line P_law_line (defScope s_law_line) := ⟨rfl, rfl, rfl, by decide +kernel, rfl, by decide +kernel, by decide +kernel⟩
abbrev s_law_is_step : Stmt := top 42
abbrev N_law_is_step : List Str := ["step"]
abbrev P_law_is_step : List Str := ["step"]
theorem sc_law_is_step : FnScope N_law_is_step P_law_is_step (defScope s_law_is_step) := ⟨rfl, rfl, rfl, by decide +kernel, rfl, by decide +kernel, by decide +kernel⟩
abbrev s_law_refutes : Stmt := top 43
abbrev N_law_refutes : List Str := ["rows", "paper", "made", "step", "line"]
abbrev P_law_refutes : List Str := ["rows", "paper"]
theorem sc_law_refutes : FnScope N_law_refutes P_law_refutes (defScope s_law_refutes) := ⟨rfl, rfl, rfl, by decide +kernel, rfl, by decide +kernel, by decide +kernel⟩
abbrev s_law_is_filling : Stmt := top 44
abbrev N_law_is_filling : List Str := ["found", "unknowns", "rows", "one", "row"]
abbrev P_law_is_filling : List Str := ["found", "unknowns", "rows"]
theorem sc_law_is_filling : FnScope N_law_is_filling P_law_is_filling (defScope s_law_is_filling) := ⟨rfl, rfl, rfl, by decide +kernel, rfl, by decide +kernel, by decide +kernel⟩
abbrev s_law_copied : Stmt := top 45
abbrev N_law_copied : List Str := ["rows"]
abbrev P_law_copied : List Str := ["rows"]
theorem sc_law_copied : FnScope N_law_copied P_law_copied (defScope s_law_copied) := ⟨rfl, rfl, rfl, by decide +kernel, rfl, by decide +kernel, by decide +kernel⟩
abbrev s_law : Stmt := top 46
abbrev N_law : List Str := ["script", "head", "unknowns", "many", "rows", "terms", "handed", "given", "found", "due", "told"]
abbrev P_law : List Str := ["script"]
theorem sc_law : FnScope N_law P_law (defScope s_law) := ⟨rfl, rfl, rfl, by decide +kernel, rfl, by decide +kernel, by decide +kernel⟩
/-- a def of the text -/
structure Df (K : PySem.W.Frag) (mg : Str → Option Value) (x : Str) (st : Stmt) (ps : List Str) (f : Addr) (fd : FuncData) : Prop where
  fn : Fun K x x st f fd
  mg : mg x = some (.ref f)
  bd : Binds K fd ps []
/-- a class of the text, and a method -/
structure Cl (K : PySem.W.Frag) (mg : Str → Option Value) (x : Str) (C fI : Addr) : Prop where
  cl : Cls K C
  mg : mg x = some (.ref C)
  made : Mk K C fI
structure Mt (K : PySem.W.Frag) (C : Addr) (x q : Str) (st : Stmt) (ps : List Str) (f : Addr) (fd : FuncData) : Prop where
  fn : Fun K x q st f fd
  me : Meth K C x f
  bd : Binds K fd ps []
set_option genInjectivity false in
set_option genSizeOf false in
/-- what the top has written -/
structure Tx (K : PySem.W.Frag) (mg : Str → Option Value) where
  C_Writer : Addr
  f_is_met : Addr
  d_is_met : FuncData
  is_met : Df K mg "is_met" s_is_met P_is_met f_is_met d_is_met
  f_other_side : Addr
  d_other_side : FuncData
  other_side : Df K mg "other_side" s_other_side P_other_side f_other_side d_other_side
  f_met_weight : Addr
  d_met_weight : FuncData
  met_weight : Df K mg "met_weight" s_met_weight P_met_weight f_met_weight d_met_weight
  f_weights_by_side : Addr
  d_weights_by_side : FuncData
  weights_by_side : Df K mg "weights_by_side" s_weights_by_side P_weights_by_side f_weights_by_side d_weights_by_side
  f_tidy : Addr
  d_tidy : FuncData
  tidy : Df K mg "tidy" s_tidy P_tidy f_tidy d_tidy
  f_added : Addr
  d_added : FuncData
  added : Df K mg "added" s_added P_added f_added d_added
  f_times : Addr
  d_times : FuncData
  times : Df K mg "times" s_times P_times f_times d_times
  f_divided_up : Addr
  d_divided_up : FuncData
  divided_up : Df K mg "divided_up" s_divided_up P_divided_up f_divided_up d_divided_up
  f_cut : Addr
  d_cut : FuncData
  cut : Df K mg "cut" s_cut P_cut f_cut d_cut
  f_sized : Addr
  d_sized : FuncData
  sized : Df K mg "sized" s_sized P_sized f_sized d_sized
  f_line_of : Addr
  d_line_of : FuncData
  line_of : Df K mg "line_of" s_line_of P_line_of f_line_of d_line_of
  f_is_failed : Addr
  d_is_failed : FuncData
  is_failed : Df K mg "is_failed" s_is_failed P_is_failed f_is_failed d_is_failed
  f_most_to_come : Addr
  d_most_to_come : FuncData
  most_to_come : Df K mg "most_to_come" s_most_to_come P_most_to_come f_most_to_come d_most_to_come
  f_first_broken : Addr
  d_first_broken : FuncData
  first_broken : Df K mg "first_broken" s_first_broken P_first_broken f_first_broken d_first_broken
  f_filling_from : Addr
  d_filling_from : FuncData
  filling_from : Df K mg "filling_from" s_filling_from P_filling_from f_filling_from d_filling_from
  f_meeting : Addr
  d_meeting : FuncData
  meeting : Df K mg "meeting" s_meeting P_meeting f_meeting d_meeting
  f_Writer___init__ : Addr
  d_Writer___init__ : FuncData
  Writer___init__ : Mt K C_Writer "__init__" "Writer.__init__" s_Writer___init__ P_Writer___init__ f_Writer___init__ d_Writer___init__
  f_Writer_write : Addr
  d_Writer_write : FuncData
  Writer_write : Mt K C_Writer "write" "Writer.write" s_Writer_write P_Writer_write f_Writer_write d_Writer_write
  f_Writer_names : Addr
  d_Writer_names : FuncData
  Writer_names : Mt K C_Writer "names" "Writer.names" s_Writer_names P_Writer_names f_Writer_names d_Writer_names
  f_Writer_without : Addr
  d_Writer_without : FuncData
  Writer_without : Mt K C_Writer "without" "Writer.without" s_Writer_without P_Writer_without f_Writer_without d_Writer_without
  f_Writer_bare : Addr
  d_Writer_bare : FuncData
  Writer_bare : Mt K C_Writer "bare" "Writer.bare" s_Writer_bare P_Writer_bare f_Writer_bare d_Writer_bare
  f_Writer_bare_of_row : Addr
  d_Writer_bare_of_row : FuncData
  Writer_bare_of_row : Mt K C_Writer "bare_of_row" "Writer.bare_of_row" s_Writer_bare_of_row P_Writer_bare_of_row f_Writer_bare_of_row d_Writer_bare_of_row
  f_refuted : Addr
  d_refuted : FuncData
  refuted : Df K mg "refuted" s_refuted P_refuted f_refuted d_refuted
  f_paper_against : Addr
  d_paper_against : FuncData
  paper_against : Df K mg "paper_against" s_paper_against P_paper_against f_paper_against d_paper_against
  f_find : Addr
  d_find : FuncData
  find : Df K mg "find" s_find P_find f_find d_find
  f_worth : Addr
  d_worth : FuncData
  worth : Df K mg "worth" s_worth P_worth f_worth d_worth
  f_better : Addr
  d_better : FuncData
  better : Df K mg "better" s_better P_better f_better d_better
  f_best : Addr
  d_best : FuncData
  best : Df K mg "best" s_best P_best f_best d_best
  f_law_cell_at : Addr
  d_law_cell_at : FuncData
  law_cell_at : Df K mg "_law_cell_at" s_law_cell_at P_law_cell_at f_law_cell_at d_law_cell_at
  f_law_whole : Addr
  d_law_whole : FuncData
  law_whole : Df K mg "_law_whole" s_law_whole P_law_whole f_law_whole d_law_whole
  f_law_mixed : Addr
  d_law_mixed : FuncData
  law_mixed : Df K mg "_law_mixed" s_law_mixed P_law_mixed f_law_mixed d_law_mixed
  f_law_row_by : Addr
  d_law_row_by : FuncData
  law_row_by : Df K mg "_law_row_by" s_law_row_by P_law_row_by f_law_row_by d_law_row_by
  f_law_rows_by : Addr
  d_law_rows_by : FuncData
  law_rows_by : Df K mg "_law_rows_by" s_law_rows_by P_law_rows_by f_law_rows_by d_law_rows_by
  f_law_worth : Addr
  d_law_worth : FuncData
  law_worth : Df K mg "_law_worth" s_law_worth P_law_worth f_law_worth d_law_worth
  f_law_holds : Addr
  d_law_holds : FuncData
  law_holds : Df K mg "_law_holds" s_law_holds P_law_holds f_law_holds d_law_holds
  f_law_tidy : Addr
  d_law_tidy : FuncData
  law_tidy : Df K mg "_law_tidy" s_law_tidy P_law_tidy f_law_tidy d_law_tidy
  f_law_up : Addr
  d_law_up : FuncData
  law_up : Df K mg "_law_up" s_law_up P_law_up f_law_up d_law_up
  f_law_cut : Addr
  d_law_cut : FuncData
  law_cut : Df K mg "_law_cut" s_law_cut P_law_cut f_law_cut d_law_cut
  f_law_sized : Addr
  d_law_sized : FuncData
  law_sized : Df K mg "_law_sized" s_law_sized P_law_sized f_law_sized d_law_sized
  f_law_near : Addr
  d_law_near : FuncData
  law_near : Df K mg "_law_near" s_law_near P_law_near f_law_near d_law_near
  f_law_line : Addr
  d_law_line : FuncData
  law_line : Df K mg "_law_line" s_law_line P_law_line f_law_line d_law_line
  f_law_is_step : Addr
  d_law_is_step : FuncData
  law_is_step : Df K mg "_law_is_step" s_law_is_step P_law_is_step f_law_is_step d_law_is_step
  f_law_refutes : Addr
  d_law_refutes : FuncData
  law_refutes : Df K mg "_law_refutes" s_law_refutes P_law_refutes f_law_refutes d_law_refutes
  f_law_is_filling : Addr
  d_law_is_filling : FuncData
  law_is_filling : Df K mg "_law_is_filling" s_law_is_filling P_law_is_filling f_law_is_filling d_law_is_filling
  f_law_copied : Addr
  d_law_copied : FuncData
  law_copied : Df K mg "_law_copied" s_law_copied P_law_copied f_law_copied d_law_copied
  f_law : Addr
  d_law : FuncData
  law : Df K mg "law" s_law P_law f_law d_law
  Writer : Cl K mg "Writer" C_Writer f_Writer___init__
  n_Writer_rows : NoAttr K C_Writer "rows"
  n_Writer_steps : NoAttr K C_Writer "steps"
  n_Writer_made : NoAttr K C_Writer "made"
  n_Writer_numbers : NoAttr K C_Writer "numbers"
  b_abs : mg "abs" = none
  b_bool : mg "bool" = none
  b_enumerate : mg "enumerate" = none
  b_int : mg "int" = none
  b_isinstance : mg "isinstance" = none
  b_len : mg "len" = none
  b_list : mg "list" = none
  b_max : mg "max" = none
  b_min : mg "min" = none
  b_range : mg "range" = none
  b_set : mg "set" = none
  b_sorted : mg "sorted" = none
  b_str : mg "str" = none
  b_sum : mg "sum" = none
  b_tuple : mg "tuple" = none
end Cp
section
open PySem L2 Cp
local macro_rules | `(tactic| walk_at "rd0") => `(tactic| simp only [tRet, tOp, tVar, tC, rI, rI0, rU, tUn, rEq, rNe, rIxL, rIxT, tTest, tIfS, tSeq, tAsg, gName, tDrop, tNext, tCons, tNil, tTup, tLst, tCB, tCall, tBM, tB, tAnd, tOr, tNot, tAndV, tOrV, tNotV, tIf, tRetN, gTup, gCons, gNil, tNoIf, sComp, tComp, rAppend, tyV_list, List.getElem?_cons_zero, List.getElem?_cons_succ, List.set_cons_zero, List.set_cons_succ, List.cons_append, List.nil_append, Option.some.injEq, V.int.injEq, V.ref.injEq, V.bl.injEq, V.str.injEq, V.ty.injEq, List.cons.injEq, exists_eq_left', exists_eq_left, exists_and_left, and_assoc, and_true, true_and, scal_ii, scal_bb, scal_ss, eq_self, reduceCtorEq, decide_false, decide_true, Bool.not_true, Bool.not_false, Bool.false_eq_true, if_false, if_true, decide_eq_true_eq, List.append_nil])
local macro_rules | `(tactic| walk_at "rd1") => `(tactic| simp only [tDNewK, tRet, tOp, tVar, tC, rI, rI0, rU, tUn, rEq, rNe, rIxL, rIxT, tTest, tIfS, tSeq, tAsg, gName, tDrop, tNext, tCons, tNil, tTup, tLst, tCB, tCall, tBM, tB, tAnd, tOr, tNot, tAndV, tOrV, tNotV, tIf, tRetN, gTup, gCons, gNil, tNoIf, sComp, tComp, rAppend, tyV_list, List.getElem?_cons_zero, List.getElem?_cons_succ, List.set_cons_zero, List.set_cons_succ, List.cons_append, List.nil_append, Option.some.injEq, V.int.injEq, V.ref.injEq, V.bl.injEq, V.str.injEq, V.ty.injEq, List.cons.injEq, exists_eq_left', exists_eq_left, exists_and_left, and_assoc, and_true, true_and, scal_ii, scal_bb, scal_ss, eq_self, reduceCtorEq, decide_false, decide_true, Bool.not_true, Bool.not_false, Bool.false_eq_true, if_false, if_true, decide_eq_true_eq, List.append_nil])
local macro_rules | `(tactic| walk_at "rd2") => `(tactic| simp only [sDPut, tDGet2, tRet, tOp, tVar, tC, rI, rI0, rU, tUn, rEq, rNe, rIxL, rIxT, tTest, tIfS, tSeq, tAsg, gName, tDrop, tNext, tCons, tNil, tTup, tLst, tCB, tCall, tBM, tB, tAnd, tOr, tNot, tAndV, tOrV, tNotV, tIf, tRetN, gTup, gCons, gNil, tNoIf, sComp, tComp, rAppend, tyV_list, List.getElem?_cons_zero, List.getElem?_cons_succ, List.set_cons_zero, List.set_cons_succ, List.cons_append, List.nil_append, Option.some.injEq, V.int.injEq, V.ref.injEq, V.bl.injEq, V.str.injEq, V.ty.injEq, List.cons.injEq, exists_eq_left', exists_eq_left, exists_and_left, and_assoc, and_true, true_and, scal_ii, scal_bb, scal_ss, eq_self, reduceCtorEq, decide_false, decide_true, Bool.not_true, Bool.not_false, Bool.false_eq_true, if_false, if_true, decide_eq_true_eq, List.append_nil])
local macro_rules | `(tactic| walk_at "rd3") => `(tactic| simp only [tDGet2, tRet, tOp, tVar, tC, rI, rI0, rU, tUn, rEq, rNe, rIxL, rIxT, tTest, tIfS, tSeq, tAsg, gName, tDrop, tNext, tCons, tNil, tTup, tLst, tCB, tCall, tBM, tB, tAnd, tOr, tNot, tAndV, tOrV, tNotV, tIf, tRetN, gTup, gCons, gNil, tNoIf, sComp, tComp, rAppend, tyV_list, List.getElem?_cons_zero, List.getElem?_cons_succ, List.set_cons_zero, List.set_cons_succ, List.cons_append, List.nil_append, Option.some.injEq, V.int.injEq, V.ref.injEq, V.bl.injEq, V.str.injEq, V.ty.injEq, List.cons.injEq, exists_eq_left', exists_eq_left, exists_and_left, and_assoc, and_true, true_and, scal_ii, scal_bb, scal_ss, eq_self, reduceCtorEq, decide_false, decide_true, Bool.not_true, Bool.not_false, Bool.false_eq_true, if_false, if_true, decide_eq_true_eq, List.append_nil])
local macro_rules | `(tactic| walk_at "rd4") => `(tactic| simp only [rCat, tRet, tOp, tVar, tC, rI, rI0, rU, tUn, rEq, rNe, rIxL, rIxT, tTest, tIfS, tSeq, tAsg, gName, tDrop, tNext, tCons, tNil, tTup, tLst, tCB, tCall, tBM, tB, tAnd, tOr, tNot, tAndV, tOrV, tNotV, tIf, tRetN, gTup, gCons, gNil, tNoIf, sComp, tComp, rAppend, tyV_list, List.getElem?_cons_zero, List.getElem?_cons_succ, List.set_cons_zero, List.set_cons_succ, List.cons_append, List.nil_append, Option.some.injEq, V.int.injEq, V.ref.injEq, V.bl.injEq, V.str.injEq, V.ty.injEq, List.cons.injEq, exists_eq_left', exists_eq_left, exists_and_left, and_assoc, and_true, true_and, scal_ii, scal_bb, scal_ss, eq_self, reduceCtorEq, decide_false, decide_true, Bool.not_true, Bool.not_false, Bool.false_eq_true, if_false, if_true, decide_eq_true_eq, List.append_nil])
local macro_rules | `(tactic| walk_at "rd5") => `(tactic| simp only [sFld, tRet, tOp, tVar, tC, rI, rI0, rU, tUn, rEq, rNe, rIxL, rIxT, tTest, tIfS, tSeq, tAsg, gName, tDrop, tNext, tCons, tNil, tTup, tLst, tCB, tCall, tBM, tB, tAnd, tOr, tNot, tAndV, tOrV, tNotV, tIf, tRetN, gTup, gCons, gNil, tNoIf, sComp, tComp, rAppend, tyV_list, List.getElem?_cons_zero, List.getElem?_cons_succ, List.set_cons_zero, List.set_cons_succ, List.cons_append, List.nil_append, Option.some.injEq, V.int.injEq, V.ref.injEq, V.bl.injEq, V.str.injEq, V.ty.injEq, List.cons.injEq, exists_eq_left', exists_eq_left, exists_and_left, and_assoc, and_true, true_and, scal_ii, scal_bb, scal_ss, eq_self, reduceCtorEq, decide_false, decide_true, Bool.not_true, Bool.not_false, Bool.false_eq_true, if_false, if_true, decide_eq_true_eq, List.append_nil])
local macro_rules | `(tactic| walk_at "rd6") => `(tactic| simp only [sFld, tDNewT, tRet, tOp, tVar, tC, rI, rI0, rU, tUn, rEq, rNe, rIxL, rIxT, tTest, tIfS, tSeq, tAsg, gName, tDrop, tNext, tCons, tNil, tTup, tLst, tCB, tCall, tBM, tB, tAnd, tOr, tNot, tAndV, tOrV, tNotV, tIf, tRetN, gTup, gCons, gNil, tNoIf, sComp, tComp, rAppend, tyV_list, List.getElem?_cons_zero, List.getElem?_cons_succ, List.set_cons_zero, List.set_cons_succ, List.cons_append, List.nil_append, Option.some.injEq, V.int.injEq, V.ref.injEq, V.bl.injEq, V.str.injEq, V.ty.injEq, List.cons.injEq, exists_eq_left', exists_eq_left, exists_and_left, and_assoc, and_true, true_and, scal_ii, scal_bb, scal_ss, eq_self, reduceCtorEq, decide_false, decide_true, Bool.not_true, Bool.not_false, Bool.false_eq_true, if_false, if_true, decide_eq_true_eq, List.append_nil])
local macro_rules | `(tactic| walk_at "rd7") => `(tactic| simp only [tDNotIn, tFld, tRet, tOp, tVar, tC, rI, rI0, rU, tUn, rEq, rNe, rIxL, rIxT, tTest, tIfS, tSeq, tAsg, gName, tDrop, tNext, tCons, tNil, tTup, tLst, tCB, tCall, tBM, tB, tAnd, tOr, tNot, tAndV, tOrV, tNotV, tIf, tRetN, gTup, gCons, gNil, tNoIf, sComp, tComp, rAppend, tyV_list, List.getElem?_cons_zero, List.getElem?_cons_succ, List.set_cons_zero, List.set_cons_succ, List.cons_append, List.nil_append, Option.some.injEq, V.int.injEq, V.ref.injEq, V.bl.injEq, V.str.injEq, V.ty.injEq, List.cons.injEq, exists_eq_left', exists_eq_left, exists_and_left, and_assoc, and_true, true_and, scal_ii, scal_bb, scal_ss, eq_self, reduceCtorEq, decide_false, decide_true, Bool.not_true, Bool.not_false, Bool.false_eq_true, if_false, if_true, decide_eq_true_eq, List.append_nil])
local macro_rules | `(tactic| walk_at "rd8") => `(tactic| simp only [tDGet, tFld, tRet, tOp, tVar, tC, rI, rI0, rU, tUn, rEq, rNe, rIxL, rIxT, tTest, tIfS, tSeq, tAsg, gName, tDrop, tNext, tCons, tNil, tTup, tLst, tCB, tCall, tBM, tB, tAnd, tOr, tNot, tAndV, tOrV, tNotV, tIf, tRetN, gTup, gCons, gNil, tNoIf, sComp, tComp, rAppend, tyV_list, List.getElem?_cons_zero, List.getElem?_cons_succ, List.set_cons_zero, List.set_cons_succ, List.cons_append, List.nil_append, Option.some.injEq, V.int.injEq, V.ref.injEq, V.bl.injEq, V.str.injEq, V.ty.injEq, List.cons.injEq, exists_eq_left', exists_eq_left, exists_and_left, and_assoc, and_true, true_and, scal_ii, scal_bb, scal_ss, eq_self, reduceCtorEq, decide_false, decide_true, Bool.not_true, Bool.not_false, Bool.false_eq_true, if_false, if_true, decide_eq_true_eq, List.append_nil])
local macro_rules | `(tactic| walk_at "rd9") => `(tactic| simp only [sDPut, tFld, tRet, tOp, tVar, tC, rI, rI0, rU, tUn, rEq, rNe, rIxL, rIxT, tTest, tIfS, tSeq, tAsg, gName, tDrop, tNext, tCons, tNil, tTup, tLst, tCB, tCall, tBM, tB, tAnd, tOr, tNot, tAndV, tOrV, tNotV, tIf, tRetN, gTup, gCons, gNil, tNoIf, sComp, tComp, rAppend, tyV_list, List.getElem?_cons_zero, List.getElem?_cons_succ, List.set_cons_zero, List.set_cons_succ, List.cons_append, List.nil_append, Option.some.injEq, V.int.injEq, V.ref.injEq, V.bl.injEq, V.str.injEq, V.ty.injEq, List.cons.injEq, exists_eq_left', exists_eq_left, exists_and_left, and_assoc, and_true, true_and, scal_ii, scal_bb, scal_ss, eq_self, reduceCtorEq, decide_false, decide_true, Bool.not_true, Bool.not_false, Bool.false_eq_true, if_false, if_true, decide_eq_true_eq, List.append_nil])
local macro_rules | `(tactic| walk_at "rd10") => `(tactic| simp only [tFld, tRet, tOp, tVar, tC, rI, rI0, rU, tUn, rEq, rNe, rIxL, rIxT, tTest, tIfS, tSeq, tAsg, gName, tDrop, tNext, tCons, tNil, tTup, tLst, tCB, tCall, tBM, tB, tAnd, tOr, tNot, tAndV, tOrV, tNotV, tIf, tRetN, gTup, gCons, gNil, tNoIf, sComp, tComp, rAppend, tyV_list, List.getElem?_cons_zero, List.getElem?_cons_succ, List.set_cons_zero, List.set_cons_succ, List.cons_append, List.nil_append, Option.some.injEq, V.int.injEq, V.ref.injEq, V.bl.injEq, V.str.injEq, V.ty.injEq, List.cons.injEq, exists_eq_left', exists_eq_left, exists_and_left, and_assoc, and_true, true_and, scal_ii, scal_bb, scal_ss, eq_self, reduceCtorEq, decide_false, decide_true, Bool.not_true, Bool.not_false, Bool.false_eq_true, if_false, if_true, decide_eq_true_eq, List.append_nil])
local macro_rules | `(tactic| walk_at "rd11") => `(tactic| simp only [rIn, tRet, tOp, tVar, tC, rI, rI0, rU, tUn, rEq, rNe, rIxL, rIxT, tTest, tIfS, tSeq, tAsg, gName, tDrop, tNext, tCons, tNil, tTup, tLst, tCB, tCall, tBM, tB, tAnd, tOr, tNot, tAndV, tOrV, tNotV, tIf, tRetN, gTup, gCons, gNil, tNoIf, sComp, tComp, rAppend, tyV_list, List.getElem?_cons_zero, List.getElem?_cons_succ, List.set_cons_zero, List.set_cons_succ, List.cons_append, List.nil_append, Option.some.injEq, V.int.injEq, V.ref.injEq, V.bl.injEq, V.str.injEq, V.ty.injEq, List.cons.injEq, exists_eq_left', exists_eq_left, exists_and_left, and_assoc, and_true, true_and, scal_ii, scal_bb, scal_ss, eq_self, reduceCtorEq, decide_false, decide_true, Bool.not_true, Bool.not_false, Bool.false_eq_true, if_false, if_true, decide_eq_true_eq, List.append_nil])
local macro_rules | `(tactic| walk_at "rd12") => `(tactic| simp only [tMeth, tRet, tOp, tVar, tC, rI, rI0, rU, tUn, rEq, rNe, rIxL, rIxT, tTest, tIfS, tSeq, tAsg, gName, tDrop, tNext, tCons, tNil, tTup, tLst, tCB, tCall, tBM, tB, tAnd, tOr, tNot, tAndV, tOrV, tNotV, tIf, tRetN, gTup, gCons, gNil, tNoIf, sComp, tComp, rAppend, tyV_list, List.getElem?_cons_zero, List.getElem?_cons_succ, List.set_cons_zero, List.set_cons_succ, List.cons_append, List.nil_append, Option.some.injEq, V.int.injEq, V.ref.injEq, V.bl.injEq, V.str.injEq, V.ty.injEq, List.cons.injEq, exists_eq_left', exists_eq_left, exists_and_left, and_assoc, and_true, true_and, scal_ii, scal_bb, scal_ss, eq_self, reduceCtorEq, decide_false, decide_true, Bool.not_true, Bool.not_false, Bool.false_eq_true, if_false, if_true, decide_eq_true_eq, List.append_nil])
local macro_rules | `(tactic| walk_at "rd13") => `(tactic| simp only [rCat, tFld, tRet, tOp, tVar, tC, rI, rI0, rU, tUn, rEq, rNe, rIxL, rIxT, tTest, tIfS, tSeq, tAsg, gName, tDrop, tNext, tCons, tNil, tTup, tLst, tCB, tCall, tBM, tB, tAnd, tOr, tNot, tAndV, tOrV, tNotV, tIf, tRetN, gTup, gCons, gNil, tNoIf, sComp, tComp, rAppend, tyV_list, List.getElem?_cons_zero, List.getElem?_cons_succ, List.set_cons_zero, List.set_cons_succ, List.cons_append, List.nil_append, Option.some.injEq, V.int.injEq, V.ref.injEq, V.bl.injEq, V.str.injEq, V.ty.injEq, List.cons.injEq, exists_eq_left', exists_eq_left, exists_and_left, and_assoc, and_true, true_and, scal_ii, scal_bb, scal_ss, eq_self, reduceCtorEq, decide_false, decide_true, Bool.not_true, Bool.not_false, Bool.false_eq_true, if_false, if_true, decide_eq_true_eq, List.append_nil])
local macro_rules | `(tactic| walk_at "rd14") => `(tactic| simp only [tMake, tRet, tOp, tVar, tC, rI, rI0, rU, tUn, rEq, rNe, rIxL, rIxT, tTest, tIfS, tSeq, tAsg, gName, tDrop, tNext, tCons, tNil, tTup, tLst, tCB, tCall, tBM, tB, tAnd, tOr, tNot, tAndV, tOrV, tNotV, tIf, tRetN, gTup, gCons, gNil, tNoIf, sComp, tComp, rAppend, tyV_list, List.getElem?_cons_zero, List.getElem?_cons_succ, List.set_cons_zero, List.set_cons_succ, List.cons_append, List.nil_append, Option.some.injEq, V.int.injEq, V.ref.injEq, V.bl.injEq, V.str.injEq, V.ty.injEq, List.cons.injEq, exists_eq_left', exists_eq_left, exists_and_left, and_assoc, and_true, true_and, scal_ii, scal_bb, scal_ss, eq_self, reduceCtorEq, decide_false, decide_true, Bool.not_true, Bool.not_false, Bool.false_eq_true, if_false, if_true, decide_eq_true_eq, List.append_nil])
local macro_rules | `(tactic| walk_at "rd15") => `(tactic| simp only [String.reduceEq, str_inj, tRet, tOp, tVar, tC, rI, rI0, rU, tUn, rEq, rNe, rIxL, rIxT, tTest, tIfS, tSeq, tAsg, gName, tDrop, tNext, tCons, tNil, tTup, tLst, tCB, tCall, tBM, tB, tAnd, tOr, tNot, tAndV, tOrV, tNotV, tIf, tRetN, gTup, gCons, gNil, tNoIf, sComp, tComp, rAppend, tyV_list, List.getElem?_cons_zero, List.getElem?_cons_succ, List.set_cons_zero, List.set_cons_succ, List.cons_append, List.nil_append, Option.some.injEq, V.int.injEq, V.ref.injEq, V.bl.injEq, V.str.injEq, V.ty.injEq, List.cons.injEq, exists_eq_left', exists_eq_left, exists_and_left, and_assoc, and_true, true_and, scal_ii, scal_bb, scal_ss, eq_self, reduceCtorEq, decide_false, decide_true, Bool.not_true, Bool.not_false, Bool.false_eq_true, if_false, if_true, decide_eq_true_eq, List.append_nil])
local macro_rules | `(tactic| walk_at "rd16") => `(tactic| simp only [tChain, tRet, tOp, tVar, tC, rI, rI0, rU, tUn, rEq, rNe, rIxL, rIxT, tTest, tIfS, tSeq, tAsg, gName, tDrop, tNext, tCons, tNil, tTup, tLst, tCB, tCall, tBM, tB, tAnd, tOr, tNot, tAndV, tOrV, tNotV, tIf, tRetN, gTup, gCons, gNil, tNoIf, sComp, tComp, rAppend, tyV_list, List.getElem?_cons_zero, List.getElem?_cons_succ, List.set_cons_zero, List.set_cons_succ, List.cons_append, List.nil_append, Option.some.injEq, V.int.injEq, V.ref.injEq, V.bl.injEq, V.str.injEq, V.ty.injEq, List.cons.injEq, exists_eq_left', exists_eq_left, exists_and_left, and_assoc, and_true, true_and, scal_ii, scal_bb, scal_ss, eq_self, reduceCtorEq, decide_false, decide_true, Bool.not_true, Bool.not_false, Bool.false_eq_true, if_false, if_true, decide_eq_true_eq, List.append_nil])
local macro_rules | `(tactic| walk_at "rd17") => `(tactic| simp only [rEqR, tRet, tOp, tVar, tC, rI, rI0, rU, tUn, rEq, rNe, rIxL, rIxT, tTest, tIfS, tSeq, tAsg, gName, tDrop, tNext, tCons, tNil, tTup, tLst, tCB, tCall, tBM, tB, tAnd, tOr, tNot, tAndV, tOrV, tNotV, tIf, tRetN, gTup, gCons, gNil, tNoIf, sComp, tComp, rAppend, tyV_list, List.getElem?_cons_zero, List.getElem?_cons_succ, List.set_cons_zero, List.set_cons_succ, List.cons_append, List.nil_append, Option.some.injEq, V.int.injEq, V.ref.injEq, V.bl.injEq, V.str.injEq, V.ty.injEq, List.cons.injEq, exists_eq_left', exists_eq_left, exists_and_left, and_assoc, and_true, true_and, scal_ii, scal_bb, scal_ss, eq_self, reduceCtorEq, decide_false, decide_true, Bool.not_true, Bool.not_false, Bool.false_eq_true, if_false, if_true, decide_eq_true_eq, List.append_nil])
local macro_rules | `(tactic| walk_at "rd18") => `(tactic| simp only [rNeR, tRet, tOp, tVar, tC, rI, rI0, rU, tUn, rEq, rNe, rIxL, rIxT, tTest, tIfS, tSeq, tAsg, gName, tDrop, tNext, tCons, tNil, tTup, tLst, tCB, tCall, tBM, tB, tAnd, tOr, tNot, tAndV, tOrV, tNotV, tIf, tRetN, gTup, gCons, gNil, tNoIf, sComp, tComp, rAppend, tyV_list, List.getElem?_cons_zero, List.getElem?_cons_succ, List.set_cons_zero, List.set_cons_succ, List.cons_append, List.nil_append, Option.some.injEq, V.int.injEq, V.ref.injEq, V.bl.injEq, V.str.injEq, V.ty.injEq, List.cons.injEq, exists_eq_left', exists_eq_left, exists_and_left, and_assoc, and_true, true_and, scal_ii, scal_bb, scal_ss, eq_self, reduceCtorEq, decide_false, decide_true, Bool.not_true, Bool.not_false, Bool.false_eq_true, if_false, if_true, decide_eq_true_eq, List.append_nil])
namespace Cp
open PySem L2
def sp_is_met (K : PySem.W.Frag) : Sp := fun vs H Q _ => ∃ (s : Int) (f : V) (bs : List Bool), vs = [.int s, f] ∧ rFill.rel K H f bs ∧ 0 ≤ s ∧ s / 2 < bs.length ∧ Q (.bl (met bs s)) H
section
seal L2.PSs L2.PS L2.PE L2.PT L2.PA L2.PG L2.PGs L2.PI L2.PW L2.PTs L2.OpR L2.UnR L2.CallR L2.IxR L2.SlR
variable {P : Program} {w : World} {K : PySem.W.Frag} {mg : Str → Option Value} {base : Heap}
theorem ok_is_met (T : Tx K mg) : FnOk P w K mg base CX0 1 T.f_is_met T.d_is_met P_is_met (sp_is_met K) := by
  refine T.is_met.fn.ok sc_is_met (fun vs H Q E h => ?_) (fun cdv A outer s H vs Q E hr h => ?_)
  · obtain ⟨s, f, bs, rfl, _⟩ := h
    rfl
  · obtain ⟨s0, f, bs, rfl, ⟨a, xs, rfl, hS, hp⟩, h1, h2, q⟩ := h
    refine ⟨_, (pss_one (ps_ret (pe_cmpR op_eq (pe_ix (ix_listK (K := K) rfl) (pv 1) (pe_op op_fdivB (pv 0) pe_int) (fun _ _ => rfl)) (pe_cmpR op_eq (pe_op op_mod (pv 0) pe_int) pe_int (nomark _)) (nomark _)))), ?_⟩
    rw [show L2.start N_is_met [V.int s0, V.ref a] = [some (.int s0), some (.ref a)] from rfl]
    try (try walk_at "rd0")
    obtain ⟨v, e1, b, e2, rfl⟩ := atI_pair hp (i := s0 / 2) (by omega) h2
    refine ⟨⟨by decide, by decide⟩, xs, SqL.of hS, _, e1, by decide, rfl, ?_⟩
    simp only [V.bl.injEq]
    unfold met at q
    rw [List.getD_eq_getElem?_getD, e2] at q
    exact q
end
end Cp
namespace Cp
open PySem L2
def sp_other_side : Sp := fun vs H Q _ => ∃ (s : Int), vs = [.int s] ∧ Q (.int (otherS s)) H
section
seal L2.PSs L2.PS L2.PE L2.PT L2.PA L2.PG L2.PGs L2.PI L2.PW L2.PTs L2.OpR L2.UnR L2.CallR L2.IxR L2.SlR
variable {P : Program} {w : World} {K : PySem.W.Frag} {mg : Str → Option Value} {base : Heap}
theorem ok_other_side (T : Tx K mg) : FnOk P w K mg base CX0 1 T.f_other_side T.d_other_side P_other_side sp_other_side := by
  refine T.other_side.fn.ok sc_other_side (fun vs H Q E h => ?_) (fun cdv A outer s H vs Q E hr h => ?_)
  · obtain ⟨s, rfl, _⟩ := h
    rfl
  · obtain ⟨s, rfl, q⟩ := h
    refine ⟨_, (pss_one (ps_ret (pe_ifExp (pt_cmpR op_eq (pe_op op_mod (pv 0) pe_int) pe_int (nomark _)) (pe_op op_add (pv 0) pe_int) (pe_op op_sub (pv 0) pe_int)))), ?_⟩
    rw [show L2.start N_other_side [V.int s] = [some (.int s)] from rfl]
    (try walk_at "rd0")
    refine ⟨by decide, ?_⟩
    unfold otherS at q
    refine ite2 (fun z => ?_) (fun z => ?_)
    · rw [if_pos z] at q
      exact q
    · rw [if_neg z] at q
      exact q
end
end Cp
namespace Cp
open PySem L2
def sp_met_weight (K : PySem.W.Frag) : Sp := fun vs H Q _ => ∃ (t f : V) (ts : List (Int × Int)) (bs : List Bool), vs = [t, f] ∧ rTerms.rel K H t ts ∧ rFill.rel K H f bs ∧ InFill bs ts ∧ ts.length ≤ 1000 ∧ ∀ H', Same H H' → Q (.int (worth bs ts)) H'
section
seal L2.PSs L2.PS L2.PE L2.PT L2.PA L2.PG L2.PGs L2.PI L2.PW L2.PTs L2.OpR L2.UnR L2.CallR L2.IxR L2.SlR
variable {P : Program} {w : World} {K : PySem.W.Frag} {mg : Str → Option Value} {base : Heap}
theorem ok_met_weight (T : Tx K mg) : FnOk P w K mg base CX0 2 T.f_met_weight T.d_met_weight P_met_weight (sp_met_weight K) := by
  have G_is_met := ok_is_met (P := P) (w := w) (base := base) T
  refine T.met_weight.fn.ok sc_met_weight (fun vs H Q E h => ?_) (fun cdv A outer s H vs Q E hr h => ?_)
  · obtain ⟨t, f, ts, bs, rfl, _⟩ := h
    rfl
  · obtain ⟨t, f, ts, bs, rfl, ⟨a, xs, rfl, hS, hp⟩, hf, hin, hsz, q⟩ := h
    refine ⟨_, (pss_one (ps_ret (pe_callB (call_sum rfl) (by rfl) T.b_sum bb_sum (pa_cons (pe_comp rfl (compOk_of (sc := defScope s_met_weight) (N := N_met_weight) (Nc := ["weight", "side", "filling"]) (im := [none, none, some 1]) rfl rfl (by decide +kernel)) (pi_listK (K := K) rfl (pv 0)) (by intro cl C fp s1 H1; exact ⟨(pg_tupK (K := K) (n := 2) rfl rfl (pgs_cons (pg_name (i := 0) (by decide +kernel : List.Nodup (["weight", "side", "filling"] : List Str)) rfl (Or.inl rfl) (Or.inr rfl)) (pgs_cons (pg_name (i := 1) (by decide +kernel : List.Nodup (["weight", "side", "filling"] : List Str)) rfl (Or.inl rfl) (Or.inr rfl)) pgs_nil)) rfl rfl), (pts_one (pt_val (pe_call G_is_met (hr.mono (by decide)) rfl T.is_met.mg T.is_met.fn.kp T.is_met.bd .nil pass0 (pa_cons (pv 1) (pa_cons (pv 2) pa_nil))))), (pv 0)⟩)) pa_nil)))), ?_⟩
    rw [show L2.start N_met_weight [V.ref a, f] = [some (.ref a), some f] from rfl]
    try (try walk_at "rd0")
    refine comp_l fun R1 hR1 => ?_
    try (try walk_at "rd0")
    refine hR1 _ _ _ (SqL.of hS) fun acc hacc => ?_
    have hsm : ∀ ys, Same H (upd H acc (.lst ys)) := fun ys => (Same.refl H).upd_new hacc
    refine comp_list (xs := xs) (fun i σ ys H2 => ∃ (u v : Option V), σ = [u, v, some f] ∧ ys = (((ts.take i).filter fun t => met bs t.2).map (·.1)).map V.int ∧ H2 = upd H acc (.lst ys)) ?_ ?_ ?_ ?_
    · exact ⟨none, none, rfl, rfl, rfl⟩
    · rintro i σ ys H2 _ ⟨u, v, rfl, rfl, rfl⟩
      exact ⟨(hsm _).seq (SqL.of hS), upd_same⟩
    · rintro i x σ ys H2 N hx ⟨u, v, rfl, rfl, rfl⟩ hN
      obtain ⟨⟨wt, sd⟩, ht, p, x1, x2, rfl, hT2, h1, h2⟩ := pgetL hp hx
      obtain rfl : x1 = .int wt := h1
      obtain rfl : x2 = .int sd := h2
      obtain ⟨i0, i1⟩ := hin _ (List.mem_of_getElem? ht)
      unfold compT
      ((try walk_at "rd0"); (try simp only [sp_is_met]); (try walk_at "rd0"))
      refine ⟨[.int wt, .int sd], (hsm _).tup (SqT.of hT2), rfl, ?_⟩
      ((try walk_at "rd0"); (try simp only [sp_is_met]); (try walk_at "rd0"))
      refine ⟨bs, rFill.mono (hsm _) hf, i0, i1, ?_⟩
      have es : (ts.take (i + 1)).filter (fun t => met bs t.2) = (ts.take i).filter (fun t => met bs t.2) ++ if met bs sd = true then [(wt, sd)] else [] := by
        rw [take_snoc ht, List.filter_append]
        by_cases h : met bs sd = true <;> simp [h]
      have hlen : ((((ts.take i).filter fun t => met bs t.2).map (·.1)).map V.int).length < sizeLine := by
        rw [List.length_map, List.length_map]
        refine small1000 (Nat.le_trans (List.length_filter_le _ _) ?_)
        rw [List.length_take]
        exact Nat.le_trans (Nat.min_le_right _ _) hsz
      refine ite2 (fun hc => ⟨upd_same, hlen, hN _ _ _ ⟨_, _, rfl, ?_, ?_⟩⟩) (fun hc => hN _ _ _ ⟨_, _, rfl, ?_, ?_⟩)
      · rw [es, if_pos hc]
        simp
      · rw [upd_upd]
      · rw [es, if_neg hc]
        simp
      · rfl
    · rintro σ ys H2 ⟨u, v, rfl, rfl, rfl⟩
      have el : xs.length = ts.length := hp.length
      rw [el, List.take_length]
      exact ⟨_, SqL.of upd_same, q _ (hsm _)⟩
end
end Cp
namespace Cp
open PySem L2
def sp_weights_by_side (K : PySem.W.Frag) : Sp := fun vs H Q _ => ∃ (t : V) (ts : List (Int × Int)), vs = [t] ∧ rTerms.rel K H t ts ∧ ts.length ≤ 1000 ∧ ∀ d kvs, H d = none → DictFor ts kvs → Q (.ref d) (upd H d (.dK kvs))
section
seal L2.PSs L2.PS L2.PE L2.PT L2.PA L2.PG L2.PGs L2.PI L2.PW L2.PTs L2.OpR L2.UnR L2.CallR L2.IxR L2.SlR
variable {P : Program} {w : World} {K : PySem.W.Frag} {mg : Str → Option Value} {base : Heap}
theorem ok_weights_by_side (T : Tx K mg) : FnOk P w K mg base CX0 1 T.f_weights_by_side T.d_weights_by_side P_weights_by_side (sp_weights_by_side K) := by
  refine T.weights_by_side.fn.ok sc_weights_by_side (fun vs H Q E h => ?_) (fun cdv A outer s H vs Q E hr h => ?_)
  · obtain ⟨t, ts, rfl, _⟩ := h
    rfl
  · obtain ⟨t, ts, rfl, ⟨a, xs, rfl, hS, hp⟩, hsz, q⟩ := h
    refine ⟨_, (pss_cons (ps_set (i := 1) sc_weights_by_side.nd rfl (Or.inl rfl) pe_dnewK)
      (pss_cons (ps_for PassesOwn.never rfl (pi_listK (K := K) rfl (pv 0)) (pg_tupK (K := K) (n := 2) rfl rfl (pgs_cons (pg_name (i := 2) sc_weights_by_side.nd rfl (Or.inl rfl)) (pgs_cons (pg_name (i := 3) sc_weights_by_side.nd rfl (Or.inl rfl)) pgs_nil)) rfl rfl)
      (pss_one (ps_dput (hu_of hr) (pv 1) (pv 3) (pe_op op_add (pe_dget2 (hu_of hr) (pv 1) (pv 3) pe_int ⟨rfl, rfl, rfl, rfl⟩) (pv 2)) rfl)))
      (pss_one (ps_ret (pv 1))))), ?_⟩
    rw [show L2.start N_weights_by_side [V.ref a] = [some (.ref a), none, none, none] from rfl]
    refine seq_gen fun R hR => ?_
    (try walk_at "rd1")
    refine fun d hd => hR _ _ ?_
    clear hR
    have hsm : ∀ o, Same H (upd H d o) := fun o => Same.new hd
    refine seq_gen fun R hR => for_l fun R1 hR1 => ?_
    try (try walk_at "rd0")
    refine hR1 _ _ _ ((hsm _).seq (SqL.of hS)) (loop_list (xs := xs) (fun i σ H2 => ∃ (u v : Option V) (kvs : List (Key × V)), σ = [some (.ref a), some (.ref d), u, v] ∧ H2 = upd H d (.dK kvs) ∧ DictFor (ts.take i) kvs) ?_ ?_ ?_ ?_)
    · exact ⟨none, none, [], rfl, rfl, DictFor.nil⟩
    · rintro i σ H2 _ ⟨u, v, kvs, rfl, rfl, hD⟩
      exact (hsm _).seq (SqL.of hS)
    · rintro i x σ H2 N hx ⟨u, v, kvs, rfl, rfl, hD⟩ hN
      obtain ⟨⟨wt, sd⟩, ht, p, x1, x2, rfl, hT, h1, h2⟩ := pgetL hp hx
      obtain rfl : x1 = .int wt := h1
      obtain rfl : x2 = .int sd := h2
      try (try walk_at "rd0")
      refine ⟨[.int wt, .int sd], (hsm _).tup (SqT.of hT), rfl, ?_⟩
      (try walk_at "rd2")
      have hlt : i < ts.length := (List.getElem?_eq_some_iff.mp ht).1
      refine ⟨.inl ⟨kvs, .inl upd_same⟩, _, .inl ⟨kvs, Sum.inl sd, .inl upd_same, rfl, rfl⟩, ?_⟩
      rw [hD.get sd]
      refine ⟨_, rfl, _, DPut.k (k := Sum.inl sd) upd_same (small1000 ?_), hN _ _ ⟨_, _, putK kvs (Sum.inl sd) (.int (sumW (ts.take i) sd + wt)), rfl, ?_, ?_⟩⟩
      · have := hD.2.2
        rw [List.length_take] at this
        omega
      · rw [upd_upd]
      · rw [take_snoc ht]
        exact hD.put (wt, sd)
    · rintro σ H2 ⟨u, v, kvs, rfl, rfl, hD⟩
      refine hR _ _ ?_
      try (try walk_at "rd0")
      have el : xs.length = ts.length := hp.length
      rw [el, List.take_length] at hD
      exact q d kvs hd hD
end
end Cp
namespace Cp
open PySem L2
def sp_tidy (K : PySem.W.Frag) : Sp := fun vs H Q _ => ∃ (r : V) (row : Row), vs = [r] ∧ rRow.rel K H r row ∧ Sides row.1 ∧ row.1.length ≤ 1000 ∧ New rRow K H (tidyR row) Q
section
seal L2.PSs L2.PS L2.PE L2.PT L2.PA L2.PG L2.PGs L2.PI L2.PW L2.PTs L2.OpR L2.UnR L2.CallR L2.IxR L2.SlR
variable {P : Program} {w : World} {K : PySem.W.Frag} {mg : Str → Option Value} {base : Heap}
theorem ok_tidy (T : Tx K mg) : FnOk P w K mg base CX0 2 T.f_tidy T.d_tidy P_tidy (sp_tidy K) := by
  have G_weights_by_side := ok_weights_by_side (P := P) (w := w) (base := base) T
  refine T.tidy.fn.ok sc_tidy (fun vs H Q E h => ?_) (fun cdv A outer s H vs Q E hr h => ?_)
  · obtain ⟨r, row, rfl, _⟩ := h
    rfl
  · obtain ⟨r, ⟨ts, l⟩, rfl, ⟨p, x, y, rfl, hT, h1, h2⟩, hsd, hsz, q⟩ := h
    obtain rfl : y = .int l := h2
    have hsz : ts.length ≤ 1000 := hsz
    have hsd : Sides ts := hsd
    refine ⟨_, (pss_cons (ps_set (i := 1) sc_tidy.nd rfl (Or.inl rfl) (pe_call G_weights_by_side (hr.mono (by decide)) rfl T.weights_by_side.mg T.weights_by_side.fn.kp T.weights_by_side.bd .nil pass0 (pa_cons (pe_ix (ix_tupK (K := K) rfl) (pv 0) pe_int (fun _ _ => rfl)) pa_nil)))
      (pss_cons (ps_set (i := 2) sc_tidy.nd rfl (Or.inl rfl) (pe_lst pa_nil))
      (pss_cons (ps_set (i := 3) sc_tidy.nd rfl (Or.inl rfl) (pe_ix (ix_tupK (K := K) rfl) (pv 0) pe_int (fun _ _ => rfl)))
      (pss_cons (ps_for PassesOwn.never rfl (pi_listK (K := K) rfl (pe_callB (call_sorted_set rfl) (by rfl) T.b_sorted bb_sorted (pa_cons (pe_callTy (call_set rfl) (by rfl) T.b_set bb_set (pa_cons (pe_comp rfl (compOk_of (sc := defScope s_tidy) (N := N_tidy) (Nc := ["side"]) (im := [none]) rfl rfl (by decide +kernel)) (pi_dict (pv 1)) (by intro cl C fp s1 H1; exact ⟨(pg_name (i := 0) (by decide +kernel : List.Nodup (["side"] : List Str)) rfl (Or.inl rfl) (Or.inr rfl)), pts_nil, (pe_op op_fdivB (pv 0) pe_int)⟩)) pa_nil)) pa_nil))) (pg_name (i := 4) sc_tidy.nd rfl (Or.inl rfl))
      (pss_cons (ps_set (i := 5) sc_tidy.nd rfl (Or.inl rfl) (pe_dget2 (hu_of hr) (pv 1) (pe_op op_mul pe_int (pv 4)) pe_int ⟨rfl, rfl, rfl, rfl⟩))
      (pss_cons (ps_set (i := 6) sc_tidy.nd rfl (Or.inl rfl) (pe_dget2 (hu_of hr) (pv 1) (pe_op op_add (pe_op op_mul pe_int (pv 4)) pe_int) pe_int ⟨rfl, rfl, rfl, rfl⟩))
      (pss_cons (ps_if (pt_cmpR op_gt (pv 5) (pv 6) (nomark _))
      (pss_one (ps_expr (pe_bm PySem.F.plainAttrs_list PySem.F.slot_list_append PySem.F.type_list_append mt_append (pv 2) (pa_cons (pe_tup (pa_cons (pe_op op_sub (pv 5) (pv 6)) (pa_cons (pe_op op_mul pe_int (pv 4)) pa_nil))) pa_nil))))
      pss_nil)
      (pss_cons (ps_if (pt_cmpR op_gt (pv 6) (pv 5) (nomark _))
      (pss_one (ps_expr (pe_bm PySem.F.plainAttrs_list PySem.F.slot_list_append PySem.F.type_list_append mt_append (pv 2) (pa_cons (pe_tup (pa_cons (pe_op op_sub (pv 6) (pv 5)) (pa_cons (pe_op op_add (pe_op op_mul pe_int (pv 4)) pe_int) pa_nil))) pa_nil))))
      pss_nil)
      (pss_one (ps_set (i := 3) sc_tidy.nd rfl (Or.inl rfl) (pe_op op_sub (pv 3) (pe_callB (call_min2 rfl) (by rfl) T.b_min bb_min (pa_cons (pv 5) (pa_cons (pv 6) pa_nil)))))))))))
      (pss_one (ps_ret (pe_tup (pa_cons (pv 2) (pa_cons (pv 3) pa_nil))))))))), ?_⟩
    rw [show L2.start N_tidy [V.ref p] = [some (.ref p), none, none, none, none, none, none] from rfl]
    -- weights
    refine seq_gen fun R hR => ?_
    ((try walk_at "rd0"); (try simp only [sp_weights_by_side]); (try walk_at "rd0"))
    refine ⟨_, SqT.of hT, _, rfl, ts, h1, hsz, fun d kvs hd hD => hR _ _ ?_⟩
    clear hR
    -- terms
    refine seq_gen fun R hR => ?_
    try (try walk_at "rd0")
    refine ⟨Nat.zero_le _, fun a ha => hR _ _ ?_⟩
    clear hR
    have s1 : Same H (upd H d (.dK kvs)) := Same.new hd
    have ha0 : H a = none := s1.free ha
    have nda : a ≠ d := fun z => by subst z; rw [upd_same] at ha; cases ha
    have s2 : Same H (upd (upd H d (.dK kvs)) a (.lst [])) := s1.trans (Same.new ha)
    -- least
    refine seq_gen fun R hR => ?_
    try (try walk_at "rd0")
    refine ⟨_, s2.tup (SqT.of hT), _, rfl, hR _ _ ?_⟩
    clear hR
    -- the unknowns
    refine seq_gen fun R hR => for_l fun R1 hR1 => ?_
    try (try walk_at "rd0")
    refine comp_d fun R2 hR2 => ?_
    try (try walk_at "rd0")
    refine hR2 d kvs _ (by rw [upd_ne nda.symm, upd_same]) fun o acc hacc => ?_
    have s3 : Same H (upd (upd (upd H d (.dK kvs)) a (.lst [])) d (.frz o (.dK kvs))) := s2.upd_new hd
    have a3 : upd (upd (upd H d (.dK kvs)) a (.lst [])) d (.frz o (.dK kvs)) a = some (.lst []) := by rw [upd_ne nda, upd_same]
    have d3 : upd (upd (upd H d (.dK kvs)) a (.lst [])) d (.frz o (.dK kvs)) d = some (.frz o (.dK kvs)) := upd_same
    generalize upd (upd (upd H d (.dK kvs)) a (.lst [])) d (.frz o (.dK kvs)) = H3 at *
    refine comp_dict (fun i σ ys H2 => ∃ (v : Option V), σ = [v] ∧ ys = ((kvs.take i).map fun p => keyInt p.1 / 2).map V.int ∧ H2 = upd H3 acc (.lst ys)) ?_ ?_ ?_ ?_
    · exact ⟨none, rfl, rfl, rfl⟩
    · rintro i σ ys H2 _ ⟨v, rfl, rfl, rfl⟩
      exact ⟨by rw [upd_ne (ne_of_none d3 hacc)]; exact d3, upd_same⟩
    · rintro i k v σ ys H2 N hk ⟨v0, rfl, rfl, rfl⟩ hN
      obtain ⟨sd, es⟩ := hD.2.1 _ (List.mem_of_getElem? hk)
      obtain rfl : k = Sum.inl sd := es
      unfold compT
      rw [show kV (Sum.inl sd) = V.int sd from rfl]
      try (try walk_at "rd0")
      refine ⟨⟨by decide, by decide⟩, upd_same, ?_, hN _ _ _ ⟨_, rfl, ?_, ?_⟩⟩
      · rw [List.length_map, List.length_map, List.length_take]
        have := hD.2.2
        exact small1000 (by omega)
      · rw [take_snoc hk]
        simp [keyInt]
      · rw [upd_upd]
    rintro σ ys H2 ⟨v0, rfl, rfl, rfl⟩
    rw [List.take_length]
    have s4 := s3.trans (Same.new (o := .lst ((kvs.map fun p => keyInt p.1 / 2).map V.int)) hacc)
    refine ⟨_, SqL.of upd_same, ?_, fun sa ks hsa hnd hmem => ?_⟩
    · rw [List.length_map]
      have := hD.2.2
      have : scanBound = 4096 := rfl
      omega
    have hks : ∀ x ∈ ks, 0 ≤ x ∧ x < (16 : Nat) := fun x hx => by
      obtain ⟨t, ht, e⟩ := (hD.mem x).mp ((hmem x).mp hx)
      have := hsd t ht
      omega
    have hk16 := nodup_len 16 ks hnd hks
    refine ⟨ks, upd_same, by omega, fun la us hla hperm hsort => ?_⟩
    have hup := up_of hperm hsort hnd
    have hul : us.length ≤ 16 := by rw [hperm.length_eq]; exact hk16
    obtain ⟨eT, eL⟩ := tidy_us hsd hup fun x => by rw [hperm.mem_iff, hmem x]; exact hD.mem x
    have s34 := (Same.new (o := .lst ((kvs.map fun p => keyInt p.1 / 2).map V.int)) hacc).trans (Same.new (o := setO P w sa ks) hsa)
    have s35 := s34.trans (Same.new (o := .lst (us.map V.int)) hla)
    have a5 := s35 _ _ a3
    have d5 := s35 _ _ d3
    have nla : la ≠ a := (ne_of_none (s34 _ _ a3) hla).symm
    refine hR1 _ _ _ (SqL.of upd_same) ?_
    have s5 := s3.trans s35
    have l5 : (upd (upd (upd H3 acc (.lst ((kvs.map fun p => keyInt p.1 / 2).map V.int))) sa (setO P w sa ks)) la (.lst (us.map V.int))) la = some (.lst (us.map V.int)) := upd_same
    change LoopBy _ _ _ _ _ (upd (upd (upd H3 acc (.lst ((kvs.map fun p => keyInt p.1 / 2).map V.int))) sa (setO P w sa ks)) la (.lst (us.map V.int)))
    generalize (upd (upd (upd H3 acc (.lst ((kvs.map fun p => keyInt p.1 / 2).map V.int))) sa (setO P w sa ks)) la (.lst (us.map V.int))) = H5 at *
    refine loop_list (xs := us.map V.int) (fun i σ H2 => ∃ (u yv nv : Option V) (xs : List V), σ = [some (.ref p), some (.ref d), some (.ref a), some (.int (l - tidyL ts (us.take i))), u, yv, nv] ∧ Same H H2 ∧ H2 d = some (.frz o (.dK kvs)) ∧ H2 la = some (.lst (us.map V.int)) ∧ TmAt K H2 a xs (tidyT ts (us.take i))) ?_ ?_ ?_ ?_
    · refine ⟨none, none, none, [], ?_, s5, d5, l5, ⟨a5, .nil⟩⟩
      simp [tidyL]
    · rintro i σ H2 _ ⟨u, yv, nv, xs, rfl, g1, g2, g3, mk⟩
      exact SqL.of g3
    · rintro i x σ H2 N hx ⟨u0, yv, nv, xs, rfl, g1, g2, g3, mk⟩ hN
      rw [List.getElem?_map] at hx
      obtain ⟨u, hu, rfl⟩ := Option.map_eq_some_iff.mp hx
      have hx16 := hks u (hperm.mem_iff.mp (List.mem_of_getElem? hu))
      have hxl : xs.length ≤ 16 := by
        have z := mk.its.length
        have z2 := tidyT_len ts (us.take i)
        rw [List.length_take] at z2
        omega
      change tSeq _ _ _ _ _
      refine seq_gen fun R hR => ?_
      (try walk_at "rd3")
      refine ⟨.inl ⟨kvs, .inr ⟨o, g2⟩⟩, .inl ⟨by decide, by decide⟩, _, .inl ⟨kvs, Sum.inl (2 * u), .inr ⟨o, g2⟩, rfl, rfl⟩, hR _ _ ?_⟩
      clear hR
      rw [hD.get]
      refine seq_gen fun R hR => ?_
      (try walk_at "rd3")
      refine ⟨.inl ⟨kvs, .inr ⟨o, g2⟩⟩, .inl ⟨by decide, by decide⟩, _, .inl ⟨kvs, Sum.inl (2 * u + 1), .inr ⟨o, g2⟩, rfl, rfl⟩, hR _ _ ?_⟩
      clear hR
      rw [hD.get]
      have eT1 := tidyT_snoc ts (us.take i) u
      have eL1 := tidyL_snoc ts (us.take i) u
      rw [← take_snoc hu] at eT1 eL1
      generalize sumW ts (2 * u) = Y at *
      generalize sumW ts (2 * u + 1) = NN at *
      -- yes > no
      refine seq_gen fun R hR => ?_
      suffices key : ∀ (xs' : List V) (H' : Hp), Same H H' → H' d = some (.frz o (.dK kvs)) → H' la = some (.lst (us.map V.int)) → xs'.length ≤ 17 → TmAt K H' a xs' (tidyT ts (us.take i) ++ if NN < Y then [(Y - NN, 2 * u)] else []) → R [some (.ref p), some (.ref d), some (.ref a), some (.int (l - tidyL ts (us.take i))), some (.int u), some (.int Y), some (.int NN)] H' by
        try (try walk_at "rd0")
        refine ite2 (fun hc => ?_) (fun hc => key xs H2 g1 g2 g3 (by omega) (by rw [if_neg hc, List.append_nil]; exact mk))
        have at2 := mk.at_
        refine ⟨⟨xs, SqL.of at2⟩, .inl ⟨by decide, by decide⟩, line_le (by simp), fun t ht => ?_⟩
        have ntp : t ≠ a := (ne_of_none at2 ht).symm
        refine ⟨xs, by rw [upd_ne ntp.symm]; exact at2, small1000 (by omega), key (xs ++ [.ref t]) _ ((g1.trans (Same.new ht)).upd_new ha0) ?_ ?_ (by rw [List.length_append]; exact Nat.add_le_add hxl (Nat.le_refl 1)) ?_⟩
        · rw [upd_ne nda.symm, upd_ne (ne_of_none g2 ht)]
          exact g2
        · rw [upd_ne nla, upd_ne (ne_of_none g3 ht)]
          exact g3
        · rw [if_pos hc]
          exact mk.snoc ht
      intro xs1 H6 g1 g2 g3 hxl mk
      refine hR _ _ ?_
      clear hR
      -- no > yes
      refine seq_gen fun R hR => ?_
      suffices key : ∀ (xs' : List V) (H' : Hp), Same H H' → H' d = some (.frz o (.dK kvs)) → H' la = some (.lst (us.map V.int)) → TmAt K H' a xs' (tidyT ts (us.take i) ++ tyT Y NN u) → R [some (.ref p), some (.ref d), some (.ref a), some (.int (l - tidyL ts (us.take i))), some (.int u), some (.int Y), some (.int NN)] H' by
        try (try walk_at "rd0")
        refine ite2 (fun hc => ?_) (fun hc => key xs1 H6 g1 g2 g3 ?_)
        · have at2 := mk.at_
          refine ⟨⟨xs1, SqL.of at2⟩, .inl ⟨by decide, by decide⟩, line_le (by simp), fun t ht => ?_⟩
          have ntp : t ≠ a := (ne_of_none at2 ht).symm
          refine ⟨xs1, by rw [upd_ne ntp.symm]; exact at2, small1000 (by omega), key (xs1 ++ [.ref t]) _ ((g1.trans (Same.new ht)).upd_new ha0) ?_ ?_ ?_⟩
          · rw [upd_ne nda.symm, upd_ne (ne_of_none g2 ht)]
            exact g2
          · rw [upd_ne nla, upd_ne (ne_of_none g3 ht)]
            exact g3
          · rw [if_neg (by omega), List.append_nil] at mk
            have : tyT Y NN u = [(NN - Y, 2 * u + 1)] := by
              unfold tyT
              rw [if_neg (by omega), if_pos hc]
            rw [this]
            exact mk.snoc ht
        · have : tyT Y NN u = if NN < Y then [(Y - NN, 2 * u)] else [] := by
            unfold tyT
            rw [if_neg hc]
          rw [this]
          exact mk
      intro xs2 H7 g1 g2 g3 mk
      refine hR _ _ ?_
      clear hR
      try (try walk_at "rd0")
      refine hN _ _ ⟨some (.int u), some (.int Y), some (.int NN), xs2, ?_, g1, g2, g3, by rw [eT1]; exact mk⟩
      have e : l - tidyL ts (us.take i) - (if NN < Y then NN else Y) = l - tidyL ts (us.take (i + 1)) := by
        rw [eL1]
        split <;> omega
      rw [e]
    · rintro σ H2 ⟨u, yv, nv, xs, rfl, g1, g2, g3, mk⟩
      rw [List.length_map, List.take_length] at *
      refine hR _ _ ?_
      try (try walk_at "rd0")
      rw [eL, eT] at *
      refine ⟨line_le (by simp), fun q1 hq1 => ?_⟩
      have e1 : Same H2 (upd H2 q1 (.tup [.ref a, .int (l - tidyL ts un16)])) := Same.new hq1
      exact q _ _ (g1.trans e1) (newRow (g1.trans e1) ha0 ⟨upd_same, mk.mono e1⟩)
end
end Cp
namespace Cp
open PySem L2
def sp_added (K : PySem.W.Frag) : Sp := fun vs H Q _ => ∃ (r d : V) (one other : Row), vs = [r, d] ∧ rRow.rel K H r one ∧ rRow.rel K H d other ∧ Sides one.1 ∧ Sides other.1 ∧ one.1.length + other.1.length ≤ 1000 ∧ New rRow K H (addR one other) Q
section
seal L2.PSs L2.PS L2.PE L2.PT L2.PA L2.PG L2.PGs L2.PI L2.PW L2.PTs L2.OpR L2.UnR L2.CallR L2.IxR L2.SlR
variable {P : Program} {w : World} {K : PySem.W.Frag} {mg : Str → Option Value} {base : Heap}
theorem ok_added (T : Tx K mg) : FnOk P w K mg base CX0 3 T.f_added T.d_added P_added (sp_added K) := by
  have G_tidy := ok_tidy (P := P) (w := w) (base := base) T
  refine T.added.fn.ok sc_added (fun vs H Q E h => ?_) (fun cdv A outer s H vs Q E hr h => ?_)
  · obtain ⟨r, d, one, other, rfl, _⟩ := h
    rfl
  · obtain ⟨r, d, ⟨ts, l⟩, ⟨ts', l'⟩, rfl, hr1, hr2, s1, s2, hsz, q⟩ := h
    obtain ⟨p, a, xs, rfl, R1⟩ := rowAt hr1
    obtain ⟨p', a', xs', rfl, R2⟩ := rowAt hr2
    have hsz : ts.length + ts'.length ≤ 1000 := hsz
    refine ⟨_, (pss_one (ps_ret (pe_call G_tidy (hr.mono (by decide)) rfl T.tidy.mg T.tidy.fn.kp T.tidy.bd .nil pass0 (pa_cons (pe_tup (pa_cons (pe_op op_cat (pe_ix (ix_tupK (K := K) rfl) (pv 0) pe_int (fun _ _ => rfl)) (pe_ix (ix_tupK (K := K) rfl) (pv 1) pe_int (fun _ _ => rfl))) (pa_cons (pe_op op_add (pe_ix (ix_tupK (K := K) rfl) (pv 0) pe_int (fun _ _ => rfl)) (pe_ix (ix_tupK (K := K) rfl) (pv 1) pe_int (fun _ _ => rfl))) pa_nil))) pa_nil)))), ?_⟩
    rw [show L2.start N_added [V.ref p, V.ref p'] = [some (.ref p), some (.ref p')] from rfl]
    ((try walk_at "rd4"); (try simp only [sp_tidy]); (try walk_at "rd4"))
    refine ⟨_, SqT.of R1.tp, _, rfl, _, SqT.of R2.tp, _, rfl, _, rfl, _, rfl, xs, R1.tm.at_, xs', R2.tm.at_, ?_, fun c hc => ?_⟩
    · rw [R1.tm.len, R2.tm.len]
      exact line_le hsz
    have e1 : Same H (upd H c (.lst (xs ++ xs'))) := Same.new hc
    have m1 : TmAt K (upd H c (.lst (xs ++ xs'))) c (xs ++ xs') (ts ++ ts') := ⟨upd_same, papp (R1.tm.mono e1).its (R2.tm.mono e1).its⟩
    refine ⟨_, SqT.of (e1 _ _ R1.tp), _, rfl, _, SqT.of (e1 _ _ R2.tp), _, rfl, _, rfl, _, rfl, line_le (by simp), fun q1 hq1 => ?_⟩
    have e2 := Same.new (o := .tup [.ref c, .int (l + l')]) hq1
    refine ⟨(ts ++ ts', l + l'), ⟨q1, _, _, rfl, upd_same, (m1.mono e2).rel, rfl⟩, sides_app s1 s2, ?_, fun v H3 e3 hv => ?_⟩
    · show (ts ++ ts').length ≤ 1000
      rw [List.length_append]
      exact hsz
    · exact q _ _ ((e1.trans e2).trans e3) (nw_second (e1.trans e2) e3 hv)
end
end Cp
namespace Cp
open PySem L2
def sp_times (K : PySem.W.Frag) : Sp := fun vs H Q _ => ∃ (r : V) (row : Row) (k : Int), vs = [r, .int k] ∧ rRow.rel K H r row ∧ row.1.length ≤ 1000 ∧ -(2 ^ 64) < k ∧ k < 2 ^ 64 ∧ New rRow K H (timesR row k) Q
section
seal L2.PSs L2.PS L2.PE L2.PT L2.PA L2.PG L2.PGs L2.PI L2.PW L2.PTs L2.OpR L2.UnR L2.CallR L2.IxR L2.SlR
variable {P : Program} {w : World} {K : PySem.W.Frag} {mg : Str → Option Value} {base : Heap}
theorem ok_times (T : Tx K mg) : FnOk P w K mg base CX0 1 T.f_times T.d_times P_times (sp_times K) := by
  refine T.times.fn.ok sc_times (fun vs H Q E h => ?_) (fun cdv A outer s H vs Q E hr h => ?_)
  · obtain ⟨r, row, k, rfl, _⟩ := h
    rfl
  · obtain ⟨r, ⟨ts, l⟩, k, rfl, hrow, hsz, k0, k1, q⟩ := h
    obtain ⟨p, a, xs, rfl, hRw⟩ := rowAt hrow
    have hsz : ts.length ≤ 1000 := hsz
    refine ⟨_, (pss_one (ps_ret (pe_tup (pa_cons (pe_comp rfl (compOk_of (sc := defScope s_times) (N := N_times) (Nc := ["weight", "side", "number"]) (im := [none, none, some 1]) rfl rfl (by decide +kernel)) (pi_listK (K := K) rfl (pe_ix (ix_tupK (K := K) rfl) (pv 0) pe_int (fun _ _ => rfl))) (by intro cl C fp s1 H1; exact ⟨(pg_tupK (K := K) (n := 2) rfl rfl (pgs_cons (pg_name (i := 0) (by decide +kernel : List.Nodup (["weight", "side", "number"] : List Str)) rfl (Or.inl rfl) (Or.inr rfl)) (pgs_cons (pg_name (i := 1) (by decide +kernel : List.Nodup (["weight", "side", "number"] : List Str)) rfl (Or.inl rfl) (Or.inr rfl)) pgs_nil)) rfl rfl), pts_nil, (pe_tup (pa_cons (pe_op op_mul (pv 0) (pv 2)) (pa_cons (pv 1) pa_nil)))⟩)) (pa_cons (pe_op op_mul (pe_ix (ix_tupK (K := K) rfl) (pv 0) pe_int (fun _ _ => rfl)) (pv 1)) pa_nil))))), ?_⟩
    rw [show L2.start N_times [V.ref p, V.int k] = [some (.ref p), some (.int k)] from rfl]
    try (try walk_at "rd0")
    refine comp_l fun R1 hR1 => ?_
    try (try walk_at "rd0")
    refine ⟨_, SqT.of hRw.tp, _, rfl, hR1 _ _ _ (SqL.of hRw.tm.at_) fun acc hacc => compL rTerm rTerm (fun _ => true) (fun t => (t.1 * k, t.2)) (fun σ => ∃ u v, σ = [u, v, some (.int k)]) (SqL.of hRw.tm.at_) hRw.tm.its hsz hacc ⟨none, none, rfl⟩ ?_ ?_⟩
    · rintro x ⟨wt, sd⟩ σ H2 _ e ⟨pt, x1, x2, rfl, hT2, h1, h2⟩ ⟨u, v, rfl⟩ C hC
      obtain rfl : x1 = .int wt := h1
      obtain rfl : x2 = .int sd := h2
      try (try walk_at "rd0")
      refine ⟨[.int wt, .int sd], SqT.of hT2, rfl, ?_⟩
      try (try walk_at "rd0")
      refine hC _ _ _ rfl (Same.refl _) ⟨_, _, rfl⟩ fun _ D hD => ?_
      try (try walk_at "rd0")
      exact ⟨.inr ⟨k0, k1⟩, line_le (by simp), fun t ht => hD _ _ (Same.new ht) ⟨t, _, _, rfl, nw_of_tup (Same.new ht) upd_same, rfl, rfl⟩⟩
    intro H2 e2 h2
    rw [filter_all] at h2
    try (try walk_at "rd0")
    refine ⟨_, SqT.of (e2 _ _ hRw.tp), _, rfl, _, rfl, .inr ⟨k0, k1⟩, line_le (by simp), fun q1 hq1 => ?_⟩
    have e3 := Same.new (o := .tup [.ref acc, .int (l * k)]) hq1
    exact q _ _ (e2.trans e3) ⟨q1, _, _, rfl, nw_of_tup (e2.trans e3) upd_same, nw_first e3 h2, rfl⟩
end
end Cp
namespace Cp
open PySem L2
def sp_divided_up : Sp := fun vs H Q _ => ∃ (n k : Int), vs = [.int n, .int k] ∧ 1 ≤ k ∧ k < 18446744073709551616 ∧ Q (.int (cdiv n k)) H
section
seal L2.PSs L2.PS L2.PE L2.PT L2.PA L2.PG L2.PGs L2.PI L2.PW L2.PTs L2.OpR L2.UnR L2.CallR L2.IxR L2.SlR
variable {P : Program} {w : World} {K : PySem.W.Frag} {mg : Str → Option Value} {base : Heap}
theorem ok_divided_up (T : Tx K mg) : FnOk P w K mg base CX0 1 T.f_divided_up T.d_divided_up P_divided_up sp_divided_up := by
  refine T.divided_up.fn.ok sc_divided_up (fun vs H Q E h => ?_) (fun cdv A outer s H vs Q E hr h => ?_)
  · obtain ⟨n, k, rfl, _⟩ := h
    rfl
  · obtain ⟨n, k, rfl, k0, k1, q⟩ := h
    refine ⟨_, (pss_one (ps_ret (pe_un un_neg (pe_op op_fdivB (pe_un un_neg (pv 0)) (pv 1))))), ?_⟩
    rw [show L2.start N_divided_up [V.int n, V.int k] = [some (.int n), some (.int k)] from rfl]
    try (try walk_at "rd0")
    exact ⟨⟨by omega, k1⟩, q⟩
end
end Cp
namespace Cp
open PySem L2
def sp_cut (K : PySem.W.Frag) : Sp := fun vs H Q _ => ∃ (r : V) (row : Row) (k : Int), vs = [r, .int k] ∧ rRow.rel K H r row ∧ row.1.length ≤ 1000 ∧ 1 ≤ k ∧ k < 18446744073709551616 ∧ New rRow K H (cutR row k) Q
section
seal L2.PSs L2.PS L2.PE L2.PT L2.PA L2.PG L2.PGs L2.PI L2.PW L2.PTs L2.OpR L2.UnR L2.CallR L2.IxR L2.SlR
variable {P : Program} {w : World} {K : PySem.W.Frag} {mg : Str → Option Value} {base : Heap}
theorem ok_cut (T : Tx K mg) : FnOk P w K mg base CX0 2 T.f_cut T.d_cut P_cut (sp_cut K) := by
  have G_divided_up := ok_divided_up (P := P) (w := w) (base := base) T
  refine T.cut.fn.ok sc_cut (fun vs H Q E h => ?_) (fun cdv A outer s H vs Q E hr h => ?_)
  · obtain ⟨r, row, k, rfl, _⟩ := h
    rfl
  · obtain ⟨r, ⟨ts, l⟩, k, rfl, hrow, hsz, k0, k1, q⟩ := h
    obtain ⟨p, a, xs, rfl, hRw⟩ := rowAt hrow
    have hsz : ts.length ≤ 1000 := hsz
    refine ⟨_, (pss_cons (ps_comp (k := 2) rfl (compOk_of (sc := defScope s_cut) (N := N_cut) (Nc := ["weight", "side", "number"]) (im := [none, none, some 1]) rfl rfl (by decide +kernel)) sc_cut.nd rfl (Or.inl rfl) (pi_listK (K := K) rfl (pe_ix (ix_tupK (K := K) rfl) (pv 0) pe_int (fun _ _ => rfl))) (by intro cl C fp s1 H1; exact ⟨(pg_tupK (K := K) (n := 2) rfl rfl (pgs_cons (pg_name (i := 0) (by decide +kernel : List.Nodup (["weight", "side", "number"] : List Str)) rfl (Or.inl rfl) (Or.inr rfl)) (pgs_cons (pg_name (i := 1) (by decide +kernel : List.Nodup (["weight", "side", "number"] : List Str)) rfl (Or.inl rfl) (Or.inr rfl)) pgs_nil)) rfl rfl), pts_nil, (pe_tup (pa_cons (pe_call G_divided_up (hr.mono (by decide)) rfl T.divided_up.mg T.divided_up.fn.kp T.divided_up.bd .nil pass0 (pa_cons (pv 0) (pa_cons (pv 2) pa_nil))) (pa_cons (pv 1) pa_nil)))⟩))
      (pss_one (ps_ret (pe_tup (pa_cons (pv 2) (pa_cons (pe_call G_divided_up (hr.mono (by decide)) rfl T.divided_up.mg T.divided_up.fn.kp T.divided_up.bd .nil pass0 (pa_cons (pe_ix (ix_tupK (K := K) rfl) (pv 0) pe_int (fun _ _ => rfl)) (pa_cons (pv 1) pa_nil))) pa_nil)))))), ?_⟩
    rw [show L2.start N_cut [V.ref p, V.int k] = [some (.ref p), some (.int k), none] from rfl]
    refine seq_gen fun R hR => comp_l fun R1 hR1 => ?_
    try (try walk_at "rd0")
    refine ⟨_, SqT.of hRw.tp, _, rfl, hR1 _ _ _ (SqL.of hRw.tm.at_) fun acc hacc => compL rTerm rTerm (fun _ => true) (fun t => (cdiv t.1 k, t.2)) (fun σ => ∃ u v, σ = [u, v, some (.int k)]) (SqL.of hRw.tm.at_) hRw.tm.its hsz hacc ⟨none, none, rfl⟩ ?_ ?_⟩
    · rintro x ⟨wt, sd⟩ σ H2 _ e ⟨pt, x1, x2, rfl, hT2, h1, h2⟩ ⟨u, v, rfl⟩ C hC
      obtain rfl : x1 = .int wt := h1
      obtain rfl : x2 = .int sd := h2
      try (try walk_at "rd0")
      refine ⟨[.int wt, .int sd], SqT.of hT2, rfl, ?_⟩
      try (try walk_at "rd0")
      refine hC _ _ _ rfl (Same.refl _) ⟨_, _, rfl⟩ fun _ D hD => ?_
      ((try walk_at "rd0"); (try simp only [sp_divided_up]); (try walk_at "rd0"))
      exact ⟨k0, k1, line_le (by simp), fun t ht => hD _ _ (Same.new ht) ⟨t, _, _, rfl, nw_of_tup (Same.new ht) upd_same, rfl, rfl⟩⟩
    intro H2 e2 h2
    rw [filter_all] at h2
    refine hR _ _ ?_
    ((try walk_at "rd0"); (try simp only [sp_divided_up]); (try walk_at "rd0"))
    refine ⟨_, SqT.of (e2 _ _ hRw.tp), _, rfl, _, rfl, k0, k1, line_le (by simp), fun q1 hq1 => ?_⟩
    have e3 := Same.new (o := .tup [.ref acc, .int (cdiv l k)]) hq1
    exact q _ _ (e2.trans e3) ⟨q1, _, _, rfl, nw_of_tup (e2.trans e3) upd_same, nw_first e3 h2, rfl⟩
end
end Cp
namespace Cp
open PySem L2
def sp_sized (K : PySem.W.Frag) : Sp := fun vs H Q _ => ∃ (r : V) (row : Row), vs = [r] ∧ rRow.rel K H r row ∧ row.1.length ≤ 1000 ∧ New rRow K H (sizedR row) Q
section
seal L2.PSs L2.PS L2.PE L2.PT L2.PA L2.PG L2.PGs L2.PI L2.PW L2.PTs L2.OpR L2.UnR L2.CallR L2.IxR L2.SlR
variable {P : Program} {w : World} {K : PySem.W.Frag} {mg : Str → Option Value} {base : Heap}
theorem ok_sized (T : Tx K mg) : FnOk P w K mg base CX0 1 T.f_sized T.d_sized P_sized (sp_sized K) := by
  refine T.sized.fn.ok sc_sized (fun vs H Q E h => ?_) (fun cdv A outer s H vs Q E hr h => ?_)
  · obtain ⟨r, row, rfl, _⟩ := h
    rfl
  · obtain ⟨r, ⟨ts, l⟩, rfl, hrow, hsz, q⟩ := h
    obtain ⟨p, a, xs, rfl, hRw⟩ := rowAt hrow
    have hsz : ts.length ≤ 1000 := hsz
    unfold sizedR at q
    have q : New rRow K H (if l < 1 then (ts, l) else (ts.map fun t => (min t.1 l, t.2), l)) Q := q
    refine ⟨_, (pss_cons (ps_set (i := 1) sc_sized.nd rfl (Or.inr rfl) (pe_ix (ix_tupK (K := K) rfl) (pv 0) pe_int (fun _ _ => rfl)))
      (pss_cons (ps_if (pt_cmpR op_lt (pv 1) pe_int (nomark _))
      (pss_one (ps_ret (pe_tup (pa_cons (pe_callTy (list_ofK (K := K) rfl) (by rfl) T.b_list bb_list (pa_cons (pe_ix (ix_tupK (K := K) rfl) (pv 0) pe_int (fun _ _ => rfl)) pa_nil)) (pa_cons (pv 1) pa_nil)))))
      pss_nil)
      (pss_one (ps_ret (pe_tup (pa_cons (pe_comp rfl (compOk_of (sc := defScope s_sized) (N := N_sized) (Nc := ["weight", "side", "least"]) (im := [none, none, some 1]) rfl rfl (by decide +kernel)) (pi_listK (K := K) rfl (pe_ix (ix_tupK (K := K) rfl) (pv 0) pe_int (fun _ _ => rfl))) (by intro cl C fp s1 H1; exact ⟨(pg_tupK (K := K) (n := 2) rfl rfl (pgs_cons (pg_name (i := 0) (by decide +kernel : List.Nodup (["weight", "side", "least"] : List Str)) rfl (Or.inl rfl) (Or.inr rfl)) (pgs_cons (pg_name (i := 1) (by decide +kernel : List.Nodup (["weight", "side", "least"] : List Str)) rfl (Or.inl rfl) (Or.inr rfl)) pgs_nil)) rfl rfl), pts_nil, (pe_tup (pa_cons (pe_callB (call_min2 rfl) (by rfl) T.b_min bb_min (pa_cons (pv 0) (pa_cons (pv 2) pa_nil))) (pa_cons (pv 1) pa_nil)))⟩)) (pa_cons (pv 1) pa_nil))))))), ?_⟩
    rw [show L2.start N_sized [V.ref p] = [some (.ref p), none] from rfl]
    refine seq_gen fun R hR => ?_
    try (try walk_at "rd0")
    refine ⟨_, SqT.of hRw.tp, _, rfl, hR _ _ ?_⟩
    clear hR
    refine seq_gen fun R hR => ?_
    try (try walk_at "rd0")
    refine ite2 (fun hc => ?_) (fun hc => hR _ _ ?_)
    · rw [if_pos hc] at q
      refine ⟨_, SqT.of hRw.tp, _, rfl, _, rfl, xs, .inl (SqL.of hRw.tm.at_), fun c hcn => ⟨line_le (by simp), fun q1 hq1 => ?_⟩⟩
      have e2 : Same H (upd H c (.lst xs)) := Same.new hcn
      have e3 := Same.new (o := .tup [.ref c, .int l]) hq1
      exact q _ _ (e2.trans e3) (newRow (e2.trans e3) hcn ⟨upd_same, (hRw.tm.copy hcn).mono e3⟩)
    · rw [if_neg hc] at q
      try (try walk_at "rd0")
      refine comp_l fun R1 hR1 => ?_
      try (try walk_at "rd0")
      refine ⟨_, SqT.of hRw.tp, _, rfl, hR1 _ _ _ (SqL.of hRw.tm.at_) fun acc hacc => compL rTerm rTerm (fun _ => true) (fun t => (min t.1 l, t.2)) (fun σ => ∃ u v, σ = [u, v, some (.int l)]) (SqL.of hRw.tm.at_) hRw.tm.its hsz hacc ⟨none, none, rfl⟩ ?_ ?_⟩
      · rintro x ⟨wt, sd⟩ σ H2 _ e ⟨pt, x1, x2, rfl, hT2, h1, h2⟩ ⟨u, v, rfl⟩ C hC
        obtain rfl : x1 = .int wt := h1
        obtain rfl : x2 = .int sd := h2
        try (try walk_at "rd0")
        refine ⟨[.int wt, .int sd], SqT.of hT2, rfl, ?_⟩
        try (try walk_at "rd0")
        refine hC _ _ _ rfl (Same.refl _) ⟨_, _, rfl⟩ fun _ D hD => ?_
        try (try walk_at "rd0")
        have em : (if l < wt then l else wt) = min wt l := by split <;> omega
        rw [em]
        exact ⟨line_le (by simp), fun t ht => hD _ _ (Same.new ht) ⟨t, _, _, rfl, nw_of_tup (Same.new ht) upd_same, rfl, rfl⟩⟩
      intro H2 e2 h2
      rw [filter_all] at h2
      try (try walk_at "rd0")
      refine ⟨line_le (by simp), fun q1 hq1 => ?_⟩
      have e3 := Same.new (o := .tup [.ref acc, .int l]) hq1
      exact q _ _ (e2.trans e3) ⟨q1, _, _, rfl, nw_of_tup (e2.trans e3) upd_same, nw_first e3 h2, rfl⟩
end
end Cp
namespace Cp
open PySem L2
def sp_line_of (K : PySem.W.Frag) : Sp := fun vs H Q _ => ∃ (s r m : V) (st : Stp) (rows made : List Row), vs = [s, r, m] ∧ rStep.rel K H s st.key ∧ rRows.rel K H r rows ∧ rRows.rel K H m made ∧ st.good rows.length made.length ∧
  (∀ x ∈ rows, Sides x.1 ∧ x.1.length ≤ 1000) ∧ (∀ x ∈ made, Tidy x.1) ∧ New rRow K H (lineR rows made st) Q
section
seal L2.PSs L2.PS L2.PE L2.PT L2.PA L2.PG L2.PGs L2.PI L2.PW L2.PTs L2.OpR L2.UnR L2.CallR L2.IxR L2.SlR
variable {P : Program} {w : World} {K : PySem.W.Frag} {mg : Str → Option Value} {base : Heap}
theorem ok_line_of (T : Tx K mg) : FnOk P w K mg base CX0 4 T.f_line_of T.d_line_of P_line_of (sp_line_of K) := by
  have G_tidy := ok_tidy (P := P) (w := w) (base := base) T
  have G_added := ok_added (P := P) (w := w) (base := base) T
  have G_times := ok_times (P := P) (w := w) (base := base) T
  have G_cut := ok_cut (P := P) (w := w) (base := base) T
  have G_sized := ok_sized (P := P) (w := w) (base := base) T
  refine T.line_of.fn.ok sc_line_of (fun vs H Q E h => ?_) (fun cdv A outer s H vs Q E hr h => ?_)
  · obtain ⟨s, r, m, st, rows, made, rfl, _⟩ := h
    rfl
  · obtain ⟨s, r, m, st, rows, made, rfl, hs, ⟨ra, rxs, rfl, hR1, pR⟩, ⟨ma, mxs, rfl, hM1, pM⟩, g, hrow, hmade, q⟩ := h
    obtain ⟨p, rfl, hT⟩ := step_at hs
    refine ⟨_, (pss_cons (ps_set (i := 3) sc_line_of.nd rfl (Or.inl rfl) (pe_ix (ix_tupK (K := K) rfl) (pv 0) pe_int (fun _ _ => rfl)))
      (pss_cons (ps_if (pt_cmpR op_eq (pv 3) pe_str (nomark _))
      (pss_one (ps_ret (pe_call G_tidy (hr.mono (by decide)) rfl T.tidy.mg T.tidy.fn.kp T.tidy.bd .nil pass0 (pa_cons (pe_ix (ix_listK (K := K) rfl) (pv 1) (pe_ix (ix_tupK (K := K) rfl) (pv 0) pe_int (fun _ _ => rfl)) (fun _ _ => rfl)) pa_nil))))
      pss_nil)
      (pss_cons (ps_if (pt_cmpR op_eq (pv 3) pe_str (nomark _))
      (pss_one (ps_ret (pe_tup (pa_cons (pe_lst (pa_cons (pe_tup (pa_cons pe_int (pa_cons (pe_ix (ix_tupK (K := K) rfl) (pv 0) pe_int (fun _ _ => rfl)) pa_nil))) pa_nil)) (pa_cons pe_int pa_nil)))))
      pss_nil)
      (pss_cons (ps_set (i := 4) sc_line_of.nd rfl (Or.inl rfl) (pe_ix (ix_listK (K := K) rfl) (pv 2) (pe_ix (ix_tupK (K := K) rfl) (pv 0) pe_int (fun _ _ => rfl)) (fun _ _ => rfl)))
      (pss_cons (ps_if (pt_cmpR op_eq (pv 3) pe_str (nomark _))
      (pss_one (ps_ret (pe_call G_added (hr.mono (by decide)) rfl T.added.mg T.added.fn.kp T.added.bd .nil pass0 (pa_cons (pv 4) (pa_cons (pe_ix (ix_listK (K := K) rfl) (pv 2) (pe_ix (ix_tupK (K := K) rfl) (pv 0) pe_int (fun _ _ => rfl)) (fun _ _ => rfl)) pa_nil)))))
      pss_nil)
      (pss_cons (ps_if (pt_cmpR op_eq (pv 3) pe_str (nomark _))
      (pss_one (ps_ret (pe_call G_times (hr.mono (by decide)) rfl T.times.mg T.times.fn.kp T.times.bd .nil pass0 (pa_cons (pv 4) (pa_cons (pe_ix (ix_tupK (K := K) rfl) (pv 0) pe_int (fun _ _ => rfl)) pa_nil)))))
      pss_nil)
      (pss_cons (ps_if (pt_cmpR op_eq (pv 3) pe_str (nomark _))
      (pss_one (ps_ret (pe_call G_cut (hr.mono (by decide)) rfl T.cut.mg T.cut.fn.kp T.cut.bd .nil pass0 (pa_cons (pv 4) (pa_cons (pe_ix (ix_tupK (K := K) rfl) (pv 0) pe_int (fun _ _ => rfl)) pa_nil)))))
      pss_nil)
      (pss_one (ps_ret (pe_call G_sized (hr.mono (by decide)) rfl T.sized.mg T.sized.fn.kp T.sized.bd .nil pass0 (pa_cons (pv 4) pa_nil))))))))))), ?_⟩
    rw [show L2.start N_line_of [V.ref p, V.ref ra, V.ref ma] = [some (.ref p), some (.ref ra), some (.ref ma), none, none] from rfl]
    refine seq_gen fun R hR => ?_
    (try walk_at "rd0")
    refine ⟨_, SqT.of hT, V.str (match st with | .given _ => Str.ofString "given" | .side _ => Str.ofString "side" | .add _ _ => Str.ofString "add" | .times _ _ => Str.ofString "times" | .cut _ _ => Str.ofString "cut" | .size _ => Str.ofString "size"), by cases st <;> rfl, hR _ _ ?_⟩
    clear hR
    cases st with
    | given r =>
      have hT : H p = some (.tup [.str (Str.ofString "given"), .int r]) := hT
      obtain ⟨v, e1, x, e2, hx⟩ := atI_pair pR g.1 g.2
      have ex : rows.getD r.toNat row0 = x := by rw [List.getD_eq_getElem?_getD, e2]; rfl
      have hin := hrow x (List.mem_of_getElem? e2)
      refine seq_take rfl ?_
      ((try walk_at "rd0"); (try simp only [sp_tidy]); (try walk_at "rd0"))
      refine ⟨_, SqT.of hT, _, rfl, _, _, rfl, SqL.of hR1, _, e1, x, hx, hin.1, hin.2, ?_⟩
      have q : New rRow K H (tidyR (rows.getD r.toNat row0)) Q := q
      rw [ex] at q
      exact q
    | side r =>
      have hT : H p = some (.tup [.str (Str.ofString "side"), .int r]) := hT
      refine seq_skip rfl (ofStr_ne rfl) ?_
      refine seq_take rfl ?_
      (try walk_at "rd0")
      refine ⟨_, SqT.of hT, _, rfl, line_le (by simp), fun t ht => ⟨line_le (by simp), fun l hl => ⟨line_le (by simp), fun q1 hq1 => ?_⟩⟩⟩
      have e1 : Same H (upd H t (.tup [.int 1, .int r])) := Same.new ht
      have e2 := Same.new (o := .lst [.ref t]) hl
      have e3 := Same.new (o := .tup [.ref l, .int 0]) hq1
      exact q _ _ ((e1.trans e2).trans e3) (newRow ((e1.trans e2).trans e3) (e1.free hl) ⟨upd_same, e3 _ _ upd_same, .cons ⟨t, _, _, rfl, e3 _ _ (e2 _ _ upd_same), rfl, rfl⟩ .nil⟩)
    | add i j =>
      have hT : H p = some (.tup [.str (Str.ofString "add"), .int i, .int j]) := hT
      obtain ⟨v, e1, x, e2, hx⟩ := atI_pair pM g.1.1 g.1.2
      obtain ⟨v', e1', x', e2', hx'⟩ := atI_pair pM g.2.1 g.2.2
      have ex : made.getD i.toNat row0 = x := by rw [List.getD_eq_getElem?_getD, e2]; rfl
      have ex' : made.getD j.toNat row0 = x' := by rw [List.getD_eq_getElem?_getD, e2']; rfl
      have hin := hmade x (List.mem_of_getElem? e2)
      have hin' := hmade x' (List.mem_of_getElem? e2')
      refine seq_skip rfl (ofStr_ne rfl) ?_
      refine seq_skip rfl (ofStr_ne rfl) ?_
      refine seq_gen fun R hR => ?_
      (try walk_at "rd0")
      refine ⟨_, SqT.of hT, _, rfl, _, _, rfl, SqL.of hM1, _, e1, hR _ _ ?_⟩
      clear hR
      refine seq_take rfl ?_
      ((try walk_at "rd0"); (try simp only [sp_added]); (try walk_at "rd0"))
      have l1 := hin.len
      have l2 := hin'.len
      refine ⟨_, SqT.of hT, _, rfl, _, _, rfl, SqL.of hM1, _, e1', x, hx, x', hx', hin.sd, hin'.sd, by omega, ?_⟩
      have q : New rRow K H (addR (made.getD i.toNat row0) (made.getD j.toNat row0)) Q := q
      rw [ex, ex'] at q
      exact q
    | times i k =>
      have hT : H p = some (.tup [.str (Str.ofString "times"), .int i, .int k]) := hT
      obtain ⟨v, e1, x, e2, hx⟩ := atI_pair pM g.1.1 g.1.2
      have ex : made.getD i.toNat row0 = x := by rw [List.getD_eq_getElem?_getD, e2]; rfl
      have hin := hmade x (List.mem_of_getElem? e2)
      have k0 := g.2.1
      have k1 := g.2.2
      refine seq_skip rfl (ofStr_ne rfl) ?_
      refine seq_skip rfl (ofStr_ne rfl) ?_
      refine seq_gen fun R hR => ?_
      (try walk_at "rd0")
      refine ⟨_, SqT.of hT, _, rfl, _, _, rfl, SqL.of hM1, _, e1, hR _ _ ?_⟩
      clear hR
      refine seq_skip rfl (ofStr_ne rfl) ?_
      refine seq_take rfl ?_
      ((try walk_at "rd0"); (try simp only [sp_times]); (try walk_at "rd0"))
      have l1 := hin.len
      refine ⟨_, SqT.of hT, _, rfl, x, k, rfl, hx, by omega, by omega, by omega, ?_⟩
      have q : New rRow K H (timesR (made.getD i.toNat row0) k) Q := q
      rw [ex] at q
      exact q
    | cut i k =>
      have hT : H p = some (.tup [.str (Str.ofString "cut"), .int i, .int k]) := hT
      obtain ⟨v, e1, x, e2, hx⟩ := atI_pair pM g.1.1 g.1.2
      have ex : made.getD i.toNat row0 = x := by rw [List.getD_eq_getElem?_getD, e2]; rfl
      have hin := hmade x (List.mem_of_getElem? e2)
      have k0 := g.2.1
      have k1 := g.2.2
      refine seq_skip rfl (ofStr_ne rfl) ?_
      refine seq_skip rfl (ofStr_ne rfl) ?_
      refine seq_gen fun R hR => ?_
      (try walk_at "rd0")
      refine ⟨_, SqT.of hT, _, rfl, _, _, rfl, SqL.of hM1, _, e1, hR _ _ ?_⟩
      clear hR
      refine seq_skip rfl (ofStr_ne rfl) ?_
      refine seq_skip rfl (ofStr_ne rfl) ?_
      refine seq_take rfl ?_
      ((try walk_at "rd0"); (try simp only [sp_cut]); (try walk_at "rd0"))
      have l1 := hin.len
      refine ⟨_, SqT.of hT, _, rfl, x, k, rfl, hx, by omega, by omega, by omega, ?_⟩
      have q : New rRow K H (cutR (made.getD i.toNat row0) k) Q := q
      rw [ex] at q
      exact q
    | size i =>
      have hT : H p = some (.tup [.str (Str.ofString "size"), .int i]) := hT
      obtain ⟨v, e1, x, e2, hx⟩ := atI_pair pM g.1 g.2
      have ex : made.getD i.toNat row0 = x := by rw [List.getD_eq_getElem?_getD, e2]; rfl
      have hin := hmade x (List.mem_of_getElem? e2)
      refine seq_skip rfl (ofStr_ne rfl) ?_
      refine seq_skip rfl (ofStr_ne rfl) ?_
      refine seq_gen fun R hR => ?_
      (try walk_at "rd0")
      refine ⟨_, SqT.of hT, _, rfl, _, _, rfl, SqL.of hM1, _, e1, hR _ _ ?_⟩
      clear hR
      refine seq_skip rfl (ofStr_ne rfl) ?_
      refine seq_skip rfl (ofStr_ne rfl) ?_
      refine seq_skip rfl (ofStr_ne rfl) ?_
      ((try walk_at "rd0"); (try simp only [sp_sized]); (try walk_at "rd0"))
      have l1 := hin.len
      refine ⟨x, hx, by omega, ?_⟩
      have q : New rRow K H (sizedR (made.getD i.toNat row0)) Q := q
      rw [ex] at q
      exact q
end
end Cp
namespace Cp
open PySem L2
def sp_is_failed (K : PySem.W.Frag) : Sp := fun vs H Q _ => ∃ (s : Int) (f : V) (st : List Bool), vs = [.int s, f] ∧ rFill.rel K H f st ∧ 0 ≤ s ∧ Q (.bl (failed st s)) H
section
seal L2.PSs L2.PS L2.PE L2.PT L2.PA L2.PG L2.PGs L2.PI L2.PW L2.PTs L2.OpR L2.UnR L2.CallR L2.IxR L2.SlR
variable {P : Program} {w : World} {K : PySem.W.Frag} {mg : Str → Option Value} {base : Heap}
theorem ok_is_failed (T : Tx K mg) : FnOk P w K mg base CX0 2 T.f_is_failed T.d_is_failed P_is_failed (sp_is_failed K) := by
  have G_is_met := ok_is_met (P := P) (w := w) (base := base) T
  refine T.is_failed.fn.ok sc_is_failed (fun vs H Q E h => ?_) (fun cdv A outer s H vs Q E hr h => ?_)
  · obtain ⟨s, f, st, rfl, _⟩ := h
    rfl
  · obtain ⟨s0, f, st, rfl, hf, h1, q⟩ := h
    obtain ⟨a, xs, rfl, hS, hp⟩ := id hf
    have hl : xs.length = st.length := hp.length
    refine ⟨_, (pss_one (ps_ret (pe_and (pe_cmpR op_lt (pe_op op_fdivB (pv 0) pe_int) (pe_callB (len_seqK (K := K) rfl) (by rfl) T.b_len bb_len (pa_cons (pv 1) pa_nil)) (nomark _)) (pe_one (pe_not (pe_call G_is_met (hr.mono (by decide)) rfl T.is_met.mg T.is_met.fn.kp T.is_met.bd .nil pass0 (pa_cons (pv 0) (pa_cons (pv 1) pa_nil)))))))), ?_⟩
    rw [show L2.start N_is_failed [V.int s0, V.ref a] = [some (.int s0), some (.ref a)] from rfl]
    ((try walk_at "rd0"); (try simp only [sp_is_met]); (try walk_at "rd0"))
    refine ⟨⟨by decide, by decide⟩, xs, .inl (SqL.of hS), ?_⟩
    unfold failed at q
    rw [hl]
    refine ite2 (fun z => ⟨st, hf, h1, z, ?_⟩) (fun z => ?_)
    · rw [decide_eq_true z, Bool.true_and] at q
      try (try walk_at "rd0")
      exact q
    · rw [decide_eq_false z, Bool.false_and] at q
      exact q
end
end Cp
namespace Cp
open PySem L2
def sp_most_to_come (K : PySem.W.Frag) : Sp := fun vs H Q _ => ∃ (r f : V) (row : Row) (st : List Bool), vs = [r, f] ∧ rRow.rel K H r row ∧ rFill.rel K H f st ∧ Sides row.1 ∧ row.1.length ≤ 1000 ∧ ∀ H', Same H H' → Q (.int (mostC st row.1)) H'
section
seal L2.PSs L2.PS L2.PE L2.PT L2.PA L2.PG L2.PGs L2.PI L2.PW L2.PTs L2.OpR L2.UnR L2.CallR L2.IxR L2.SlR
variable {P : Program} {w : World} {K : PySem.W.Frag} {mg : Str → Option Value} {base : Heap}
theorem ok_most_to_come (T : Tx K mg) : FnOk P w K mg base CX0 3 T.f_most_to_come T.d_most_to_come P_most_to_come (sp_most_to_come K) := by
  have G_is_failed := ok_is_failed (P := P) (w := w) (base := base) T
  refine T.most_to_come.fn.ok sc_most_to_come (fun vs H Q E h => ?_) (fun cdv A outer s H vs Q E hr h => ?_)
  · obtain ⟨r, f, row, st, rfl, _⟩ := h
    rfl
  · obtain ⟨r, f, ⟨ts, l⟩, bs, rfl, ⟨q0, x, y, rfl, hT, ⟨a, xs, rfl, hS, hp⟩, h2⟩, hf, hin, hsz, q⟩ := h
    have hin : Sides ts := hin
    have hsz : ts.length ≤ 1000 := hsz
    refine ⟨_, (pss_one (ps_ret (pe_callB (call_sum rfl) (by rfl) T.b_sum bb_sum (pa_cons (pe_comp rfl (compOk_of (sc := defScope s_most_to_come) (N := N_most_to_come) (Nc := ["weight", "side", "start"]) (im := [none, none, some 1]) rfl rfl (by decide +kernel)) (pi_listK (K := K) rfl (pe_ix (ix_tupK (K := K) rfl) (pv 0) pe_int (fun _ _ => rfl))) (by intro cl C fp s1 H1; exact ⟨(pg_tupK (K := K) (n := 2) rfl rfl (pgs_cons (pg_name (i := 0) (by decide +kernel : List.Nodup (["weight", "side", "start"] : List Str)) rfl (Or.inl rfl) (Or.inr rfl)) (pgs_cons (pg_name (i := 1) (by decide +kernel : List.Nodup (["weight", "side", "start"] : List Str)) rfl (Or.inl rfl) (Or.inr rfl)) pgs_nil)) rfl rfl), (pts_one (pt_not (pt_val (pe_call G_is_failed (hr.mono (by decide)) rfl T.is_failed.mg T.is_failed.fn.kp T.is_failed.bd .nil pass0 (pa_cons (pv 1) (pa_cons (pv 2) pa_nil)))))), (pv 0)⟩)) pa_nil)))), ?_⟩
    rw [show L2.start N_most_to_come [V.ref q0, f] = [some (.ref q0), some f] from rfl]
    try (try walk_at "rd0")
    refine comp_l fun R1 hR1 => ?_
    try (try walk_at "rd0")
    refine ⟨_, SqT.of hT, _, rfl, hR1 _ _ _ (SqL.of hS) fun acc hacc => ?_⟩
    have hsm : ∀ ys, Same H (upd H acc (.lst ys)) := fun ys => (Same.refl H).upd_new hacc
    refine comp_list (xs := xs) (fun i σ ys H2 => ∃ (u v : Option V), σ = [u, v, some f] ∧ ys = (((ts.take i).filter fun t => !failed bs t.2).map (·.1)).map V.int ∧ H2 = upd H acc (.lst ys)) ?_ ?_ ?_ ?_
    · exact ⟨none, none, rfl, rfl, rfl⟩
    · rintro i σ ys H2 _ ⟨u, v, rfl, rfl, rfl⟩
      exact ⟨(hsm _).seq (SqL.of hS), upd_same⟩
    · rintro i x σ ys H2 N hx ⟨u, v, rfl, rfl, rfl⟩ hN
      obtain ⟨⟨wt, sd⟩, ht, p, x1, x2, rfl, hT2, h1, h2⟩ := pgetL hp hx
      obtain rfl : x1 = .int wt := h1
      obtain rfl : x2 = .int sd := h2
      obtain ⟨i0, i1⟩ := hin _ (List.mem_of_getElem? ht)
      unfold compT
      ((try walk_at "rd0"); (try simp only [sp_is_failed]); (try walk_at "rd0"))
      refine ⟨[.int wt, .int sd], (hsm _).tup (SqT.of hT2), rfl, ?_⟩
      ((try walk_at "rd0"); (try simp only [sp_is_failed]); (try walk_at "rd0"))
      refine ⟨bs, rFill.mono (hsm _) hf, i0, ?_⟩
      have es : (ts.take (i + 1)).filter (fun t => !failed bs t.2) = (ts.take i).filter (fun t => !failed bs t.2) ++ if (!failed bs sd) = true then [(wt, sd)] else [] := by
        rw [take_snoc ht, List.filter_append]
        by_cases h : failed bs sd = true <;> simp [h]
      have hlen : ((((ts.take i).filter fun t => !failed bs t.2).map (·.1)).map V.int).length < sizeLine := by
        rw [List.length_map, List.length_map]
        refine small1000 (Nat.le_trans (List.length_filter_le _ _) ?_)
        rw [List.length_take]
        exact Nat.le_trans (Nat.min_le_right _ _) hsz
      refine ite2 (fun hc => ⟨upd_same, hlen, hN _ _ _ ⟨_, _, rfl, ?_, ?_⟩⟩) (fun hc => hN _ _ _ ⟨_, _, rfl, ?_, ?_⟩)
      · rw [es, if_pos hc]
        simp
      · rw [upd_upd]
      · rw [es, if_neg hc]
        simp
      · rfl
    · rintro σ ys H2 ⟨u, v, rfl, rfl, rfl⟩
      have el : xs.length = ts.length := hp.length
      rw [el, List.take_length]
      exact ⟨_, SqL.of upd_same, q _ (hsm _)⟩
end
end Cp
namespace Cp
open PySem L2
def optV : Option Nat → V
  | some i => .int i
  | none => .non
def sp_first_broken (K : PySem.W.Frag) : Sp := fun vs H Q _ => ∃ (r f : V) (rows : List Row) (st : List Bool), vs = [r, f] ∧ rRows.rel K H r rows ∧ rFill.rel K H f st ∧ (∀ x ∈ rows, Sides x.1 ∧ x.1.length ≤ 1000) ∧ ∀ H', Same H H' → Q (optV (firstB rows st)) H'
theorem firstB_at {rows : List Row} {st : List Bool} {i : Nat} {r : Row} (h : rows[i]? = some r) (hn : ∀ x ∈ rows.take i, brokenAt st x = false) (hb : brokenAt st r = true) : firstB rows st = some i := by
  obtain ⟨hi, e⟩ := List.getElem?_eq_some_iff.mp h
  refine List.findIdx?_eq_some_iff_getElem.mpr ⟨hi, by rw [e]; exact hb, fun j hj => ?_⟩
  rw [hn _ (List.mem_of_getElem? (i := j) (by rw [List.getElem?_take, if_pos hj]; exact List.getElem?_eq_getElem (by omega)))]
  simp
theorem firstB_all {rows : List Row} {st : List Bool} (hn : ∀ x ∈ rows, brokenAt st x = false) : firstB rows st = none := List.findIdx?_eq_none_iff.mpr hn
section
seal L2.PSs L2.PS L2.PE L2.PT L2.PA L2.PG L2.PGs L2.PI L2.PW L2.PTs L2.OpR L2.UnR L2.CallR L2.IxR L2.SlR
variable {P : Program} {w : World} {K : PySem.W.Frag} {mg : Str → Option Value} {base : Heap}
theorem ok_first_broken (T : Tx K mg) : FnOk P w K mg base CX0 4 T.f_first_broken T.d_first_broken P_first_broken (sp_first_broken K) := by
  have G_most_to_come := ok_most_to_come (P := P) (w := w) (base := base) T
  refine T.first_broken.fn.ok sc_first_broken (fun vs H Q E h => ?_) (fun cdv A outer s H vs Q E hr h => ?_)
  · obtain ⟨r, f, rows, st, rfl, _⟩ := h
    rfl
  · obtain ⟨r, f, rows, st, rfl, ⟨ra, rx, rfl, hS, hp⟩, hf, hrow, q⟩ := h
    refine ⟨_, (pss_cons (ps_for PassesOwn.never rfl (pi_enumK (K := K) rfl rfl T.b_enumerate (pa_cons (pv 0) pa_nil)) (pg_tupK (K := K) (n := 2) rfl rfl (pgs_cons (pg_name (i := 2) sc_first_broken.nd rfl (Or.inl rfl)) (pgs_cons (pg_name (i := 3) sc_first_broken.nd rfl (Or.inl rfl)) pgs_nil)) rfl rfl)
      (pss_one (ps_if (pt_cmpR op_lt (pe_call G_most_to_come (hr.mono (by decide)) rfl T.most_to_come.mg T.most_to_come.fn.kp T.most_to_come.bd .nil pass0 (pa_cons (pv 3) (pa_cons (pv 1) pa_nil))) (pe_ix (ix_tupK (K := K) rfl) (pv 3) pe_int (fun _ _ => rfl)) (nomark _))
      (pss_one (ps_ret (pv 2)))
      pss_nil)))
      (pss_one (ps_ret pe_non))), ?_⟩
    rw [show L2.start N_first_broken [V.ref ra, f] = [some (.ref ra), some f, none, none] from rfl]
    refine seq_gen fun R hR => for_e fun R1 hR1 => ?_
    (try walk_at "rd0")
    refine hR1 _ _ _ (SqL.of hS) (loop_enum (xs := rx) (fun i σ H2 => ∃ (u v : Option V), σ = [some (.ref ra), some f, u, v] ∧ Same H H2 ∧ ∀ x ∈ rows.take i, brokenAt st x = false) ?_ ?_ ?_ ?_)
    · exact ⟨none, none, rfl, Same.refl _, fun _ z => absurd z (by simp)⟩
    · rintro i σ H2 _ ⟨u, v, rfl, e, _⟩
      exact e.seq (SqL.of hS)
    · rintro i x σ H2 t N hx ht ⟨u, v, rfl, e, hn⟩ hN
      obtain ⟨⟨ts, l⟩, hrw, hxr⟩ := pgetL hp hx
      obtain ⟨g1, g2⟩ := hrow _ (List.mem_of_getElem? hrw)
      have e2 := Same.new (o := .tup [.int i, x]) ht
      have E2 := e.trans e2
      have hxr := rRow.mono E2 hxr
      obtain ⟨qp, qa, qx, rfl, RA⟩ := rowAt hxr
      ((try walk_at "rd0"); (try simp only [sp_most_to_come]); (try walk_at "rd0"))
      refine ⟨[.int i, .ref qp], SqT.of upd_same, rfl, ?_⟩
      ((try walk_at "rd0"); (try simp only [sp_most_to_come]); (try walk_at "rd0"))
      refine ⟨(ts, l), hxr, st, rFill.mono E2 hf, g1, g2, fun H3 e3 => ?_⟩
      try (try walk_at "rd0")
      refine ⟨_, SqT.of (e3 _ _ RA.tp), _, rfl, _, rfl, ?_⟩
      refine ite2 (fun z => ?_) (fun z => ?_)
      · have := q _ (E2.trans e3)
        rw [firstB_at hrw hn (decide_eq_true z)] at this
        exact this
      · refine hN _ _ ⟨_, _, rfl, E2.trans e3, fun x hx => ?_⟩
        rw [take_snoc hrw] at hx
        rcases List.mem_append.mp hx with hx | hx
        · exact hn x hx
        · rw [List.mem_singleton.mp hx]
          exact decide_eq_false z
    · rintro σ H2 ⟨u, v, rfl, e, hn⟩
      refine hR _ _ ?_
      (try walk_at "rd0")
      have el : rx.length = rows.length := hp.length
      rw [el, List.take_length] at hn
      have := q _ e
      rw [firstB_all hn] at this
      exact this
end
end Cp
namespace Cp
open PySem L2
def optF (K : PySem.W.Frag) (H : Hp) (v : V) : Option (List Bool) → Prop
  | none => v = .non
  | some bs => rFill.rel K H v bs
/-- n: the unknowns that are still open, and one -/
def sp_filling_from (K : PySem.W.Frag) (n : Nat) : Sp := fun vs H Q _ => ∃ (u : Int) (r s : V) (rows : List Row) (st : List Bool), vs = [.int u, r, s] ∧ rRows.rel K H r rows ∧ rFill.rel K H s st ∧ (st.length : Int) ≤ u ∧ (st.length : Int) + n = u + 1 ∧ u ≤ 16 ∧
  (∀ x ∈ rows, Tidy x.1) ∧ ∀ v H', Same H H' → optF K H' v (fillFrom rows (n - 1) st) → Q v H'
def sp_filling (K : PySem.W.Frag) : Sp := fun vs H Q E => ∃ n, n ≤ 9 ∧ sp_filling_from K n vs H Q E
theorem fnOk_never {P : Program} {w : World} {K : PySem.W.Frag} {mg : Str → Option Value} {base : Heap} {CX : CXT} {k : Nat} {f : Addr} {fd : FuncData} {ps : List Str} {sp : Sp} (h : ∀ vs H Q E, ¬ sp vs H Q E) : FnOk P w K mg base CX k f fd ps sp :=
  ⟨fun vs H Q E z => absurd z (h vs H Q E), fun A outer s H args us vs Q E _ _ _ _ z => absurd z (h vs H Q E)⟩
section
seal L2.PSs L2.PS L2.PE L2.PT L2.PA L2.PG L2.PGs L2.PI L2.PW L2.PTs L2.OpR L2.UnR L2.CallR L2.IxR L2.SlR
variable {P : Program} {w : World} {K : PySem.W.Frag} {mg : Str → Option Value} {base : Heap}
theorem ok_filling_from_s (T : Tx K mg) (n : Nat) (G_filling_from : FnOk P w K mg base CX0 (n + 5) T.f_filling_from T.d_filling_from P_filling_from (sp_filling_from K n)) : FnOk P w K mg base CX0 (n + 1 + 5) T.f_filling_from T.d_filling_from P_filling_from (sp_filling_from K (n + 1)) := by
  have G_first_broken := ok_first_broken (P := P) (w := w) (base := base) T
  refine T.filling_from.fn.ok sc_filling_from (fun vs H Q E h => ?_) (fun cdv A outer s H vs Q E hr h => ?_)
  · obtain ⟨u, r, s, rows, st, rfl, _⟩ := h
    rfl
  · obtain ⟨u, r, s, rows, st, rfl, hR0, hf, hl1, hl2, hu, hrow, q⟩ := h
    have hl2 : (st.length : Int) + ((n + 1 : Nat) : Int) = u + 1 := hl2
    obtain ⟨fa, fx, rfl, hF, pF⟩ := id hf
    have lf : fx.length = st.length := pF.length
    have ebl : fx = st.map V.bl := bls_map pF
    refine ⟨_, (pss_cons (ps_if (pt_cmpR op_notN (pe_call G_first_broken (hr.mono (by omega)) rfl T.first_broken.mg T.first_broken.fn.kp T.first_broken.bd .nil pass0 (pa_cons (pv 1) (pa_cons (pv 2) pa_nil))) pe_non (nomark _))
      (pss_one (ps_ret pe_non))
      pss_nil)
      (pss_cons (ps_if (pt_cmpR op_eq (pe_callB (len_seqK (K := K) rfl) (by rfl) T.b_len bb_len (pa_cons (pv 2) pa_nil)) (pv 0) (nomark _))
      (pss_one (ps_ret (pv 2)))
      pss_nil)
      (pss_cons (ps_set (i := 3) sc_filling_from.nd rfl (Or.inl rfl) (pe_call G_filling_from (hr.mono (by omega)) rfl T.filling_from.mg T.filling_from.fn.kp T.filling_from.bd .nil pass0 (pa_cons (pv 0) (pa_cons (pv 1) (pa_cons (pe_op op_cat (pv 2) (pe_lst (pa_cons pe_bl pa_nil))) pa_nil)))))
      (pss_cons (ps_if (pt_cmpR op_isN (pv 3) pe_non (nomark _))
      (pss_one (ps_set (i := 3) sc_filling_from.nd rfl (Or.inl rfl) (pe_call G_filling_from (hr.mono (by omega)) rfl T.filling_from.mg T.filling_from.fn.kp T.filling_from.bd .nil pass0 (pa_cons (pv 0) (pa_cons (pv 1) (pa_cons (pe_op op_cat (pv 2) (pe_lst (pa_cons pe_bl pa_nil))) pa_nil))))))
      pss_nil)
      (pss_one (ps_ret (pv 3))))))), ?_⟩
    rw [show L2.start N_filling_from [V.int u, r, V.ref fa] = [some (.int u), some r, some (.ref fa), none] from rfl]
    have hrow2 : ∀ x ∈ rows, Sides x.1 ∧ x.1.length ≤ 1000 := fun x hx => ⟨(hrow x hx).sd, by have := (hrow x hx).len; omega⟩
    have q : ∀ v H', Same H H' → optF K H' v (fillFrom rows n st) → Q v H' := q
    -- broken
    refine seq_gen fun R hR => ?_
    ((try walk_at "rd0"); (try simp only [sp_first_broken]); (try walk_at "rd0"))
    refine ⟨rows, hR0, st, hf, hrow2, fun H1 e1 => ?_⟩
    cases eb : firstB rows st with
    | some i =>
      ((try walk_at "rd0"); (try simp only [optV]); (try walk_at "rd0"))
      refine q _ _ e1 ?_
      have : fillFrom rows n st = none := by
        cases n <;> · unfold fillFrom; rw [eb]; rfl
      rw [this]
      rfl
    | none =>
    ((try walk_at "rd0"); (try simp only [optV]); (try walk_at "rd0"))
    refine hR _ _ ?_
    clear hR
    have hF1 := e1 _ _ hF
    -- full
    refine seq_gen fun R hR => ?_
    (try walk_at "rd0")
    refine ⟨fx, .inl (SqL.of hF1), ?_⟩
    rw [lf]
    refine ite2 (fun z => ?_) (fun z => hR _ _ ?_)
    · have en : n = 0 := by omega
      subst en
      refine q _ _ e1 ?_
      have : fillFrom rows 0 st = some st := by unfold fillFrom; rw [eb]; rfl
      rw [this]
      exact rFill.mono e1 hf
    clear hR
    obtain ⟨m, rfl⟩ : ∃ m, n = m + 1 := ⟨n - 1, by omega⟩
    have ef : fillFrom rows (m + 1) st = match fillFrom rows m (st ++ [true]) with
        | some bs => some bs
        | none => fillFrom rows m (st ++ [false]) := by
      rw [fillFrom, eb]
      rfl
    -- yes
    refine seq_gen fun R hR => ?_
    ((try walk_at "rd4"); (try simp only [sp_filling_from]); (try walk_at "rd4"))
    refine ⟨line_le (by simp), fun c hc => ?_⟩
    have k1 := Same.new (o := .lst [.bl true]) hc
    refine ⟨fx, k1 _ _ hF1, _, upd_same, line_le (by rw [lf]; simp; omega), fun d hd => ?_⟩
    have k2 := k1.trans (Same.new (o := .lst (fx ++ [.bl true])) hd)
    refine ⟨rows, rRows.mono (e1.trans k2) hR0, st ++ [true], ⟨d, _, rfl, upd_same, papp (Paired.mapP pF fun _ _ z => z) (.cons rfl .nil)⟩, by rw [List.length_append]; simp; omega, by rw [List.length_append]; simp; omega, hu, hrow, fun v2 H2 e2 hv2 => hR _ _ ?_⟩
    clear hR
    have E2 := (e1.trans k2).trans e2
    have hv2 : optF K H2 v2 (fillFrom rows m (st ++ [true])) := hv2
    have hF2 := E2 _ _ hF
    -- no
    cases e3 : fillFrom rows m (st ++ [true]) with
    | some bs =>
      rw [e3] at hv2 ef
      have hv2 : rFill.rel K H2 v2 bs := hv2
      obtain ⟨va, vx, rfl, hV, pV⟩ := id hv2
      refine seq_gen fun R hR => ?_
      (try walk_at "rd0")
      refine hR _ _ ?_
      (try walk_at "rd0")
      refine q _ _ E2 ?_
      rw [ef]
      exact hv2
    | none =>
      rw [e3] at hv2 ef
      obtain rfl : v2 = .non := hv2
      refine seq_gen fun R hR => ?_
      ((try walk_at "rd4"); (try simp only [sp_filling_from]); (try walk_at "rd4"))
      refine ⟨line_le (by simp), fun c2 hc2 => ?_⟩
      have k3 := Same.new (o := .lst [.bl false]) hc2
      refine ⟨fx, k3 _ _ hF2, _, upd_same, line_le (by rw [lf]; simp; omega), fun d2 hd2 => ?_⟩
      have k4 := k3.trans (Same.new (o := .lst (fx ++ [.bl false])) hd2)
      refine ⟨rows, rRows.mono (E2.trans k4) hR0, st ++ [false], ⟨d2, _, rfl, upd_same, papp (Paired.mapP pF fun _ _ z => z) (.cons rfl .nil)⟩, by rw [List.length_append]; simp; omega, by rw [List.length_append]; simp; omega, hu, hrow, fun v4 H4 e4 hv4 => hR _ _ ?_⟩
      (try walk_at "rd0")
      refine q _ _ ((E2.trans k4).trans e4) ?_
      rw [ef]
      exact hv4
theorem ok_filling_from_n (T : Tx K mg) : ∀ n : Nat, FnOk P w K mg base CX0 (n + 5) T.f_filling_from T.d_filling_from P_filling_from (sp_filling_from K n)
  | 0 => fnOk_never fun vs H Q E ⟨u, r, s, rows, st, _, _, _, h1, h2, _⟩ => by
    have h2 : (st.length : Int) + 0 = u + 1 := h2
    omega
  | n + 1 => ok_filling_from_s T n (ok_filling_from_n T n)
theorem ok_filling_from (T : Tx K mg) : FnOk P w K mg base CX0 14 T.f_filling_from T.d_filling_from P_filling_from (sp_filling K) := by
  refine ⟨fun vs H Q E ⟨n, _, h⟩ => (ok_filling_from_n (P := P) (w := w) (base := base) T n).len vs H Q E h, fun A outer s H args us vs Q E hr he hb hv ⟨n, hn, h⟩ => ?_⟩
  exact (ok_filling_from_n (P := P) (w := w) (base := base) T n).run A outer s H args us vs Q E (hr.mono (by omega)) he hb hv h
end
end Cp
namespace Cp
open PySem L2
def sp_meeting (K : PySem.W.Frag) : Sp := fun vs H Q _ => ∃ (u : Int) (r : V) (rows : List Row), vs = [.int u, r] ∧ rRows.rel K H r rows ∧ (0 ≤ u ∧ u ≤ 8) ∧ (∀ x ∈ rows, Sides x.1 ∧ x.1.length ≤ 1000) ∧ rows.length ≤ 1000 ∧ ∀ v H', Same H H' → optF K H' v (meetR u rows) → Q v H'
section
seal L2.PSs L2.PS L2.PE L2.PT L2.PA L2.PG L2.PGs L2.PI L2.PW L2.PTs L2.OpR L2.UnR L2.CallR L2.IxR L2.SlR
variable {P : Program} {w : World} {K : PySem.W.Frag} {mg : Str → Option Value} {base : Heap}
theorem ok_meeting (T : Tx K mg) : FnOk P w K mg base CX0 15 T.f_meeting T.d_meeting P_meeting (sp_meeting K) := by
  have G_tidy := ok_tidy (P := P) (w := w) (base := base) T
  have G_filling_from := ok_filling_from (P := P) (w := w) (base := base) T
  refine T.meeting.fn.ok sc_meeting (fun vs H Q E h => ?_) (fun cdv A outer s H vs Q E hr h => ?_)
  · obtain ⟨u, r, rows, rfl, _⟩ := h
    rfl
  · obtain ⟨u, r, rows, rfl, ⟨ra, rx, rfl, hS, hp⟩, hu, hrow, hlen, q⟩ := h
    refine ⟨_, (pss_one (ps_ret (pe_call G_filling_from (hr.mono (by decide)) rfl T.filling_from.mg T.filling_from.fn.kp T.filling_from.bd .nil pass0 (pa_cons (pv 0) (pa_cons (pe_comp rfl (compOk_of (sc := defScope s_meeting) (N := N_meeting) (Nc := ["row"]) (im := [none]) rfl rfl (by decide +kernel)) (pi_listK (K := K) rfl (pv 1)) (by intro cl C fp s1 H1; exact ⟨(pg_name (i := 0) (by decide +kernel : List.Nodup (["row"] : List Str)) rfl (Or.inl rfl) (Or.inr rfl)), pts_nil, (pe_call G_tidy (hr.mono (by decide)) rfl T.tidy.mg T.tidy.fn.kp T.tidy.bd .nil pass0 (pa_cons (pv 0) pa_nil))⟩)) (pa_cons (pe_lst pa_nil) pa_nil)))))), ?_⟩
    rw [show L2.start N_meeting [V.int u, V.ref ra] = [some (.int u), some (.ref ra)] from rfl]
    try (try walk_at "rd0")
    refine comp_l fun R1 hR1 => ?_
    try (try walk_at "rd0")
    refine hR1 _ _ _ (SqL.of hS) fun acc hacc => compL rRow rRow (fun _ => true) tidyR (fun σ => ∃ v, σ = [v]) (SqL.of hS) hp hlen hacc ⟨none, rfl⟩ ?_ ?_
    · rintro x r σ H2 hin e hx ⟨v, rfl⟩ C hC
      try (try walk_at "rd0")
      refine hC _ _ _ rfl (Same.refl _) ⟨_, rfl⟩ fun _ D hD => ?_
      ((try walk_at "rd0"); (try simp only [sp_tidy]); (try walk_at "rd0"))
      exact ⟨r, hx, (hrow r hin).1, (hrow r hin).2, fun v H3 e3 hv => hD _ _ e3 hv⟩
    intro H1 e1 h1
    rw [filter_all] at h1
    ((try walk_at "rd0"); (try simp only [sp_filling, sp_filling_from]); (try walk_at "rd0"))
    refine ⟨Nat.zero_le _, fun d hd => ⟨u.toNat + 1, by omega, ?_⟩⟩
    have e2 := Same.new (o := .lst []) hd
    refine ⟨rows.map tidyR, rRows.mono e2 (New.up h1), [], ⟨d, [], rfl, upd_same, .nil⟩, by simp; omega, by simp; omega, by omega, fun x hx => ?_, fun v H3 e3 hv => q _ _ ((e1.trans e2).trans e3) hv⟩
    obtain ⟨y, hy, rfl⟩ := List.mem_map.mp hx
    exact tidy_tidyR (hrow y hy).1
end
end Cp
namespace Cp
open PySem L2
def sp_Writer___init__ (K : PySem.W.Frag) (C : Addr) : Sp := fun vs H Q _ => ∃ (x dx : Addr) (r : V) (rows : List Row), vs = [.ref x, r] ∧ H x = some (.ins C dx []) ∧ rRows.rel K (L2.del H x) r rows ∧ (∀ y ∈ rows, Sides y.1 ∧ y.1.length ≤ 1000) ∧ rows.length ≤ 1000 ∧
  ∀ H' sa ma na, H sa = none → H ma = none → H na = none → Same (L2.del H x) (L2.del H' x) → WrAt K C H' x sa ma na (rows.map tidyR) [] → Q .non H'
section
seal L2.PSs L2.PS L2.PE L2.PT L2.PA L2.PG L2.PGs L2.PI L2.PW L2.PTs L2.OpR L2.UnR L2.CallR L2.IxR L2.SlR
variable {P : Program} {w : World} {K : PySem.W.Frag} {mg : Str → Option Value} {base : Heap}
theorem ok_Writer___init__ (T : Tx K mg) : FnOk P w K mg base CX0 3 T.f_Writer___init__ T.d_Writer___init__ P_Writer___init__ (sp_Writer___init__ K T.C_Writer) := by
  have G_tidy := ok_tidy (P := P) (w := w) (base := base) T
  refine T.Writer___init__.fn.ok sc_Writer___init__ (fun vs H Q E h => ?_) (fun cdv A outer s H vs Q E hr h => ?_)
  · obtain ⟨x, dx, r, rows, rfl, _⟩ := h
    rfl
  · obtain ⟨x, dx, r, rows, rfl, hx, ⟨ra, rx, rfl, hS, hp⟩, hrow, hlen, q⟩ := h
    have hS0 := Same.del _ _ hS
    refine ⟨_, (pss_cons (ps_fldK (K := K) rfl (pv 0) (pe_comp rfl (compOk_of (sc := defScope s_Writer___init__) (N := N_Writer___init__) (Nc := ["row"]) (im := [none]) rfl rfl (by decide +kernel)) (pi_listK (K := K) rfl (pv 1)) (by intro cl C fp s1 H1; exact ⟨(pg_name (i := 0) (by decide +kernel : List.Nodup (["row"] : List Str)) rfl (Or.inl rfl) (Or.inr rfl)), pts_nil, (pe_call G_tidy (hr.mono (by decide)) rfl T.tidy.mg T.tidy.fn.kp T.tidy.bd .nil pass0 (pa_cons (pv 0) pa_nil))⟩)) rfl)
      (pss_cons (ps_fldK (K := K) rfl (pv 0) (pe_lst pa_nil) rfl)
      (pss_cons (ps_fldK (K := K) rfl (pv 0) (pe_lst pa_nil) rfl)
      (pss_one (ps_fldK (K := K) rfl (pv 0) pe_dnewT rfl))))), ?_⟩
    rw [show L2.start N_Writer___init__ [V.ref x, V.ref ra] = [some (.ref x), some (.ref ra)] from rfl]
    -- rows
    refine seq_gen fun R hR => ?_
    (try walk_at "rd5")
    refine comp_l fun R1 hR1 => ?_
    try (try walk_at "rd0")
    refine hR1 _ _ _ (SqL.of hS0) fun acc hacc => compL rRow rRow (fun _ => true) tidyR (fun σ => ∃ v, σ = [v]) (SqL.of hS0) (Paired.mapP hp fun _ _ z => rRow.mono Same.del z) hlen hacc ⟨none, rfl⟩ ?_ ?_
    · rintro y r σ H2 hin e hy ⟨v, rfl⟩ D0 hD0
      (try walk_at "rd0")
      refine hD0 _ _ _ rfl (Same.refl _) ⟨_, rfl⟩ fun _ D hD => ?_
      ((try walk_at "rd0"); (try simp only [sp_tidy]); (try walk_at "rd0"))
      exact ⟨r, hy, (hrow r hin).1, (hrow r hin).2, fun v H3 e3 hv => hD _ _ e3 hv⟩
    intro H1 e1 h1
    rw [filter_all] at h1
    try (try walk_at "rd5")
    have hx1 := e1 _ _ hx
    refine ⟨_, _, _, hx1, T.Writer.cl, T.n_Writer_rows, by decide, hR _ _ ?_⟩
    clear hR hR1
    have e1x : ∀ b o, b ≠ x → H b = some o → H1 b = some o := fun b o _ h => e1 _ _ h
    -- steps
    refine seq_gen fun R hR => ?_
    (try walk_at "rd5")
    refine ⟨Nat.zero_le _, fun sa hsa => ?_⟩
    obtain ⟨nsx, hsa1⟩ := upd_none hsa
    refine ⟨T.C_Writer, dx, _, by rw [upd_ne nsx.symm, upd_same], T.Writer.cl, T.n_Writer_steps, Nat.lt_of_le_of_lt (length_putF _ _ _) (by decide), hR _ _ ?_⟩
    clear hR
    -- made
    refine seq_gen fun R hR => ?_
    (try walk_at "rd5")
    refine ⟨Nat.zero_le _, fun ma hma => ?_⟩
    obtain ⟨nmx, hma1⟩ := upd_none hma
    obtain ⟨nms, hma2⟩ := upd_none hma1
    obtain ⟨_, hma3⟩ := upd_none hma2
    refine ⟨T.C_Writer, dx, _, by rw [upd_ne nmx.symm, upd_same], T.Writer.cl, T.n_Writer_made, Nat.lt_of_le_of_lt (Nat.le_trans (length_putF _ _ _) (Nat.succ_le_succ (length_putF _ _ _))) (by decide), hR _ _ ?_⟩
    clear hR
    -- numbers
    (try walk_at "rd6")
    intro na hna
    obtain ⟨nnx, hna1⟩ := upd_none hna
    obtain ⟨nnm, hna2⟩ := upd_none hna1
    obtain ⟨_, hna3⟩ := upd_none hna2
    obtain ⟨nns, hna4⟩ := upd_none hna3
    obtain ⟨_, hna5⟩ := upd_none hna4
    refine ⟨T.C_Writer, dx, _, by rw [upd_ne nnx.symm, upd_same], T.Writer.cl, T.n_Writer_numbers, Nat.lt_of_le_of_lt (Nat.le_trans (length_putF _ _ _) (Nat.succ_le_succ (Nat.le_trans (length_putF _ _ _) (Nat.succ_le_succ (length_putF _ _ _))))) (by decide), ?_⟩
    have out : ∀ b, b ≠ x → b ≠ sa → b ≠ ma → b ≠ na → ∀ (o1 o2 o3 o4 o5 o6 o7 : HO), upd (upd (upd (upd (upd (upd (upd H1 x o1) sa o2) x o3) ma o4) x o5) na o6) x o7 b = H1 b := fun b h1 h2 h3 h4 o1 o2 o3 o4 o5 o6 o7 => by
      rw [upd_ne h1, upd_ne h4, upd_ne h1, upd_ne h3, upd_ne h1, upd_ne h2, upd_ne h1]
    have nD : ∀ b o, H1 b = some o → b ∉ [sa, ma, na] := fun b o h z => by
      simp only [List.mem_cons, List.not_mem_nil, or_false] at z
      rcases z with z | z | z <;> subst z
      · rw [hsa1] at h; cases h
      · rw [hma3] at h; cases h
      · rw [hna5] at h; cases h
    have hacx : acc ≠ x := (ne_of_none hx hacc).symm
    refine q _ sa ma na (e1.free hsa1) (e1.free hma3) (e1.free hna5) (fun b o h => ?_) ⟨⟨dx, acc, ?_, ?_⟩, ⟨[], ?_, .nil⟩, ⟨[], ?_, .nil⟩, ⟨[], ?_, Nums.nil⟩, Goods.nil _, ?_, nms.symm⟩
    · have nb : b ≠ x := fun z => by rw [z, del_same] at h; cases h
      rw [del_ne nb] at h ⊢
      have h1 := e1 _ _ h
      have nd := nD b o h1
      simp only [List.mem_cons, List.not_mem_nil, or_false, not_or] at nd
      rw [out b nb nd.1 nd.2.1 nd.2.2]
      exact h1
    · rw [mns_ne (by simp only [List.mem_cons, List.not_mem_nil, or_false, not_or]; exact ⟨nsx.symm, nmx.symm, nnx.symm⟩)]
      exact upd_same
    · have hs : Same (nw H H1) (mns (upd (upd (upd (upd (upd (upd (upd H1 x (.ins T.C_Writer dx (putF (Str.ofString "rows") (.ref acc) []))) sa (.lst [])) x (.ins T.C_Writer dx (putF (Str.ofString "steps") (.ref sa) (putF (Str.ofString "rows") (.ref acc) [])))) ma (.lst [])) x (.ins T.C_Writer dx (putF (Str.ofString "made") (.ref ma) (putF (Str.ofString "steps") (.ref sa) (putF (Str.ofString "rows") (.ref acc) []))))) na (.dT [])) x (.ins T.C_Writer dx (wflds acc sa ma na))) [sa, ma, na]) := fun b o h => by
        have h1 := nw_same _ _ _ _ h
        have nb : b ≠ x := fun z => by
          rw [z] at h
          unfold nw at h
          rw [hx] at h
          cases h
        have nd := nD b o h1
        rw [mns_ne nd]
        simp only [List.mem_cons, List.not_mem_nil, or_false, not_or] at nd
        rw [out b nb nd.1 nd.2.1 nd.2.2]
        exact h1
      exact rRows.mono hs h1
    · rw [upd_ne nsx, upd_ne nns.symm, upd_ne nsx, upd_ne nms.symm, upd_ne nsx, upd_same]
    · rw [upd_ne nmx, upd_ne nnm.symm, upd_ne nmx, upd_same]
    · rw [upd_ne nnx, upd_same]
    · intro y hy
      obtain ⟨r, hr, rfl⟩ := List.mem_map.mp hy
      exact tidy_tidyR (hrow r hr).1
end
end Cp
namespace Cp
open PySem L2
def sp_Writer_write (K : PySem.W.Frag) (C : Addr) : Sp := fun vs H Q _ => ∃ (x sa ma na : Addr) (rows : List Row) (p : List Stp) (sv : V) (st : Stp), vs = [.ref x, sv] ∧ WrAt K C H x sa ma na rows p ∧ rStep.rel K (mns H [sa, ma, na]) sv st.key ∧ st.good rows.length p.length ∧ p.length ≤ 20000 ∧
  ∀ H' p' (m : Nat), Same (mns H [sa, ma, na]) (mns H' [sa, ma, na]) → WrAt K C H' x sa ma na rows p' → WR p st p' m → Q (.int m) H'
section
seal L2.PSs L2.PS L2.PE L2.PT L2.PA L2.PG L2.PGs L2.PI L2.PW L2.PTs L2.OpR L2.UnR L2.CallR L2.IxR L2.SlR
variable {P : Program} {w : World} {K : PySem.W.Frag} {mg : Str → Option Value} {base : Heap}
theorem ok_Writer_write (T : Tx K mg) : FnOk P w K mg base CX0 5 T.f_Writer_write T.d_Writer_write P_Writer_write (sp_Writer_write K T.C_Writer) := by
  have G_line_of := ok_line_of (P := P) (w := w) (base := base) T
  refine T.Writer_write.fn.ok sc_Writer_write (fun vs H Q E h => ?_) (fun cdv A outer s H vs Q E hr h => ?_)
  · obtain ⟨x, sa, ma, na, rows, p, sv, st, rfl, _⟩ := h
    rfl
  · obtain ⟨x, sa, ma, na, rows, p, sv, st, rfl, W, hs, g, hlen, q⟩ := h
    obtain ⟨tp, rfl, hT⟩ := step_at hs
    have hT0 := mns_same _ _ hT
    obtain ⟨⟨dx, ra, h1, h2⟩, ⟨xs, h3, h4⟩, ⟨ys, h5, h6⟩, ⟨kvs, h7, h8⟩, gd, ti, ne⟩ := id W
    have h10 := mns_same _ _ h1
    refine ⟨_, (pss_cons (ps_if (pt_cmp (pc_dnotin (hu_of hr) (pv 1) (pe_fldK (K := K) rfl (pv 0) rfl)))
      (pss_cons (ps_dput (hu_of hr) (pe_fldK (K := K) rfl (pv 0) rfl) (pv 1) (pe_callB (len_seqK (K := K) rfl) (by rfl) T.b_len bb_len (pa_cons (pe_fldK (K := K) rfl (pv 0) rfl) pa_nil)) rfl)
      (pss_cons (ps_expr (pe_bm PySem.F.plainAttrs_list PySem.F.slot_list_append PySem.F.type_list_append mt_append (pe_fldK (K := K) rfl (pv 0) rfl) (pa_cons (pv 1) pa_nil)))
      (pss_one (ps_expr (pe_bm PySem.F.plainAttrs_list PySem.F.slot_list_append PySem.F.type_list_append mt_append (pe_fldK (K := K) rfl (pv 0) rfl) (pa_cons (pe_call G_line_of (hr.mono (by decide)) rfl T.line_of.mg T.line_of.fn.kp T.line_of.bd .nil pass0 (pa_cons (pv 1) (pa_cons (pe_fldK (K := K) rfl (pv 0) rfl) (pa_cons (pe_fldK (K := K) rfl (pv 0) rfl) pa_nil)))) pa_nil))))))
      pss_nil)
      (pss_one (ps_ret (pe_dget (hu_of hr) (pe_fldK (K := K) rfl (pv 0) rfl) (pv 1) (fun _ _ => rfl))))), ?_⟩
    rw [show L2.start N_Writer_write [V.ref x, V.ref tp] = [some (.ref x), some (.ref tp)] from rfl]
    refine seq_gen fun R hR => ?_
    refine ifs_gen fun R4 hR4 => ?_
    (try walk_at "rd7")
    have hlx : xs.length = p.length := by rw [h4.length, List.length_map]
    have hly : ys.length = p.length := by rw [h6.length, linesR_len rows _ p rfl]
    have nsn : sa ≠ na := ne_of h3 h7 (by intro z; cases z)
    have nmn : ma ≠ na := ne_of h5 h7 (by intro z; cases z)
    have nx := mns_at h1
    simp only [List.mem_cons, List.not_mem_nil, or_false, not_or] at nx
    have nt := mns_at hT
    simp only [List.mem_cons, List.not_mem_nil, or_false, not_or] at nt
    refine ⟨T.C_Writer, dx, _, h10, T.Writer.cl, T.n_Writer_numbers, _, wf_numbers _ _ _ _, _, rfl, _, DGet.t h7 hT0, ?_⟩
    cases ev : valV kvs st.key with
    | some v =>
      obtain ⟨i, hi, rfl⟩ := h8.at_ st v ev
      refine hR4 _ _ (fun z => absurd z (by simp)) fun _ => hR _ _ ?_
      (try walk_at "rd8")
      have hg := DGet.t (k := st.key) h7 hT0
      rw [ev] at hg
      exact ⟨T.C_Writer, dx, _, h10, T.Writer.cl, T.n_Writer_numbers, _, wf_numbers _ _ _ _, _, rfl, _, hg, q _ _ _ (Same.refl _) W (.inl ⟨rfl, hi⟩)⟩
    | none =>
      refine hR4 _ _ (fun _ => ?_) fun z => absurd z (by simp)
      refine seq_gen fun R5 hR5 => ?_
      (try walk_at "rd9")
      refine ⟨T.C_Writer, dx, _, h10, T.Writer.cl, T.n_Writer_steps, _, wf_steps _ _ _ _, sa, rfl, xs, .inl (SqL.of h3), T.C_Writer, dx, _, h10, T.Writer.cl, T.n_Writer_numbers, _, wf_numbers _ _ _ _, na, rfl, _, DPut.t h7 hT0 (by have := h8.len; rw [sizeLine_eq]; omega), hR5 _ _ ?_⟩
      clear hR5
      rw [hlx]
      -- steps
      refine seq_gen fun R5 hR5 => ?_
      (try walk_at "rd10")
      have x2 : upd H na (.dT (putK kvs st.key (.int (p.length : Nat)))) x = some (.ins T.C_Writer dx (wflds ra sa ma na)) := by rw [upd_ne nx.2.2]; exact h10
      have s2 : upd H na (.dT (putK kvs st.key (.int (p.length : Nat)))) sa = some (.lst xs) := by rw [upd_ne nsn]; exact h3
      refine ⟨T.C_Writer, dx, _, x2, T.Writer.cl, T.n_Writer_steps, _, wf_steps _ _ _ _, tyV_list.mpr ⟨xs, SqL.of s2⟩, sa, rfl, xs, s2, by rw [sizeLine_eq]; omega, hR5 _ _ ?_⟩
      clear hR5
      obtain ⟨H3, eH3⟩ : ∃ H3, H3 = upd (upd H na (.dT (putK kvs st.key (.int (p.length : Nat))))) sa (.lst (xs ++ [.ref tp])) := ⟨_, rfl⟩
      have m3 : mns H3 [sa, ma, na] = mns H [sa, ma, na] := by rw [eH3, mns_upd_in (by simp), mns_upd_in (by simp)]
      have x3 : H3 x = some (.ins T.C_Writer dx (wflds ra sa ma na)) := by rw [eH3, upd_ne nx.1]; exact x2
      have s3 : H3 sa = some (.lst (xs ++ [.ref tp])) := by rw [eH3]; exact upd_same
      have a3 : H3 ma = some (.lst ys) := by rw [eH3, upd_ne ne.symm, upd_ne nmn]; exact h5
      have n3 : H3 na = some (.dT (putK kvs st.key (.int (p.length : Nat)))) := by rw [eH3, upd_ne nsn.symm]; exact upd_same
      rw [← eH3]
      clear eH3
      have k3 : Same (mns H [sa, ma, na]) H3 := by rw [← m3]; exact mns_same
      -- made
      ((try walk_at "rd10"); (try simp only [sp_line_of]); (try walk_at "rd10"))
      refine ⟨T.C_Writer, dx, _, x3, T.Writer.cl, T.n_Writer_made, _, wf_made _ _ _ _, tyV_list.mpr ⟨ys, SqL.of a3⟩, T.C_Writer, dx, _, x3, T.Writer.cl, T.n_Writer_rows, _, wf_rows _ _ _ _, T.C_Writer, dx, _, x3, T.Writer.cl, T.n_Writer_made, _, wf_made _ _ _ _, ?_⟩
      refine ⟨st, rStep.mono k3 hs, rows, rRows.mono k3 h2, linesR rows p, ⟨ma, ys, rfl, a3, Paired.mapP h6 fun _ _ z => rRow.mono k3 z⟩, by rw [linesR_len rows _ p rfl]; exact g, fun y hy => ⟨(ti y hy).sd, by have := (ti y hy).len; omega⟩, lines_tidy (fun r hr => (ti r hr).sd) gd, fun v H4 e4 hv => ?_⟩
      have m4 : Same (mns H [sa, ma, na]) (mns H4 [sa, ma, na]) := by rw [← m3]; exact mns_mono e4
      have hD3 : ∀ b ∈ [sa, ma, na], ∃ u, H3 b = some u ∧ ∀ xs, u ≠ .tup xs := fun b hb => by
        simp only [List.mem_cons, List.not_mem_nil, or_false] at hb
        rcases hb with z | z | z <;> subst z
        · exact ⟨_, s3, fun _ q => by cases q⟩
        · exact ⟨_, a3, fun _ q => by cases q⟩
        · exact ⟨_, n3, fun _ q => by cases q⟩
      have hv4 : rRow.rel K (mns H4 [sa, ma, na]) v (lineR rows (linesR rows p) st) := rRow.mono (mns_nw e4 hD3) hv
      try (try walk_at "rd0")
      refine ⟨ys, e4 _ _ a3, by rw [sizeLine_eq]; omega, ?_⟩
      have m5 : mns (upd H4 ma (.lst (ys ++ [v]))) [sa, ma, na] = mns H4 [sa, ma, na] := mns_upd_in (by simp)
      have n5 : upd H4 ma (.lst (ys ++ [v])) na = some (.dT (putK kvs st.key (.int (p.length : Nat)))) := by rw [upd_ne nmn.symm]; exact e4 _ _ n3
      have x5 : upd H4 ma (.lst (ys ++ [v])) x = some (.ins T.C_Writer dx (wflds ra sa ma na)) := by rw [upd_ne nx.2.1]; exact e4 _ _ x3
      have t5 : upd H4 ma (.lst (ys ++ [v])) tp = some (.tup (st.key.map kV)) := by rw [upd_ne nt.2.1]; exact e4 _ _ (k3 _ _ hT)
      refine hR _ _ ?_
      (try walk_at "rd8")
      have hg := DGet.t (k := st.key) n5 t5
      rw [valV_put, if_pos rfl] at hg
      refine ⟨T.C_Writer, dx, _, x5, T.Writer.cl, T.n_Writer_numbers, _, wf_numbers _ _ _ _, na, rfl, _, hg, q _ (p ++ [st]) p.length (by rw [m5]; exact m4) ⟨⟨dx, ra, ?_, ?_⟩, ⟨xs ++ [.ref tp], ?_, ?_⟩, ⟨ys ++ [v], upd_same, ?_⟩, ⟨_, n5, h8.put⟩, gd.snoc g, ti, ne⟩ (.inr ⟨rfl, rfl⟩)⟩
      · rw [m5]
        exact m4 _ _ h1
      · rw [m5]
        exact rRows.mono m4 h2
      · rw [upd_ne ne]
        exact e4 _ _ s3
      · rw [m5, List.map_append]
        exact papp (Paired.mapP h4 fun _ _ z => rStep.mono m4 z) (.cons (rStep.mono m4 hs) .nil)
      · rw [m5, linesR_snoc]
        exact papp (Paired.mapP h6 fun _ _ z => rRow.mono m4 z) (.cons hv4 .nil)
end
end Cp
namespace Cp
open PySem L2
def sp_Writer_names (K : PySem.W.Frag) (C : Addr) : Sp := fun vs H Q _ => ∃ (x sa ma na : Addr) (rows : List Row) (p : List Stp) (n : Nat) (s : Int), vs = [.ref x, .int n, .int s] ∧ WrAt K C H x sa ma na rows p ∧ n < p.length ∧
  ∀ H', Same H H' → Q (.bl (decide (s ∈ (LN rows p n).1.map (·.2)))) H'
section
seal L2.PSs L2.PS L2.PE L2.PT L2.PA L2.PG L2.PGs L2.PI L2.PW L2.PTs L2.OpR L2.UnR L2.CallR L2.IxR L2.SlR
variable {P : Program} {w : World} {K : PySem.W.Frag} {mg : Str → Option Value} {base : Heap}
theorem ok_Writer_names (T : Tx K mg) : FnOk P w K mg base CX0 2 T.f_Writer_names T.d_Writer_names P_Writer_names (sp_Writer_names K T.C_Writer) := by
  refine T.Writer_names.fn.ok sc_Writer_names (fun vs H Q E h => ?_) (fun cdv A outer s H vs Q E hr h => ?_)
  · obtain ⟨x, sa, ma, na, rows, p, n, s, rfl, _⟩ := h
    rfl
  · obtain ⟨x, sa, ma, na, rows, p, n, s, rfl, W, hn, q⟩ := h
    obtain ⟨⟨dx, ra, h1, h2⟩, _⟩ := id W
    obtain ⟨ys, v, h5, e1, hv⟩ := W.line hn
    have h10 := mns_same _ _ h1
    have hv := rRow.mono mns_same hv
    obtain ⟨rq, rl, rx, rfl, RA⟩ := rowAt hv
    have ht := (LN_tidy (rows := rows) (i := n) W.ti W.gd hn).len
    refine ⟨_, (pss_one (ps_ret (pe_cmpR (op_in_seqK (K := K) rfl) (pv 2) (pe_comp rfl (compOk_of (sc := defScope s_Writer_names) (N := N_Writer_names) (Nc := ["weight", "named"]) (im := [none, none]) rfl rfl (by decide +kernel)) (pi_listK (K := K) rfl (pe_ix (ix_tupK (K := K) rfl) (pe_ix (ix_listK (K := K) rfl) (pe_fldK (K := K) rfl (pv 0) rfl) (pv 1) (fun _ _ => rfl)) pe_int (fun _ _ => rfl))) (by intro cl C fp s1 H1; exact ⟨(pg_tupK (K := K) (n := 2) rfl rfl (pgs_cons (pg_name (i := 0) (by decide +kernel : List.Nodup (["weight", "named"] : List Str)) rfl (Or.inl rfl) (Or.inr rfl)) (pgs_cons (pg_name (i := 1) (by decide +kernel : List.Nodup (["weight", "named"] : List Str)) rfl (Or.inl rfl) (Or.inr rfl)) pgs_nil)) rfl rfl), pts_nil, (pv 1)⟩)) (by with_unfolding_all rfl)))), ?_⟩
    rw [show L2.start N_Writer_names [V.ref x, V.int n, V.int s] = [some (.ref x), some (.int n), some (.int s)] from rfl]
    try (try walk_at "rd10")
    refine comp_l fun R1 hR1 => ?_
    (try walk_at "rd10")
    refine ⟨T.C_Writer, dx, _, h10, T.Writer.cl, T.n_Writer_made, _, wf_made _ _ _ _, ?_⟩
    refine ⟨ma, rfl, ys, SqL.of h5, _, e1, rq, rfl, _, SqT.of RA.tp, _, rfl, hR1 _ _ _ (SqL.of RA.tm.at_) fun acc hacc => compL rTerm repInt (fun _ => true) (fun t => t.2) (fun σ => ∃ u v, σ = [u, v]) (SqL.of RA.tm.at_) RA.tm.its (by omega) hacc ⟨none, none, rfl⟩ ?_ ?_⟩
    · rintro y ⟨wt, sd⟩ σ H2 hin e ⟨pt, x1, x2, rfl, hT2, h1, h2⟩ ⟨u, v, rfl⟩ D0 hD0
      obtain rfl : x1 = .int wt := h1
      obtain rfl : x2 = .int sd := h2
      (try walk_at "rd0")
      refine ⟨[.int wt, .int sd], SqT.of hT2, rfl, ?_⟩
      try (try walk_at "rd0")
      refine hD0 _ _ _ rfl (Same.refl _) ⟨_, _, rfl⟩ fun _ D hD => ?_
      (try walk_at "rd0")
      exact hD _ _ (Same.refl _) rfl
    intro H3 e3 h3
    rw [filter_all] at h3
    obtain ⟨_, zs, ea, hZ, pZ⟩ := New.up h3
    cases ea
    have ez := ints_map pZ
    (try walk_at "rd11")
    refine ⟨zs, .inl (SqL.of hZ), rfl, by rw [ez]; exact flat_ints _, ?_⟩
    rw [ez, inV_ints]
    exact q _ e3
end
end Cp
namespace Cp
open PySem L2
def sp_Writer_without (K : PySem.W.Frag) (C : Addr) : Sp := fun vs H Q _ => ∃ (x sa ma na : Addr) (rows : List Row) (p : List Stp) (n : Nat) (wt s : Int), vs = [.ref x, .int n, .int wt, .int s] ∧ WrAt K C H x sa ma na rows p ∧ n < p.length ∧ (1 ≤ wt ∧ wt ≤ 1000000000000000000) ∧ (0 ≤ s ∧ s < 32) ∧ p.length ≤ 19000 ∧
  ∀ H' p' (m : Nat), Same (mns H [sa, ma, na]) (mns H' [sa, ma, na]) → WrAt K C H' x sa ma na rows p' → Grow rows p p' 3 → m < p'.length → LN rows p' m = addR (LN rows p n) (timesR ([(1, otherS s)], 0) wt) → (NEC rows p → NEC rows p') → Q (.int m) H'
section
seal L2.PSs L2.PS L2.PE L2.PT L2.PA L2.PG L2.PGs L2.PI L2.PW L2.PTs L2.OpR L2.UnR L2.CallR L2.IxR L2.SlR
variable {P : Program} {w : World} {K : PySem.W.Frag} {mg : Str → Option Value} {base : Heap}
theorem ok_Writer_without (T : Tx K mg) : FnOk P w K mg base CX0 6 T.f_Writer_without T.d_Writer_without P_Writer_without (sp_Writer_without K T.C_Writer) := by
  have G_Writer_write := ok_Writer_write (P := P) (w := w) (base := base) T
  have G_other_side := ok_other_side (P := P) (w := w) (base := base) T
  refine T.Writer_without.fn.ok sc_Writer_without (fun vs H Q E h => ?_) (fun cdv A outer s H vs Q E hr h => ?_)
  · obtain ⟨x, sa, ma, na, rows, p, n, wt, s, rfl, _⟩ := h
    rfl
  · obtain ⟨x, sa, ma, na, rows, p, n, wt, s, rfl, W, hn, hw, hs, hlen, q⟩ := h
    refine ⟨_, (pss_cons (ps_set (i := 4) sc_Writer_without.nd rfl (Or.inl rfl) (pe_meth (pv 0) T.Writer.cl T.Writer_write.me G_Writer_write (hr.mono (by decide)) T.Writer_write.bd .nil pass0 (pa_cons (pe_tup (pa_cons pe_str (pa_cons (pe_call G_other_side (hr.mono (by decide)) rfl T.other_side.mg T.other_side.fn.kp T.other_side.bd .nil pass0 (pa_cons (pv 3) pa_nil)) pa_nil))) pa_nil)))
      (pss_cons (ps_set (i := 5) sc_Writer_without.nd rfl (Or.inl rfl) (pe_meth (pv 0) T.Writer.cl T.Writer_write.me G_Writer_write (hr.mono (by decide)) T.Writer_write.bd .nil pass0 (pa_cons (pe_tup (pa_cons pe_str (pa_cons (pv 4) (pa_cons (pv 2) pa_nil)))) pa_nil)))
      (pss_one (ps_ret (pe_meth (pv 0) T.Writer.cl T.Writer_write.me G_Writer_write (hr.mono (by decide)) T.Writer_write.bd .nil pass0 (pa_cons (pe_tup (pa_cons pe_str (pa_cons (pv 1) (pa_cons (pv 5) pa_nil)))) pa_nil)))))), ?_⟩
    rw [show L2.start N_Writer_without [V.ref x, V.int n, V.int wt, V.int s] = [some (.ref x), some (.int n), some (.int wt), some (.int s), none, none] from rfl]
    refine seq_gen fun R hR => ?_
    ((try walk_at "rd12"); (try simp only [sp_Writer_write, sp_other_side]); (try walk_at "rd12"))
    obtain ⟨⟨dx, ra, h1, h2⟩, _⟩ := id W
    refine ⟨dx, _, mns_same _ _ h1, wf_no _ _ _ _ (by decide +kernel) (by decide +kernel) (by decide +kernel) (by decide +kernel), line_le (by simp), fun t1 ht1 => ?_⟩
    obtain ⟨W1, s1, k1⟩ := W.step ht1 (.side (otherS s))
    have hos := otherS_bd (u := 16) hs
    have g1 : (Stp.side (otherS s)).good rows.length p.length := ⟨hos.1, by have := hos.2; omega⟩
    refine ⟨sa, ma, na, rows, p, W1, .side (otherS s), s1, g1, by omega, fun H1 p1 m1 k2 W2 w1 => hR _ _ ?_⟩
    clear hR
    have gr1 := w1.grow W.gd g1
    have l1 : LN rows p1 m1 = ([(1, otherS s)], 0) := w1.line W.gd
    have lt1 := w1.lt
    have le1 := gr1.le
    have k2 := k1.trans k2
    clear W1 s1 k1 h1 h2 dx ra
    -- times
    refine seq_gen fun R hR => ?_
    ((try walk_at "rd12"); (try simp only [sp_Writer_write]); (try walk_at "rd12"))
    obtain ⟨dx, ra, h1, h2⟩ := W2.inst
    refine ⟨dx, _, h1, wf_no _ _ _ _ (by decide +kernel) (by decide +kernel) (by decide +kernel) (by decide +kernel), line_le (by simp), fun t2 ht2 => ?_⟩
    obtain ⟨W3, s3, k3⟩ := W2.step ht2 (.times m1 wt)
    have g2 : (Stp.times m1 wt).good rows.length p1.length := ⟨⟨by omega, by omega⟩, hw⟩
    refine ⟨sa, ma, na, rows, p1, W3, .times m1 wt, s3, g2, by omega, fun H2 p2 m2 k4 W4 w2 => hR _ _ ?_⟩
    clear hR
    have gr2 := w2.grow W2.gd g2
    have l2 : LN rows p2 m2 = timesR (LN rows p1 m1) wt := w2.line W2.gd
    rw [l1] at l2
    have lt2 := w2.lt
    have le2 := gr2.le
    have k4 := (k2.trans k3).trans k4
    clear W3 s3 k3 h1 h2 dx ra
    -- add
    ((try walk_at "rd12"); (try simp only [sp_Writer_write]); (try walk_at "rd12"))
    obtain ⟨dx, ra, h1, h2⟩ := W4.inst
    refine ⟨dx, _, h1, wf_no _ _ _ _ (by decide +kernel) (by decide +kernel) (by decide +kernel) (by decide +kernel), line_le (by simp), fun t3 ht3 => ?_⟩
    obtain ⟨W5, s5, k5⟩ := W4.step ht3 (.add n m2)
    have g3 : (Stp.add n m2).good rows.length p2.length := ⟨⟨by omega, by omega⟩, by omega, by omega⟩
    refine ⟨sa, ma, na, rows, p2, W5, .add n m2, s5, g3, by omega, fun H3 p3 m3 k6 W6 w3 => ?_⟩
    have gr3 := w3.grow W4.gd g3
    have l3 : LN rows p3 m3 = addR (LN rows p2 n) (LN rows p2 m2) := w3.line W4.gd
    rw [l2, gr2.line (by omega), gr1.line hn] at l3
    refine q _ _ _ ((k4.trans k5).trans k6) W6 ((gr1.trans gr2 (k := 2) (by omega)).trans gr3 (by omega)) w3.lt l3 fun hN => ?_
    exact w3.nec (w2.nec (w1.nec hN fun _ _ z => by cases z) fun _ _ z => by cases z) fun _ _ z => by cases z
end
end Cp
namespace Cp
open PySem L2
def sp_Writer_bare (K : PySem.W.Frag) (C : Addr) : Sp := fun vs H Q _ => ∃ (x sa ma na : Addr) (rows : List Row) (p : List Stp) (n : Nat), vs = [.ref x, .int n] ∧ WrAt K C H x sa ma na rows p ∧ n < p.length ∧ 1 ≤ (LN rows p n).2 ∧ (LN rows p n).2 ≤ 1000000000000000000 ∧ (∀ t ∈ (LN rows p n).1, t.1 ≤ 1000000000000000000) ∧ p.length ≤ 20000 ∧ NEC rows p ∧
  ∀ H' p' (m : Nat), Same (mns H [sa, ma, na]) (mns H' [sa, ma, na]) → WrAt K C H' x sa ma na rows p' → Grow rows p p' 1 → m < p'.length → Bare (LN rows p' m) → (∀ t ∈ (LN rows p' m).1, ∃ y ∈ (LN rows p n).1, y.2 = t.2) → Fin rows p' m → Q (.int m) H'
section
seal L2.PSs L2.PS L2.PE L2.PT L2.PA L2.PG L2.PGs L2.PI L2.PW L2.PTs L2.OpR L2.UnR L2.CallR L2.IxR L2.SlR
variable {P : Program} {w : World} {K : PySem.W.Frag} {mg : Str → Option Value} {base : Heap}
theorem ok_Writer_bare (T : Tx K mg) : FnOk P w K mg base CX0 6 T.f_Writer_bare T.d_Writer_bare P_Writer_bare (sp_Writer_bare K T.C_Writer) := by
  have G_Writer_write := ok_Writer_write (P := P) (w := w) (base := base) T
  refine T.Writer_bare.fn.ok sc_Writer_bare (fun vs H Q E h => ?_) (fun cdv A outer s H vs Q E hr h => ?_)
  · obtain ⟨x, sa, ma, na, rows, p, n, rfl, _⟩ := h
    rfl
  · obtain ⟨x, sa, ma, na, rows, p, n, rfl, W, hn, l0, l1, hw, hlen, hN, q⟩ := h
    obtain ⟨dx, ra, h1, h2⟩ := W.inst
    obtain ⟨ys, v, h5, e1, hv⟩ := W.line hn
    have hv := rRow.mono mns_same hv
    obtain ⟨rq, rl, rx, rfl, RA⟩ := rowAt hv
    have ht := LN_tidy (rows := rows) (i := n) W.ti W.gd hn
    have htl := ht.len
    refine ⟨_, (pss_cons (ps_set (i := 2) sc_Writer_bare.nd rfl (Or.inl rfl) (pe_ix (ix_tupK (K := K) rfl) (pe_ix (ix_listK (K := K) rfl) (pe_fldK (K := K) rfl (pv 0) rfl) (pv 1) (fun _ _ => rfl)) pe_int (fun _ _ => rfl)))
      (pss_cons (ps_set (i := 3) sc_Writer_bare.nd rfl (Or.inl rfl) (pe_callB (call_maxL (K := K) rfl rfl) (by rfl) T.b_max bb_max (pa_cons (pe_op op_cat (pe_comp rfl (compOk_of (sc := defScope s_Writer_bare) (N := N_Writer_bare) (Nc := ["weight", "side"]) (im := [none, none]) rfl rfl (by decide +kernel)) (pi_listK (K := K) rfl (pv 2)) (by intro cl C fp s1 H1; exact ⟨(pg_tupK (K := K) (n := 2) rfl rfl (pgs_cons (pg_name (i := 0) (by decide +kernel : List.Nodup (["weight", "side"] : List Str)) rfl (Or.inl rfl) (Or.inr rfl)) (pgs_cons (pg_name (i := 1) (by decide +kernel : List.Nodup (["weight", "side"] : List Str)) rfl (Or.inl rfl) (Or.inr rfl)) pgs_nil)) rfl rfl), pts_nil, (pv 0)⟩)) (pe_lst (pa_cons (pe_ix (ix_tupK (K := K) rfl) (pe_ix (ix_listK (K := K) rfl) (pe_fldK (K := K) rfl (pv 0) rfl) (pv 1) (fun _ _ => rfl)) pe_int (fun _ _ => rfl)) pa_nil))) pa_nil)))
      (pss_one (ps_ret (pe_meth (pv 0) T.Writer.cl T.Writer_write.me G_Writer_write (hr.mono (by decide)) T.Writer_write.bd .nil pass0 (pa_cons (pe_tup (pa_cons pe_str (pa_cons (pv 1) (pa_cons (pv 3) pa_nil)))) pa_nil)))))), ?_⟩
    rw [show L2.start N_Writer_bare [V.ref x, V.int n] = [some (.ref x), some (.int n), none, none] from rfl]
    -- terms
    refine seq_gen fun R hR => ?_
    (try walk_at "rd10")
    refine ⟨T.C_Writer, dx, _, h1, T.Writer.cl, T.n_Writer_made, _, wf_made _ _ _ _, ma, rfl, ys, SqL.of h5, _, e1, rq, rfl, _, SqT.of RA.tp, _, rfl, hR _ _ ?_⟩
    clear hR
    -- greatest
    refine seq_gen fun R hR => ?_
    try (try walk_at "rd10")
    refine comp_l fun R1 hR1 => ?_
    try (try walk_at "rd10")
    refine hR1 _ _ _ (SqL.of RA.tm.at_) fun acc hacc => compL rTerm repInt (fun _ => true) (fun t => t.1) (fun σ => ∃ u v, σ = [u, v]) (SqL.of RA.tm.at_) RA.tm.its (by omega) hacc ⟨none, none, rfl⟩ ?_ ?_
    · rintro y ⟨wt, sd⟩ σ H2 hin e ⟨pt, x1, x2, rfl, hT2, h1, h2⟩ ⟨u, v, rfl⟩ D0 hD0
      obtain rfl : x1 = .int wt := h1
      obtain rfl : x2 = .int sd := h2
      (try walk_at "rd0")
      refine ⟨[.int wt, .int sd], SqT.of hT2, rfl, ?_⟩
      try (try walk_at "rd0")
      refine hD0 _ _ _ rfl (Same.refl _) ⟨_, _, rfl⟩ fun _ D hD => ?_
      (try walk_at "rd0")
      exact hD _ _ (Same.refl _) rfl
    intro H3 e3 h3
    rw [filter_all] at h3
    obtain ⟨_, zs, ea, hZ, pZ⟩ := New.up h3
    cases ea
    have ez := ints_map pZ
    (try walk_at "rd13")
    refine ⟨T.C_Writer, dx, _, e3 _ _ h1, T.Writer.cl, T.n_Writer_made, _, wf_made _ _ _ _, ma, rfl, ys, SqL.of (e3 _ _ h5), _, e1, rq, rfl, _, SqT.of (e3 _ _ RA.tp), _, rfl, ?_⟩
    have lz : zs.length = (LN rows p n).1.length := by rw [pZ.length, List.length_map]
    refine ⟨line_le (by simp), fun c1 hc1 => ⟨zs, (Same.new hc1) _ _ hZ, _, upd_same, line_le (by simp; omega), fun c2 hc2 => ⟨(LN rows p n).1.map (·.1) ++ [(LN rows p n).2], ?_, by simp, fun m hm hmx => hR _ _ ?_⟩⟩⟩
    · rw [List.map_append, ← ez]
      exact SqL.of upd_same
    clear hR hR1
    have E := (e3.trans (Same.new (o := .lst [.int (LN rows p n).2]) hc1)).trans (Same.new (o := .lst (zs ++ [.int (LN rows p n).2])) hc2)
    have W1 := W.keep E
    have k1 := mns_mono (D := [sa, ma, na]) E
    have m1 : ∀ t ∈ (LN rows p n).1, t.1 ≤ m := fun t ht => hmx _ (List.mem_append_left _ (List.mem_map_of_mem ht))
    have m2 : (LN rows p n).2 ≤ m := hmx _ (List.mem_append_right _ (List.mem_singleton.mpr rfl))
    have m3 : m ≤ 1000000000000000000 := by
      rcases List.mem_append.mp hm with z | z
      · obtain ⟨t, ht, rfl⟩ := List.mem_map.mp z
        exact hw t ht
      · rw [List.mem_singleton.mp z]
        exact l1
    generalize upd (upd H3 c1 (.lst [.int (LN rows p n).2])) c2 (.lst (zs ++ [.int (LN rows p n).2])) = H4 at *
    -- the cut
    ((try walk_at "rd12"); (try simp only [sp_Writer_write]); (try walk_at "rd12"))
    obtain ⟨dx1, ra1, g1, g2⟩ := W1.inst
    refine ⟨dx1, _, g1, wf_no _ _ _ _ (by decide +kernel) (by decide +kernel) (by decide +kernel) (by decide +kernel), line_le (by simp), fun t1 ht1 => ?_⟩
    obtain ⟨W2, s2, k2⟩ := W1.step ht1 (.cut n m)
    have gs : (Stp.cut n m).good rows.length p.length := ⟨⟨by omega, by omega⟩, by omega, m3⟩
    refine ⟨sa, ma, na, rows, p, W2, .cut n m, s2, gs, hlen, fun H5 p5 m5 k5 W5 w5 => ?_⟩
    have l5 : LN rows p5 m5 = cutR (LN rows p n) m := w5.line W.gd
    refine q _ _ _ ((k1.trans k2).trans k5) W5 (w5.grow W.gd gs) w5.lt ?_ ?_ (w5.fin hN)
    · rw [l5]
      exact bare_cut ht l0 m1 m2
    · rw [l5]
      exact fun t ht => cut_mem ht
end
end Cp
namespace Cp
open PySem L2
def sp_Writer_bare_of_row (K : PySem.W.Frag) (C : Addr) : Sp := fun vs H Q _ => ∃ (x sa ma na : Addr) (rows : List Row) (p : List Stp) (i : Nat) (s : V) (st : List Bool) (r : Row), vs = [.ref x, .int i, s] ∧ WrAt K C H x sa ma na rows p ∧ rFill.rel K (mns H [sa, ma, na]) s st ∧ rows[i]? = some r ∧ Big r ∧ mostC st r.1 < r.2 ∧ p.length ≤ 18900 ∧ NEC rows p ∧
  ∀ H' p' (m : Nat), Same (mns H [sa, ma, na]) (mns H' [sa, ma, na]) → WrAt K C H' x sa ma na rows p' → Grow rows p p' 50 → m < p'.length → Bare (LN rows p' m) → (∀ t ∈ (LN rows p' m).1, failed st t.2 = true) → Fin rows p' m → Q (.int m) H'
section
seal L2.PSs L2.PS L2.PE L2.PT L2.PA L2.PG L2.PGs L2.PI L2.PW L2.PTs L2.OpR L2.UnR L2.CallR L2.IxR L2.SlR
variable {P : Program} {w : World} {K : PySem.W.Frag} {mg : Str → Option Value} {base : Heap}
theorem ok_Writer_bare_of_row (T : Tx K mg) : FnOk P w K mg base CX0 7 T.f_Writer_bare_of_row T.d_Writer_bare_of_row P_Writer_bare_of_row (sp_Writer_bare_of_row K T.C_Writer) := by
  have G_Writer_write := ok_Writer_write (P := P) (w := w) (base := base) T
  have G_Writer_without := ok_Writer_without (P := P) (w := w) (base := base) T
  have G_Writer_bare := ok_Writer_bare (P := P) (w := w) (base := base) T
  have G_is_failed := ok_is_failed (P := P) (w := w) (base := base) T
  refine T.Writer_bare_of_row.fn.ok sc_Writer_bare_of_row (fun vs H Q E h => ?_) (fun cdv A outer s H vs Q E hr h => ?_)
  · obtain ⟨x, sa, ma, na, rows, p, i, s, st, r, rfl, _⟩ := h
    rfl
  · obtain ⟨x, sa, ma, na, rows, p, i, s, st, r, rfl, W, hf, hi, hB, hbr, hlen, hN, q⟩ := h
    have hil : i < rows.length := (List.getElem?_eq_some_iff.mp hi).1
    have ti := W.ti r (List.mem_of_getElem? hi)
    have hrl := ti.len
    have gd := W.gd
    refine ⟨_, (pss_cons (ps_set (i := 3) sc_Writer_bare_of_row.nd rfl (Or.inl rfl) (pe_meth (pv 0) T.Writer.cl T.Writer_write.me G_Writer_write (hr.mono (by decide)) T.Writer_write.bd .nil pass0 (pa_cons (pe_tup (pa_cons pe_str (pa_cons (pv 1) pa_nil))) pa_nil)))
      (pss_cons (ps_for PassesOwn.never rfl (pi_listK (K := K) rfl (pe_ix (ix_tupK (K := K) rfl) (pe_ix (ix_listK (K := K) rfl) (pe_fldK (K := K) rfl (pv 0) rfl) (pv 1) (fun _ _ => rfl)) pe_int (fun _ _ => rfl))) (pg_tupK (K := K) (n := 2) rfl rfl (pgs_cons (pg_name (i := 4) sc_Writer_bare_of_row.nd rfl (Or.inl rfl)) (pgs_cons (pg_name (i := 5) sc_Writer_bare_of_row.nd rfl (Or.inl rfl)) pgs_nil)) rfl rfl)
      (pss_one (ps_if (pt_not (pt_val (pe_call G_is_failed (hr.mono (by decide)) rfl T.is_failed.mg T.is_failed.fn.kp T.is_failed.bd .nil pass0 (pa_cons (pv 5) (pa_cons (pv 2) pa_nil)))))
      (pss_one (ps_set (i := 3) sc_Writer_bare_of_row.nd rfl (Or.inl rfl) (pe_meth (pv 0) T.Writer.cl T.Writer_without.me G_Writer_without (hr.mono (by decide)) T.Writer_without.bd .nil pass0 (pa_cons (pv 3) (pa_cons (pv 4) (pa_cons (pv 5) pa_nil))))))
      pss_nil)))
      (pss_one (ps_ret (pe_meth (pv 0) T.Writer.cl T.Writer_bare.me G_Writer_bare (hr.mono (by decide)) T.Writer_bare.bd .nil pass0 (pa_cons (pv 3) pa_nil)))))), ?_⟩
    rw [show L2.start N_Writer_bare_of_row [V.ref x, V.int i, s] = [some (.ref x), some (.int i), some s, none, none, none] from rfl]
    -- given
    refine seq_gen fun R hR => ?_
    ((try walk_at "rd12"); (try simp only [sp_Writer_write]); (try walk_at "rd12"))
    obtain ⟨dx, ra, h1, h2⟩ := W.inst
    refine ⟨dx, _, h1, wf_no _ _ _ _ (by decide +kernel) (by decide +kernel) (by decide +kernel) (by decide +kernel), line_le (by simp), fun t1 ht1 => ?_⟩
    obtain ⟨W1, s1, k1⟩ := W.step ht1 (.given i)
    have g1 : (Stp.given i).good rows.length p.length := ⟨by omega, by omega⟩
    refine ⟨sa, ma, na, rows, p, W1, .given i, s1, g1, by omega, fun H1 p1 m1 k2 W2 w1 => hR _ _ ?_⟩
    clear hR
    have gr1 := w1.grow gd g1
    have l1 : LN rows p1 m1 = r := by
      have e : LN rows p1 m1 = tidyR (rows.getD (i : Int).toNat row0) := w1.line gd
      rw [e, Int.toNat_natCast, List.getD_eq_getElem?_getD, hi]
      exact tidyR_self ti
    have lt1 := w1.lt
    have k2 := k1.trans k2
    have n1 : NEC rows p1 := w1.nec hN fun _ _ z => by cases z
    clear W1 s1 k1 h1 h2 dx ra
    -- its terms
    obtain ⟨dx, ra, h1, h2⟩ := W2.inst
    obtain ⟨_, rxs, ea, hra, pra⟩ := id h2
    cases ea
    obtain ⟨v, e1, r', e2, hv⟩ := atI_pair pra (i := (i : Int)) (by omega) (by omega)
    rw [Int.toNat_natCast, hi] at e2
    cases e2
    obtain ⟨rq, rl, rx, rfl, RA⟩ := rowAt hv
    have rxl : rx.length = r.1.length := RA.tm.len
    have hraH := mns_same _ _ hra
    have hrqH := mns_same _ _ RA.tp
    have hrlH := mns_same _ _ RA.tm.at_
    refine seq_gen fun R hR => for_l fun R1 hR1 => ?_
    (try walk_at "rd10")
    refine ⟨T.C_Writer, dx, _, h1, T.Writer.cl, T.n_Writer_rows, _, wf_rows _ _ _ _, ra, rfl, rxs, SqL.of hraH, _, e1, rq, rfl, _, SqT.of hrqH, _, rfl, hR1 _ _ _ (SqL.of hrlH) (loop_list (xs := rx) (fun j σ H2 => ∃ (u v : Option V) (p2 : List Stp) (m2 : Nat),
      σ = [some (.ref x), some (.int i), some s, some (.int m2), u, v] ∧ Same (mns H1 [sa, ma, na]) (mns H2 [sa, ma, na]) ∧ WrAt K T.C_Writer H2 x sa ma na rows p2 ∧ Grow rows p1 p2 (3 * j) ∧ m2 < p2.length ∧ LN rows p2 m2 = stripped st r j ∧ NEC rows p2) ?_ ?_ ?_ ?_)⟩
    · exact ⟨none, none, p1, m1, rfl, Same.refl _, W2, Grow.refl W2.gd, lt1, by rw [stripped_zero]; exact l1, n1⟩
    · rintro j σ H2 _ ⟨u, v, p2, m2, rfl, k, W3, gr, lt, ll, nn⟩
      exact SqL.of (mns_same _ _ (k _ _ RA.tm.at_))
    · rintro j y σ H2 N hy ⟨u, v, p2, m2, rfl, k, W3, gr, lt, ll, nn⟩ hN2
      obtain ⟨⟨wt, sd⟩, ht, hyt⟩ := pgetL RA.tm.its hy
      obtain ⟨pt, x1, x2, rfl, hT2, h1', h2'⟩ := rTerm.mono (k.trans mns_same) hyt
      obtain rfl : x1 = .int wt := h1'
      obtain rfl : x2 = .int sd := h2'
      have hj : j < r.1.length := (List.getElem?_eq_some_iff.mp ht).1
      have hmem := List.mem_of_getElem? ht
      have sd0 := ti.sd _ hmem
      have wt0 := ti.pos _ hmem
      have wt1 := hB.2 _ hmem
      have le := gr.le
      have le1 := gr1.le
      ((try walk_at "rd0"); (try simp only [sp_is_failed]); (try walk_at "rd0"))
      refine ⟨[.int wt, .int sd], SqT.of hT2, rfl, ?_⟩
      ((try walk_at "rd0"); (try simp only [sp_is_failed]); (try walk_at "rd0"))
      refine ⟨st, rFill.mono ((k2.trans k).trans mns_same) hf, sd0.1, ?_⟩
      by_cases hfl : failed st sd = true
      · rw [hfl]
        (try walk_at "rd0")
        exact hN2 _ _ ⟨_, _, p2, m2, rfl, k, W3, gr.wider (by omega), lt, by rw [stripped_fail ht hfl]; exact ll, nn⟩
      · rw [show failed st sd = false from Bool.not_eq_true _ ▸ hfl]
        ((try walk_at "rd12"); (try simp only [sp_Writer_without]); (try walk_at "rd12"))
        obtain ⟨dx, ra, h1, h2⟩ := W3.inst
        refine ⟨dx, _, h1, wf_no _ _ _ _ (by decide +kernel) (by decide +kernel) (by decide +kernel) (by decide +kernel), sa, ma, na, rows, p2, m2, rfl, W3, lt, wt0, wt1, sd0.1, sd0.2, by omega, fun H3 p3 m3 k3 W4 gr3 lt3 l3 nn3 => ?_⟩
        refine hN2 _ _ ⟨_, _, p3, m3, rfl, k.trans k3, W4, gr.trans gr3 (by omega), lt3, ?_, nn3 nn⟩
        have e9 := stripped_step (st := st) ti ht hfl
        rw [l3, ll]
        exact e9
    rintro σ H2 ⟨u, v, p2, m2, rfl, k, W3, gr, lt, ll, nn⟩
    refine hR _ _ ?_
    clear hR hR1
    rw [rxl] at ll gr
    have le := gr.le
    have le1 := gr1.le
    obtain ⟨f1, f2⟩ := stripped_end hbr
    -- bare
    ((try walk_at "rd12"); (try simp only [sp_Writer_bare]); (try walk_at "rd12"))
    obtain ⟨dx, ra, h1, h2⟩ := W3.inst
    refine ⟨dx, _, h1, wf_no _ _ _ _ (by decide +kernel) (by decide +kernel) (by decide +kernel) (by decide +kernel), sa, ma, na, rows, p2, m2, rfl, W3, lt, by rw [ll]; exact f2, ?_, ?_, by omega, nn, fun H3 p3 m3 k3 W4 gr3 lt3 b3 s3 fin3 => ?_⟩
    · rw [ll]
      have := stripped_least (st := st) ti r.1.length
      have := hB.1
      omega
    · rw [ll]
      exact fun t ht => hB.2 t (stripped_mem ht)
    refine q _ _ _ ((k2.trans k).trans k3) W4 ((gr1.trans gr (k := 49) (by omega)).trans gr3 (by omega)) lt3 b3 (fun t ht => ?_) fin3
    obtain ⟨y, hy, ey⟩ := s3 t ht
    rw [ll] at hy
    rw [← ey]
    exact f1 y hy
end
end Cp
namespace Cp
open PySem L2
/-- n: the unknowns that are still open, and one -/
def sp_refuted (K : PySem.W.Frag) (C : Addr) (n : Nat) : Sp := fun vs H Q _ => ∃ (x sa ma na : Addr) (rows : List Row) (p : List Stp) (s : V) (st : List Bool) (u : Int), vs = [.ref x, s] ∧ WrAt K C H x sa ma na rows p ∧ rFill.rel K (mns H [sa, ma, na]) s st ∧
  (st.length : Int) ≤ u ∧ (st.length : Int) + n = u + 1 ∧ u ≤ 8 ∧ (∀ r ∈ rows, Of u r ∧ Big r) ∧ (∀ cs : List Bool, cs.length = n - 1 → ∃ r ∈ rows, ¬ Hold (st ++ cs) r) ∧ p.length + cost n ≤ 18900 ∧ NEC rows p ∧
  ∀ H' p' (m : Nat), Same (mns H [sa, ma, na]) (mns H' [sa, ma, na]) → WrAt K C H' x sa ma na rows p' → Grow rows p p' (cost n) → m < p'.length → Bare (LN rows p' m) → (∀ t ∈ (LN rows p' m).1, failed st t.2 = true) → Fin rows p' m → Q (.int m) H'
def sp_refuted9 (K : PySem.W.Frag) (C : Addr) : Sp := fun vs H Q E => ∃ n, n ≤ 9 ∧ sp_refuted K C n vs H Q E
theorem broken_at_end {rows : List Row} {st : List Bool} {u : Int} (hl : (st.length : Int) = u) (hr : ∀ r ∈ rows, Of u r) (h : ∃ r ∈ rows, ¬ Hold st r) : firstB rows st ≠ none := fun z => by
  obtain ⟨r, hm, nh⟩ := h
  have := firstB_none z r hm
  rw [most_full (inFill_of hl (hr r hm))] at this
  exact nh this
/-- without the next unknown's side, the line is one of the start itself -/
theorem failed_less {st : List Bool} {b : Bool} {r : Row} {side : Int} (hb : Bare r) (h : ∀ t ∈ r.1, failed (st ++ [b]) t.2 = true) (hs : side = 2 * st.length + (if b = true then 1 else 0)) (hn : side ∉ r.1.map (·.2)) : ∀ t ∈ r.1, failed st t.2 = true := fun t ht => by
  rcases failed_snoc (hb.ti.sd t ht).1 (h t ht) with z | z
  · exact z
  · exact absurd (List.mem_map.mpr ⟨t, ht, z.trans hs.symm⟩) hn
section
seal L2.PSs L2.PS L2.PE L2.PT L2.PA L2.PG L2.PGs L2.PI L2.PW L2.PTs L2.OpR L2.UnR L2.CallR L2.IxR L2.SlR
variable {P : Program} {w : World} {K : PySem.W.Frag} {mg : Str → Option Value} {base : Heap}
theorem ok_refuted_s (T : Tx K mg) (n : Nat) (G_refuted : FnOk P w K mg base CX0 (n + 8) T.f_refuted T.d_refuted P_refuted (sp_refuted K T.C_Writer n)) : FnOk P w K mg base CX0 (n + 1 + 8) T.f_refuted T.d_refuted P_refuted (sp_refuted K T.C_Writer (n + 1)) := by
  have G_first_broken := ok_first_broken (P := P) (w := w) (base := base) T
  have G_other_side := ok_other_side (P := P) (w := w) (base := base) T
  have G_Writer_write := ok_Writer_write (P := P) (w := w) (base := base) T
  have G_Writer_names := ok_Writer_names (P := P) (w := w) (base := base) T
  have G_Writer_bare := ok_Writer_bare (P := P) (w := w) (base := base) T
  have G_Writer_bare_of_row := ok_Writer_bare_of_row (P := P) (w := w) (base := base) T
  refine T.refuted.fn.ok sc_refuted (fun vs H Q E h => ?_) (fun cdv A outer s H vs Q E hr h => ?_)
  · obtain ⟨x, sa, ma, na, rows, p, s, st, u, rfl, _⟩ := h
    rfl
  · obtain ⟨x, sa, ma, na, rows, p, s, st, u, rfl, W, hf, hl1, hl2, hu, hrow, hun, hlen, hN, q⟩ := h
    have hl2 : (st.length : Int) + ((n + 1 : Nat) : Int) = u + 1 := hl2
    have hun : ∀ cs : List Bool, cs.length = n → ∃ r ∈ rows, ¬ Hold (st ++ cs) r := hun
    have c50 := cost_50 n
    have c2 := cost_2 n
    obtain ⟨fa, fx, rfl, hF, pF⟩ := id hf
    have lf : fx.length = st.length := pF.length
    have hFH := mns_same _ _ hF
    have ti := W.ti
    refine ⟨_, (pss_cons (ps_set (i := 2) sc_refuted.nd rfl (Or.inl rfl) (pe_call G_first_broken (hr.mono (by omega)) rfl T.first_broken.mg T.first_broken.fn.kp T.first_broken.bd .nil pass0 (pa_cons (pe_fldK (K := K) rfl (pv 0) rfl) (pa_cons (pv 1) pa_nil))))
      (pss_cons (ps_if (pt_cmpR op_notN (pv 2) pe_non (nomark _))
      (pss_one (ps_ret (pe_meth (pv 0) T.Writer.cl T.Writer_bare_of_row.me G_Writer_bare_of_row (hr.mono (by omega)) T.Writer_bare_of_row.bd .nil pass0 (pa_cons (pv 2) (pa_cons (pv 1) pa_nil)))))
      pss_nil)
      (pss_cons (ps_set (i := 3) sc_refuted.nd rfl (Or.inl rfl) (pe_op op_mul pe_int (pe_callB (len_seqK (K := K) rfl) (by rfl) T.b_len bb_len (pa_cons (pv 1) pa_nil))))
      (pss_cons (ps_set (i := 4) sc_refuted.nd rfl (Or.inl rfl) (pe_call G_refuted (hr.mono (by omega)) rfl T.refuted.mg T.refuted.fn.kp T.refuted.bd .nil pass0 (pa_cons (pv 0) (pa_cons (pe_op op_cat (pv 1) (pe_lst (pa_cons pe_bl pa_nil))) pa_nil))))
      (pss_cons (ps_if (pt_not (pt_val (pe_meth (pv 0) T.Writer.cl T.Writer_names.me G_Writer_names (hr.mono (by omega)) T.Writer_names.bd .nil pass0 (pa_cons (pv 4) (pa_cons (pe_call G_other_side (hr.mono (by omega)) rfl T.other_side.mg T.other_side.fn.kp T.other_side.bd .nil pass0 (pa_cons (pv 3) pa_nil)) pa_nil)))))
      (pss_one (ps_ret (pv 4)))
      pss_nil)
      (pss_cons (ps_set (i := 5) sc_refuted.nd rfl (Or.inl rfl) (pe_call G_refuted (hr.mono (by omega)) rfl T.refuted.mg T.refuted.fn.kp T.refuted.bd .nil pass0 (pa_cons (pv 0) (pa_cons (pe_op op_cat (pv 1) (pe_lst (pa_cons pe_bl pa_nil))) pa_nil))))
      (pss_cons (ps_if (pt_not (pt_val (pe_meth (pv 0) T.Writer.cl T.Writer_names.me G_Writer_names (hr.mono (by omega)) T.Writer_names.bd .nil pass0 (pa_cons (pv 5) (pa_cons (pv 3) pa_nil)))))
      (pss_one (ps_ret (pv 5)))
      pss_nil)
      (pss_one (ps_ret (pe_meth (pv 0) T.Writer.cl T.Writer_bare.me G_Writer_bare (hr.mono (by omega)) T.Writer_bare.bd .nil pass0 (pa_cons (pe_meth (pv 0) T.Writer.cl T.Writer_write.me G_Writer_write (hr.mono (by omega)) T.Writer_write.bd .nil pass0 (pa_cons (pe_tup (pa_cons pe_str (pa_cons (pv 4) (pa_cons (pv 5) pa_nil)))) pa_nil)) pa_nil))))))))))), ?_⟩
    rw [show L2.start N_refuted [V.ref x, V.ref fa] = [some (.ref x), some (.ref fa), none, none, none, none] from rfl]
    -- broken
    refine seq_gen fun R hR => ?_
    ((try walk_at "rd10"); (try simp only [sp_first_broken]); (try walk_at "rd10"))
    obtain ⟨dx, ra, h1, h2⟩ := W.inst
    refine ⟨T.C_Writer, dx, _, h1, T.Writer.cl, T.n_Writer_rows, _, wf_rows _ _ _ _, rows, rRows.mono mns_same h2, st, rFill.mono mns_same hf, fun y hy => ⟨(ti y hy).sd, by have := (ti y hy).len; omega⟩, fun H1 e1 => hR _ _ ?_⟩
    clear hR h1 h2 dx ra
    have W1 := W.keep e1
    have k1 := mns_mono (D := [sa, ma, na]) e1
    have hf1 := rFill.mono k1 hf
    cases eb : firstB rows st with
    | some i =>
      obtain ⟨r, hi, hbr⟩ := firstB_some eb
      refine seq_gen fun R hR => ?_
      ((try walk_at "rd12"); (try simp only [optV, sp_Writer_bare_of_row]); (try walk_at "rd12"))
      obtain ⟨dx, ra, h1, h2⟩ := W1.inst
      refine ⟨dx, _, h1, wf_no _ _ _ _ (by decide +kernel) (by decide +kernel) (by decide +kernel) (by decide +kernel), sa, ma, na, rows, p, i, rfl, W1, st, hf1, r, hi, (hrow r (List.mem_of_getElem? hi)).2, hbr, by omega, hN, fun H2 p2 m2 k2 W2 gr2 lt2 b2 f2 fin2 => ?_⟩
      exact q _ _ _ (k1.trans k2) W2 (gr2.wider c50) lt2 b2 f2 fin2
    | none =>
    obtain ⟨m, rfl⟩ : ∃ m, n = m + 1 := by
      cases n with
      | zero =>
        exfalso
        have h0 := hun [] rfl
        rw [List.append_nil] at h0
        exact broken_at_end (u := u) (by omega) (fun r hr => (hrow r hr).1) h0 eb
      | succ m => exact ⟨m, rfl⟩
    have hk : st.length < 16 := by omega
    refine seq_gen fun R hR => ?_
    ((try walk_at "rd0"); (try simp only [optV]); (try walk_at "rd0"))
    refine hR _ _ ?_
    clear hR
    -- the yes side
    refine seq_gen fun R hR => ?_
    (try walk_at "rd0")
    refine ⟨fx, .inl (SqL.of (e1 _ _ hFH)), .inl ⟨by decide, by decide⟩, hR _ _ ?_⟩
    clear hR
    rw [lf]
    -- yes
    refine seq_gen fun R hR => ?_
    ((try walk_at "rd4"); (try simp only [sp_refuted]); (try walk_at "rd4"))
    refine ⟨line_le (by simp), fun c1 hc1 => ?_⟩
    have a1 := Same.new (o := .lst [.bl true]) hc1
    refine ⟨fx, a1 _ _ (e1 _ _ hFH), _, upd_same, line_le (by rw [lf]; simp; omega), fun d1 hd1 => ?_⟩
    have a2 := a1.trans (Same.new (o := .lst (fx ++ [.bl true])) hd1)
    have W2 := W1.keep a2
    have k2 := k1.trans (mns_mono (D := [sa, ma, na]) a2)
    have nd1 := (W1.keep a1).nots hd1
    refine ⟨sa, ma, na, rows, p, W2, st ++ [true], ⟨d1, _, rfl, by rw [mns_ne nd1]; exact upd_same, papp (Paired.mapP pF fun _ _ z => z) (.cons rfl .nil)⟩, u, by rw [List.length_append]; simp; omega, by rw [List.length_append]; simp; omega, hu, hrow, fun cs hc => ?_, by omega, hN, fun H3 p3 y k3 W3 gr3 lt3 b3 f3 fin3 => hR _ _ ?_⟩
    · have := hun (true :: cs) (by rw [List.length_cons]; omega)
      rwa [List.append_cons] at this
    clear hR a1 a2 W2 nd1 hc1 hd1
    have k3 := k2.trans k3
    have le3 := gr3.le
    have ho : otherS (2 * (st.length : Int)) = 2 * st.length + 1 := by
      unfold otherS
      rw [if_pos (by omega)]
    -- is it named?
    refine seq_gen fun R hR => ?_
    ((try walk_at "rd12"); (try simp only [sp_Writer_names, sp_other_side]); (try walk_at "rd12"))
    obtain ⟨dx, ra, h1, h2⟩ := W3.inst
    refine ⟨dx, _, h1, wf_no _ _ _ _ (by decide +kernel) (by decide +kernel) (by decide +kernel) (by decide +kernel), sa, ma, na, rows, p3, y, rfl, W3, lt3, fun H4 e4 => ?_⟩
    clear h1 h2 dx ra
    rw [ho]
    have W4 := W3.keep e4
    have k4 := k3.trans (mns_mono (D := [sa, ma, na]) e4)
    by_cases hna : (2 * (st.length : Int) + 1) ∈ (LN rows p3 y).1.map (·.2)
    case neg =>
      rw [decide_eq_false hna]
      (try walk_at "rd0")
      exact q _ _ _ k4 W4 (gr3.wider (by omega)) lt3 b3 (failed_less b3 f3 (by simp) hna) fin3
    rw [decide_eq_true hna]
    (try walk_at "rd0")
    refine hR _ _ ?_
    clear hR
    have nn3 : NEC rows p3 := by
      rcases fin3 with z | z
      · exact z.2
      · rw [z.1] at hna
        simp at hna
    have hF4 := mns_same _ _ (k4 _ _ hF)
    -- no
    refine seq_gen fun R hR => ?_
    ((try walk_at "rd4"); (try simp only [sp_refuted]); (try walk_at "rd4"))
    refine ⟨line_le (by simp), fun c1 hc1 => ?_⟩
    have a1 := Same.new (o := .lst [.bl false]) hc1
    refine ⟨fx, a1 _ _ hF4, _, upd_same, line_le (by rw [lf]; simp; omega), fun d1 hd1 => ?_⟩
    have a2 := a1.trans (Same.new (o := .lst (fx ++ [.bl false])) hd1)
    have W5 := W4.keep a2
    have k5 := k4.trans (mns_mono (D := [sa, ma, na]) a2)
    have nd1 := (W4.keep a1).nots hd1
    refine ⟨sa, ma, na, rows, p3, W5, st ++ [false], ⟨d1, _, rfl, by rw [mns_ne nd1]; exact upd_same, papp (Paired.mapP pF fun _ _ z => z) (.cons rfl .nil)⟩, u, by rw [List.length_append]; simp; omega, by rw [List.length_append]; simp; omega, hu, hrow, fun cs hc => ?_, by omega, nn3, fun H6 p6 z k6 W6 gr6 lt6 b6 f6 fin6 => hR _ _ ?_⟩
    · have := hun (false :: cs) (by rw [List.length_cons]; omega)
      rwa [List.append_cons] at this
    clear hR a1 a2 W5 nd1 hc1 hd1
    have k6 := k5.trans k6
    have le6 := gr6.le
    have g36 := gr3.trans gr6 (k := cost (m + 1) + cost (m + 1)) (Nat.le_refl _)
    -- is it named?
    refine seq_gen fun R hR => ?_
    ((try walk_at "rd12"); (try simp only [sp_Writer_names]); (try walk_at "rd12"))
    obtain ⟨dx, ra, h1, h2⟩ := W6.inst
    refine ⟨dx, _, h1, wf_no _ _ _ _ (by decide +kernel) (by decide +kernel) (by decide +kernel) (by decide +kernel), sa, ma, na, rows, p6, z, rfl, W6, lt6, fun H7 e7 => ?_⟩
    clear h1 h2 dx ra
    have W7 := W6.keep e7
    have k7 := k6.trans (mns_mono (D := [sa, ma, na]) e7)
    by_cases hnb : (2 * (st.length : Int)) ∈ (LN rows p6 z).1.map (·.2)
    case neg =>
      rw [decide_eq_false hnb]
      (try walk_at "rd0")
      exact q _ _ _ k7 W7 (g36.wider (by omega)) lt6 b6 (failed_less b6 f6 (by simp) hnb) fin6
    rw [decide_eq_true hnb]
    (try walk_at "rd0")
    refine hR _ _ ?_
    clear hR
    have nn6 : NEC rows p6 := by
      rcases fin6 with z | z
      · exact z.2
      · rw [z.1] at hnb
        simp at hnb
    rw [← gr6.line lt3] at b3 f3 hna
    obtain ⟨r1, r2, r3⟩ := resolve b3 b6 hk f3 f6 hna hnb
    -- both
    ((try walk_at "rd12"); (try simp only [sp_Writer_bare, sp_Writer_write]); (try walk_at "rd12"))
    obtain ⟨dx, ra, h1, h2⟩ := W7.inst
    refine ⟨dx, _, h1, wf_no _ _ _ _ (by decide +kernel) (by decide +kernel) (by decide +kernel) (by decide +kernel), dx, _, h1, wf_no _ _ _ _ (by decide +kernel) (by decide +kernel) (by decide +kernel) (by decide +kernel), line_le (by simp), fun t1 ht1 => ?_⟩
    obtain ⟨W8, s8, k8⟩ := W7.step ht1 (.add y z)
    have gs : (Stp.add y z).good rows.length p6.length := ⟨⟨by omega, by omega⟩, by omega, by omega⟩
    refine ⟨sa, ma, na, rows, p6, W8, .add y z, s8, gs, by omega, fun H9 p9 m9 k9 W9 w9 => ?_⟩
    have gr9 := w9.grow W7.gd gs
    have le9 := gr9.le
    have l9 : LN rows p9 m9 = addR (LN rows p6 y) (LN rows p6 z) := w9.line W7.gd
    have k9 := (k7.trans k8).trans k9
    try (try walk_at "rd0")
    refine ⟨sa, ma, na, rows, p9, m9, rfl, W9, w9.lt, by rw [l9, r1]; decide, by rw [l9, r1]; decide, fun t ht => ?_, by omega, w9.nec nn6 (fun _ _ z => by cases z), fun H10 p10 m10 k10 W10 gr10 lt10 b10 s10 fin10 => ?_⟩
    · rw [l9] at ht
      have := r3 t ht
      omega
    refine q _ _ _ (k9.trans k10) W10 ((g36.trans gr9 (k := cost (m + 1) + cost (m + 1) + 1) (Nat.le_refl _)).trans gr10 (by omega)) lt10 b10 (fun t ht => ?_) fin10
    obtain ⟨v, hv, ev⟩ := s10 t ht
    rw [l9] at hv
    rw [← ev]
    exact r2 v hv
theorem ok_refuted_n (T : Tx K mg) : ∀ n : Nat, FnOk P w K mg base CX0 (n + 8) T.f_refuted T.d_refuted P_refuted (sp_refuted K T.C_Writer n)
  | 0 => fnOk_never fun vs H Q E ⟨x, sa, ma, na, rows, p, s, st, u, _, _, _, h1, h2, _⟩ => by
    have h2 : (st.length : Int) + 0 = u + 1 := h2
    omega
  | n + 1 => ok_refuted_s T n (ok_refuted_n T n)
theorem ok_refuted (T : Tx K mg) : FnOk P w K mg base CX0 17 T.f_refuted T.d_refuted P_refuted (sp_refuted9 K T.C_Writer) := by
  refine ⟨fun vs H Q E ⟨n, _, h⟩ => (ok_refuted_n (P := P) (w := w) (base := base) T n).len vs H Q E h, fun A outer s H args us vs Q E hr he hb hv ⟨n, hn, h⟩ => ?_⟩
  exact (ok_refuted_n (P := P) (w := w) (base := base) T n).run A outer s H args us vs Q E (hr.mono (by omega)) he hb hv h
end
end Cp
namespace Cp
open PySem L2
/-- rows of so many unknowns, whose numbers a paper may use -/
def Fit (u : Int) (rows : List Row) : Prop := ∀ x ∈ rows, Of u x ∧ x.1.length ≤ 1000 ∧ Big (tidyR x)
def sp_paper_against (K : PySem.W.Frag) : Sp := fun vs H Q _ => ∃ (r : V) (rows : List Row) (u : Int), vs = [r] ∧ rRows.rel K H r rows ∧ (0 ≤ u ∧ u ≤ 8) ∧ Fit u rows ∧ rows.length ≤ 1000 ∧ (∀ bs : List Bool, (bs.length : Int) = u → ∃ x ∈ rows, ¬ Hold bs x) ∧
  ∀ v H' p, Same H H' → rPaper.rel K H' v (p.map Stp.key) → Refutes rows p → Q v H'
section
seal L2.PSs L2.PS L2.PE L2.PT L2.PA L2.PG L2.PGs L2.PI L2.PW L2.PTs L2.OpR L2.UnR L2.CallR L2.IxR L2.SlR
variable {P : Program} {w : World} {K : PySem.W.Frag} {mg : Str → Option Value} {base : Heap}
theorem ok_paper_against (T : Tx K mg) : FnOk P w K mg base CX0 18 T.f_paper_against T.d_paper_against P_paper_against (sp_paper_against K) := by
  have G_Writer___init__ := ok_Writer___init__ (P := P) (w := w) (base := base) T
  have G_refuted := ok_refuted (P := P) (w := w) (base := base) T
  refine T.paper_against.fn.ok sc_paper_against (fun vs H Q E h => ?_) (fun cdv A outer s H vs Q E hr h => ?_)
  · obtain ⟨r, rows, u, rfl, _⟩ := h
    rfl
  · obtain ⟨r, rows, u, rfl, hR0, hu, hfit, hlen, hun, q⟩ := h
    have hsd : ∀ y ∈ rows, Sides y.1 := fun y hy => sides_of (by omega) (hfit y hy).1
    refine ⟨_, (pss_cons (ps_set (i := 1) sc_paper_against.nd rfl (Or.inl rfl) (pe_make T.Writer.made G_Writer___init__ (hr.mono (by decide)) rfl T.Writer.mg T.Writer___init__.bd .nil pass0 (pa_cons (pv 0) pa_nil)))
      (pss_cons (ps_expr (pe_call G_refuted (hr.mono (by decide)) rfl T.refuted.mg T.refuted.fn.kp T.refuted.bd .nil pass0 (pa_cons (pv 1) (pa_cons (pe_lst pa_nil) pa_nil))))
      (pss_one (ps_ret (pe_fldK (K := K) rfl (pv 1) rfl))))), ?_⟩
    rw [show L2.start N_paper_against [r] = [some r, none] from rfl]
    -- writer
    refine seq_gen fun R hR => ?_
    ((try walk_at "rd14"); (try simp only [sp_Writer___init__]); (try walk_at "rd14"))
    intro x dx hx hdx nxd
    have hdel : Same H (L2.del (upd (upd H dx (.own x)) x (.ins T.C_Writer dx [])) x) := by
      rw [del_upd]
      exact Same.into_del (Same.new hdx) hx
    refine ⟨dx, upd_same, rows, rRows.mono hdel hR0, fun y hy => ⟨hsd y hy, (hfit y hy).2.1⟩, hlen, fun H1 sa ma na hsa hma hna sm W => ?_⟩
    try (try walk_at "rd0")
    refine hR _ _ ?_
    clear hR
    have e1 : Same H H1 := fun b o h => Same.del _ _ (sm _ _ (hdel _ _ h))
    have hsa := (upd_none (upd_none hsa).2).2
    have hma := (upd_none (upd_none hma).2).2
    have hna := (upd_none (upd_none hna).2).2
    have nD : ∀ b o, H b = some o → b ∉ [sa, ma, na] := fun b o h z => by
      simp only [List.mem_cons, List.not_mem_nil, or_false] at z
      rcases z with z | z | z <;> subst z
      · rw [hsa] at h; cases h
      · rw [hma] at h; cases h
      · rw [hna] at h; cases h
    -- refuted
    refine seq_gen fun R hR => ?_
    ((try walk_at "rd0"); (try simp only [sp_refuted9, sp_refuted]); (try walk_at "rd0"))
    refine ⟨Nat.zero_le _, fun d hd => ⟨u.toNat + 1, by omega, ?_⟩⟩
    have e2 := Same.new (o := .lst []) hd
    have W1 := W.keep e2
    have nd := W.nots hd
    have cc := cost_9 (n := u.toNat + 1) (by omega)
    refine ⟨sa, ma, na, rows.map tidyR, [], W1, [], ⟨d, [], rfl, by rw [mns_ne nd]; exact upd_same, .nil⟩, u, by simp; omega, by simp; omega, hu.2, fun y hy => ?_, fun cs hc => ?_, by simp; omega, fun i k n z => by simp at z, fun H2 p m k2 W2 gr2 lt2 b2 f2 fin2 => ?_⟩
    · obtain ⟨z, hz, rfl⟩ := List.mem_map.mp hy
      exact ⟨(hfit z hz).1.tidy, (hfit z hz).2.2⟩
    · obtain ⟨z, hz, nh⟩ := hun cs (by omega)
      exact ⟨tidyR z, List.mem_map_of_mem hz, fun q => nh ((hold_tidy cs (hsd z hz)).mp q)⟩
    refine hR _ _ ?_
    clear hR
    -- the steps
    (try walk_at "rd10")
    obtain ⟨dx2, ra, h1, h2⟩ := W2.inst
    refine ⟨T.C_Writer, dx2, _, h1, T.Writer.cl, T.n_Writer_steps, _, wf_steps _ _ _ _, ?_⟩
    obtain ⟨_, ⟨xs, h3, h4⟩, _⟩ := id W2
    have gd : Goods rows.length p := by
      have := W2.gd
      rwa [List.length_map] at this
    have lno : (LN (rows.map tidyR) p m).1 = [] := by
      cases e : (LN (rows.map tidyR) p m).1 with
      | nil => rfl
      | cons t ts =>
        have ht : t ∈ (LN (rows.map tidyR) p m).1 := by rw [e]; exact List.mem_cons_self
        have := f2 t ht
        rw [failed_nil (b2.ti.sd t ht).1] at this
        cases this
    have el : LN rows p m = LN (rows.map tidyR) p m := by
      unfold LN
      rw [linesR_tidied hsd _ p rfl gd]
    have le := gr2.le
    refine q _ _ p (fun b o h => ?_) ⟨sa, xs, rfl, h3, Paired.mapP h4 fun _ _ z => rStep.mono mns_same z⟩ ⟨gd, by simp at le; omega, m, ?_, by rw [el]; exact lno, by rw [el]; exact b2.ls⟩
    · refine mns_same _ _ (k2 _ _ ?_)
      rw [mns_ne (nD b o h)]
      exact e2 _ _ (e1 _ _ h)
    · rcases fin2 with z | z
      · exact absurd lno z.1
      · exact z.2
end
end Cp
namespace Cp
open PySem L2
def sp_find (K : PySem.W.Frag) : Sp := fun vs H Q _ => ∃ (u : Int) (r : V) (rows : List Row), vs = [.int u, r] ∧ rRows.rel K H r rows ∧ (0 ≤ u ∧ u ≤ 8) ∧ Fit u rows ∧ rows.length ≤ 1000 ∧
  (∀ t v H' bs, meetR u rows = some bs → Same H H' → H' t = some (.tup [.str (Str.ofString "filling"), v]) → rFill.rel K H' v bs → Q (.ref t) H') ∧
  (∀ t v H' p, meetR u rows = none → Same H H' → H' t = some (.tup [.str (Str.ofString "paper"), v]) → rPaper.rel K H' v (p.map Stp.key) → Refutes rows p → Q (.ref t) H')
section
seal L2.PSs L2.PS L2.PE L2.PT L2.PA L2.PG L2.PGs L2.PI L2.PW L2.PTs L2.OpR L2.UnR L2.CallR L2.IxR L2.SlR
variable {P : Program} {w : World} {K : PySem.W.Frag} {mg : Str → Option Value} {base : Heap}
theorem ok_find (T : Tx K mg) : FnOk P w K mg base CX0 19 T.f_find T.d_find P_find (sp_find K) := by
  have G_meeting := ok_meeting (P := P) (w := w) (base := base) T
  have G_paper_against := ok_paper_against (P := P) (w := w) (base := base) T
  refine T.find.fn.ok sc_find (fun vs H Q E h => ?_) (fun cdv A outer s H vs Q E hr h => ?_)
  · obtain ⟨u, r, rows, rfl, _⟩ := h
    rfl
  · obtain ⟨u, r, rows, rfl, hR0, hu, hfit, hlen, q1, q2⟩ := h
    have hof : ∀ y ∈ rows, Of u y := fun y hy => (hfit y hy).1
    refine ⟨_, (pss_cons (ps_set (i := 2) sc_find.nd rfl (Or.inl rfl) (pe_call G_meeting (hr.mono (by decide)) rfl T.meeting.mg T.meeting.fn.kp T.meeting.bd .nil pass0 (pa_cons (pv 0) (pa_cons (pv 1) pa_nil))))
      (pss_cons (ps_if (pt_cmpR op_isN (pv 2) pe_non (nomark _))
      (pss_one (ps_ret (pe_tup (pa_cons pe_str (pa_cons (pe_call G_paper_against (hr.mono (by decide)) rfl T.paper_against.mg T.paper_against.fn.kp T.paper_against.bd .nil pass0 (pa_cons (pv 1) pa_nil)) pa_nil)))))
      pss_nil)
      (pss_one (ps_ret (pe_tup (pa_cons pe_str (pa_cons (pv 2) pa_nil))))))), ?_⟩
    rw [show L2.start N_find [V.int u, r] = [some (.int u), some r, none] from rfl]
    refine seq_gen fun R hR => ?_
    ((try walk_at "rd0"); (try simp only [sp_meeting]); (try walk_at "rd0"))
    refine ⟨rows, hR0, hu.1, hu.2, fun y hy => ⟨sides_of (by omega) (hof y hy), (hfit y hy).2.1⟩, hlen, fun v H1 e1 hv => hR _ _ ?_⟩
    clear hR
    cases hm : meetR u rows with
    | some bs =>
      rw [hm] at hv
      have hv : rFill.rel K H1 v bs := hv
      obtain ⟨va, vx, rfl, hV, pV⟩ := id hv
      refine seq_gen fun R hR => ?_
      (try walk_at "rd0")
      refine hR _ _ ?_
      clear hR
      (try walk_at "rd0")
      refine ⟨line_le (by simp), fun t ht => ?_⟩
      have e2 := Same.new (o := .tup [.str (Str.ofString "filling"), .ref va]) ht
      exact q1 _ _ _ bs hm (e1.trans e2) upd_same (rFill.mono e2 hv)
    | none =>
      rw [hm] at hv
      obtain rfl : v = .non := hv
      refine seq_gen fun R hR => ?_
      ((try walk_at "rd0"); (try simp only [sp_paper_against]); (try walk_at "rd0"))
      refine ⟨rows, rRows.mono e1 hR0, u, hu.1, hu.2, hfit, hlen, fun bs hb => meet_none ⟨hu.1, by omega⟩ hof hm bs hb, fun v2 H2 p e2 hp hrf => ?_⟩
      try (try walk_at "rd0")
      refine ⟨line_le (by simp), fun t ht => ?_⟩
      have e3 := Same.new (o := .tup [.str (Str.ofString "paper"), v2]) ht
      exact q2 _ _ _ p hm ((e1.trans e2).trans e3) upd_same (rPaper.mono e3 hp) hrf
end
end Cp
namespace Cp
open PySem L2
def sp_worth (K : PySem.W.Frag) : Sp := fun vs H Q _ => ∃ (t f : V) (ts : List (Int × Int)) (bs : List Bool), vs = [t, f] ∧ rTerms.rel K H t ts ∧ rFill.rel K H f bs ∧ InFill bs ts ∧ ts.length ≤ 1000 ∧ ∀ H', Same H H' → Q (.int (worth bs ts)) H'
section
seal L2.PSs L2.PS L2.PE L2.PT L2.PA L2.PG L2.PGs L2.PI L2.PW L2.PTs L2.OpR L2.UnR L2.CallR L2.IxR L2.SlR
variable {P : Program} {w : World} {K : PySem.W.Frag} {mg : Str → Option Value} {base : Heap}
theorem ok_worth (T : Tx K mg) : FnOk P w K mg base CX0 3 T.f_worth T.d_worth P_worth (sp_worth K) := by
  have G_met_weight := ok_met_weight (P := P) (w := w) (base := base) T
  refine T.worth.fn.ok sc_worth (fun vs H Q E h => ?_) (fun cdv A outer s H vs Q E hr h => ?_)
  · obtain ⟨t, f, ts, bs, rfl, _⟩ := h
    rfl
  · obtain ⟨t, f, ts, bs, rfl, h1, h2, h3, h4, q⟩ := h
    refine ⟨_, (pss_one (ps_ret (pe_call G_met_weight (hr.mono (by decide)) rfl T.met_weight.mg T.met_weight.fn.kp T.met_weight.bd .nil pass0 (pa_cons (pv 0) (pa_cons (pv 1) pa_nil))))), ?_⟩
    rw [show L2.start N_worth [t, f] = [some t, some f] from rfl]
    ((try walk_at "rd0"); (try simp only [sp_met_weight]); (try walk_at "rd0"))
    exact ⟨ts, h1, bs, h2, h3, h4, q⟩
end
end Cp
namespace Cp
open PySem L2
/-- the row of one more -/
def moreR (ts : List (Int × Int)) (bs : List Bool) : Row := (ts, worth bs ts + 1)
def sp_better (K : PySem.W.Frag) : Sp := fun vs H Q _ => ∃ (u : Int) (r t f : V) (rows : List Row) (ts : List (Int × Int)) (bs : List Bool), vs = [.int u, r, t, f] ∧ rRows.rel K H r rows ∧ rTerms.rel K H t ts ∧ rFill.rel K H f bs ∧ (0 ≤ u ∧ u ≤ 8) ∧ (bs.length : Int) = u ∧ Fit u (rows ++ [moreR ts bs]) ∧ rows.length ≤ 900 ∧
  (∀ t v H' cs, meetR u (rows ++ [moreR ts bs]) = some cs → Same H H' → H' t = some (.tup [.str (Str.ofString "filling"), v]) → rFill.rel K H' v cs → Q (.ref t) H') ∧
  (∀ t v H' p, meetR u (rows ++ [moreR ts bs]) = none → Same H H' → H' t = some (.tup [.str (Str.ofString "paper"), v]) → rPaper.rel K H' v (p.map Stp.key) → Refutes (rows ++ [moreR ts bs]) p → Q (.ref t) H')
section
seal L2.PSs L2.PS L2.PE L2.PT L2.PA L2.PG L2.PGs L2.PI L2.PW L2.PTs L2.OpR L2.UnR L2.CallR L2.IxR L2.SlR
variable {P : Program} {w : World} {K : PySem.W.Frag} {mg : Str → Option Value} {base : Heap}
theorem ok_better (T : Tx K mg) : FnOk P w K mg base CX0 20 T.f_better T.d_better P_better (sp_better K) := by
  have G_worth := ok_worth (P := P) (w := w) (base := base) T
  have G_find := ok_find (P := P) (w := w) (base := base) T
  refine T.better.fn.ok sc_better (fun vs H Q E h => ?_) (fun cdv A outer s H vs Q E hr h => ?_)
  · obtain ⟨u, r, t, f, rows, ts, bs, rfl, _⟩ := h
    rfl
  · obtain ⟨u, r, t, f, rows, ts, bs, rfl, ⟨ra, rx, rfl, hR0, pR⟩, ht, hf, hu, hbl, hfit, hlen, q1, q2⟩ := h
    obtain ⟨o1, o2, _⟩ := hfit (moreR ts bs) (by simp)
    have o2 : ts.length ≤ 1000 := o2
    have rl : rx.length = rows.length := pR.length
    refine ⟨_, (pss_one (ps_ret (pe_call G_find (hr.mono (by decide)) rfl T.find.mg T.find.fn.kp T.find.bd .nil pass0 (pa_cons (pv 0) (pa_cons (pe_op op_cat (pv 1) (pe_lst (pa_cons (pe_tup (pa_cons (pv 2) (pa_cons (pe_op op_add (pe_call G_worth (hr.mono (by decide)) rfl T.worth.mg T.worth.fn.kp T.worth.bd .nil pass0 (pa_cons (pv 2) (pa_cons (pv 3) pa_nil))) pe_int) pa_nil))) pa_nil))) pa_nil))))), ?_⟩
    rw [show L2.start N_better [V.int u, V.ref ra, t, f] = [some (.int u), some (.ref ra), some t, some f] from rfl]
    ((try walk_at "rd4"); (try simp only [sp_worth, sp_find]); (try walk_at "rd4"))
    refine ⟨ts, ht, bs, hf, inFill_of hbl o1, o2, fun H1 e1 => ⟨line_le (by simp), fun t1 ht1 => ⟨line_le (by simp), fun l1 hl1 => ?_⟩⟩⟩
    have e2 := Same.new (o := .tup [t, .int (worth bs ts + 1)]) ht1
    have e3 := Same.new (o := .lst [.ref t1]) hl1
    have e13 := (e1.trans e2).trans e3
    refine ⟨rx, e13 _ _ hR0, _, upd_same, line_le (by simp; omega), fun d hd => ?_⟩
    have e4 := Same.new (o := .lst (rx ++ [.ref t1])) hd
    have E := e13.trans e4
    refine ⟨rows ++ [moreR ts bs], ⟨d, _, rfl, upd_same, papp (Paired.mapP pR fun _ _ z => rRow.mono E z) (.cons ⟨t1, _, _, rfl, (e3.trans e4) _ _ upd_same, rTerms.mono E ht, rfl⟩ .nil)⟩, hu.1, hu.2, hfit, by rw [List.length_append]; simp; omega, fun t2 v H2 cs hm e5 h1 h2 => ?_, fun t2 v H2 p hm e5 h1 h2 h3 => ?_⟩
    · exact q1 _ _ _ cs hm (E.trans e5) h1 h2
    · exact q2 _ _ _ p hm (E.trans e5) h1 h2 h3
end
end Cp
namespace Cp
open PySem L2
def sp_best (K : PySem.W.Frag) : Sp := fun vs H Q _ => ∃ (u : Int) (r t : V) (rows : List Row) (ts : List (Int × Int)), vs = [.int u, r, t] ∧ rRows.rel K H r rows ∧ rTerms.rel K H t ts ∧ (0 ≤ u ∧ u ≤ 8) ∧ (∀ x ∈ rows, Of u x ∧ Sm 100000000 x) ∧ Of u (ts, 0) ∧ Sm 0 (ts, 0) ∧ rows.length ≤ 900 ∧
  (∀ t v H' p, Same H H' → H' t = some (.tup [.str (Str.ofString "none"), v]) → rPaper.rel K H' v (p.map Stp.key) → Refutes rows p → Q (.ref t) H') ∧
  (∀ t fv pv H' bs p, (bs.length : Int) = u → (∀ x ∈ rows, Hold bs x) → Same H H' → H' t = some (.tup [.str (Str.ofString "best"), fv, .int (worth bs ts), pv]) → rFill.rel K H' fv bs → rPaper.rel K H' pv (p.map Stp.key) → Refutes (rows ++ [moreR ts bs]) p → Q (.ref t) H')
theorem more_sm {ts : List (Int × Int)} {bs : List Bool} (h : Sm 0 (ts, 0)) : Sm 100000000 (moreR ts bs) := by
  refine ⟨h.wt, h.ln, ?_⟩
  have h1 := worth_abs bs h.wt
  have h2 := h.ln
  have h1 : -(1000000 * (ts.length : Int)) ≤ worth bs ts ∧ worth bs ts ≤ 1000000 * (ts.length : Int) := h1
  have h2 : ts.length ≤ 20 := h2
  show -100000000 ≤ worth bs ts + 1 ∧ worth bs ts + 1 ≤ 100000000
  omega
theorem fit_of {u : Int} {rows : List Row} (h : ∀ x ∈ rows, Of u x ∧ Sm 100000000 x) : Fit u rows := fun x hx => ⟨(h x hx).1, by have := (h x hx).2.ln; omega, big_tidy (h x hx).2 (by decide)⟩
theorem fit_more {u : Int} {rows : List Row} {ts : List (Int × Int)} {bs : List Bool} (h : ∀ x ∈ rows, Of u x ∧ Sm 100000000 x) (h1 : Of u (ts, 0)) (h2 : Sm 0 (ts, 0)) : ∀ x ∈ rows ++ [moreR ts bs], Of u x ∧ Sm 100000000 x := fun x hx => by
  rcases List.mem_append.mp hx with z | z
  · exact h x z
  · rw [List.mem_singleton.mp z]
    exact ⟨h1, more_sm h2⟩
section
seal L2.PSs L2.PS L2.PE L2.PT L2.PA L2.PG L2.PGs L2.PI L2.PW L2.PTs L2.OpR L2.UnR L2.CallR L2.IxR L2.SlR
variable {P : Program} {w : World} {K : PySem.W.Frag} {mg : Str → Option Value} {base : Heap}
theorem ok_best (T : Tx K mg) : FnOk P w K mg base CX0 21 T.f_best T.d_best P_best (sp_best K) := by
  have G_worth := ok_worth (P := P) (w := w) (base := base) T
  have G_find := ok_find (P := P) (w := w) (base := base) T
  have G_better := ok_better (P := P) (w := w) (base := base) T
  refine T.best.fn.ok sc_best (fun vs H Q E h => ?_) (fun cdv A outer s H vs Q E hr h => ?_)
  · obtain ⟨u, r, t, rows, ts, rfl, _⟩ := h
    rfl
  · obtain ⟨u, r, t, rows, ts, rfl, hR0, ht, hu, hrow, hot, hsm, hlen, q1, q2⟩ := h
    have hof : ∀ x ∈ rows, Of u x := fun x hx => (hrow x hx).1
    have hln : ts.length ≤ 20 := hsm.ln
    refine ⟨_, (pss_cons (ps_set (i := 3) sc_best.nd rfl (Or.inl rfl) (pe_call G_find (hr.mono (by decide)) rfl T.find.mg T.find.fn.kp T.find.bd .nil pass0 (pa_cons (pv 0) (pa_cons (pv 1) pa_nil))))
      (pss_cons (ps_if (pt_cmpR op_eq (pe_ix (ix_tupK (K := K) rfl) (pv 3) pe_int (fun _ _ => rfl)) pe_str (nomark _))
      (pss_one (ps_ret (pe_tup (pa_cons pe_str (pa_cons (pe_ix (ix_tupK (K := K) rfl) (pv 3) pe_int (fun _ _ => rfl)) pa_nil)))))
      pss_nil)
      (pss_cons (ps_set (i := 4) sc_best.nd rfl (Or.inl rfl) (pe_ix (ix_tupK (K := K) rfl) (pv 3) pe_int (fun _ _ => rfl)))
      (pss_cons (ps_set (i := 3) sc_best.nd rfl (Or.inl rfl) (pe_call G_better (hr.mono (by decide)) rfl T.better.mg T.better.fn.kp T.better.bd .nil pass0 (pa_cons (pv 0) (pa_cons (pv 1) (pa_cons (pv 2) (pa_cons (pv 4) pa_nil))))))
      (pss_cons (ps_while PassesOwn.never (pt_cmpR op_eq (pe_ix (ix_tupK (K := K) rfl) (pv 3) pe_int (fun _ _ => rfl)) pe_str (nomark _))
      (pss_cons (ps_set (i := 4) sc_best.nd rfl (Or.inl rfl) (pe_ix (ix_tupK (K := K) rfl) (pv 3) pe_int (fun _ _ => rfl)))
      (pss_one (ps_set (i := 3) sc_best.nd rfl (Or.inl rfl) (pe_call G_better (hr.mono (by decide)) rfl T.better.mg T.better.fn.kp T.better.bd .nil pass0 (pa_cons (pv 0) (pa_cons (pv 1) (pa_cons (pv 2) (pa_cons (pv 4) pa_nil)))))))))
      (pss_one (ps_ret (pe_tup (pa_cons pe_str (pa_cons (pv 4) (pa_cons (pe_call G_worth (hr.mono (by decide)) rfl T.worth.mg T.worth.fn.kp T.worth.bd .nil pass0 (pa_cons (pv 2) (pa_cons (pv 4) pa_nil))) (pa_cons (pe_ix (ix_tupK (K := K) rfl) (pv 3) pe_int (fun _ _ => rfl)) pa_nil)))))))))))), ?_⟩
    rw [show L2.start N_best [V.int u, r, t] = [some (.int u), some r, some t, none, none] from rfl]
    -- found
    refine seq_gen fun R hR => ?_
    ((try walk_at "rd0"); (try simp only [sp_find]); (try walk_at "rd0"))
    refine ⟨rows, hR0, hu.1, hu.2, fit_of hrow, by omega, fun tp v H1 bs hm e1 h1 h2 => hR _ _ ?_, fun tp v H1 p hm e1 h1 h2 h3 => hR _ _ ?_⟩
    case refine_2 =>
      clear hR
      refine seq_gen fun R hR => ?_
      (try walk_at "rd0")
      refine ⟨_, SqT.of h1, _, rfl, ?_⟩
      (try walk_at "rd15")
      refine ⟨_, SqT.of h1, _, rfl, line_le (by simp), fun t2 ht2 => ?_⟩
      have e2 := Same.new (o := .tup [.str (Str.ofString "none"), v]) ht2
      exact q1 _ _ _ p (e1.trans e2) upd_same (rPaper.mono e2 h2) h3
    clear hR
    obtain ⟨b1, b2⟩ := meet_some ⟨hu.1, by omega⟩ hof hm
    refine seq_gen fun R hR => ?_
    (try walk_at "rd0")
    refine ⟨_, SqT.of h1, _, rfl, ?_⟩
    (try walk_at "rd15")
    refine hR _ _ ?_
    clear hR
    -- filling
    refine seq_gen fun R hR => ?_
    (try walk_at "rd0")
    refine ⟨_, SqT.of h1, _, rfl, hR _ _ ?_⟩
    clear hR hm h1
    -- what is found: a filling of more worth, or a paper
    obtain ⟨Fd, eFd⟩ : ∃ Fd : Hp → V → List Bool → Prop, Fd = fun H2 w cs => ∃ tq v2, w = .ref tq ∧ ((∃ ds, meetR u (rows ++ [moreR ts cs]) = some ds ∧ H2 tq = some (.tup [.str (Str.ofString "filling"), v2]) ∧ rFill.rel K H2 v2 ds) ∨ (∃ p, H2 tq = some (.tup [.str (Str.ofString "paper"), v2]) ∧ rPaper.rel K H2 v2 (p.map Stp.key) ∧ Refutes (rows ++ [moreR ts cs]) p)) := ⟨_, rfl⟩
    refine seq_gen fun R hR => ?_
    ((try walk_at "rd0"); (try simp only [sp_better]); (try walk_at "rd0"))
    refine ⟨rows, rRows.mono e1 hR0, ts, rTerms.mono e1 ht, bs, h2, hu.1, hu.2, b1, fit_of (fit_more hrow hot hsm), hlen, ?_⟩
    suffices key : ∀ (w : V) (H2 : Hp), Same H1 H2 → Fd H2 w bs → R [some (.int u), some r, some t, some w, some v] H2 by
      refine ⟨fun tq v2 H2 ds hm e2 g1 g2 => key _ _ e2 ?_, fun tq v2 H2 p hm e2 g1 g2 g3 => key _ _ e2 ?_⟩
      · rw [eFd]
        exact ⟨tq, v2, rfl, .inl ⟨ds, hm, g1, g2⟩⟩
      · rw [eFd]
        exact ⟨tq, v2, rfl, .inr ⟨p, g1, g2, g3⟩⟩
    intro w2 H2 e2 hfd
    refine hR _ _ ?_
    clear hR
    -- while
    refine seq_gen fun R hR => ?_
    refine ⟨fun m σ H3 => ∃ (fv w3 : V) (cs : List Bool), σ = [some (.int u), some r, some t, some w3, some fv] ∧ Same H H3 ∧ rFill.rel K H3 fv cs ∧ (cs.length : Int) = u ∧ (∀ x ∈ rows, Hold cs x) ∧ Fd H3 w3 cs ∧ m = (100000000 - worth cs ts).toNat, ⟨_, v, w2, bs, rfl, e1.trans e2, rFill.mono e2 h2, b1, b2, hfd, rfl⟩, ?_⟩
    rintro m σ H3 ⟨fv, w3, cs, rfl, e3, hfv, c1, c2, hfd3, rfl⟩
    have hFd := hfd3
    rw [eFd] at hFd
    obtain ⟨tq, v2, rfl, hF⟩ := hFd
    rcases hF with ⟨ds, hm, g1, g2⟩ | ⟨p, g1, g2, g3⟩
    · (try walk_at "rd0")
      refine ⟨_, SqT.of g1, _, rfl, ?_⟩
      (try walk_at "rd15")
      obtain ⟨d1, d2⟩ := meet_some ⟨hu.1, by omega⟩ (fun x hx => (fit_more hrow hot hsm x hx).1) hm
      have d3 : worth cs ts + 1 ≤ worth ds ts := d2 (moreR ts cs) (by simp)
      have d4 : ∀ x ∈ rows, Hold ds x := fun x hx => d2 x (List.mem_append_left _ hx)
      refine ⟨fun σ' H' => ∃ (fv w3 : V) (xs : List Bool), σ' = [some (.int u), some r, some t, some w3, some fv] ∧ Same H H' ∧ rFill.rel K H' fv xs ∧ (xs.length : Int) = u ∧ (∀ x ∈ rows, Hold xs x) ∧ Fd H' w3 xs ∧ worth cs ts < worth xs ts, ?_, _, SqT.of g1, _, rfl, ?_⟩
      · rintro σ' H' ⟨fv', w', xs, rfl, a1, a2, a3, a4, a5, a6⟩
        refine ⟨_, ?_, fv', w', rfl, a1, xs, a2, a3, a4, a5, rfl⟩
        have h1 := worth_abs xs hsm.wt
        have h1 : -(1000000 * (ts.length : Int)) ≤ worth xs ts ∧ worth xs ts ≤ 1000000 * (ts.length : Int) := h1
        omega
      · ((try walk_at "rd0"); (try simp only [sp_better]); (try walk_at "rd0"))
        refine ⟨rows, rRows.mono e3 hR0, ts, rTerms.mono e3 ht, ds, g2, hu.1, hu.2, d1, fit_of (fit_more hrow hot hsm), hlen, fun tq2 v3 H4 xs hm4 e4 k1 k2 => ⟨e3.trans e4, ds, rFill.mono e4 g2, d1, d4, ?_, by omega⟩, fun tq2 v3 H4 p hm4 e4 k1 k2 k3 => ⟨e3.trans e4, ds, rFill.mono e4 g2, d1, d4, ?_, by omega⟩⟩
        · rw [eFd]
          exact ⟨tq2, v3, rfl, .inl ⟨xs, hm4, k1, k2⟩⟩
        · rw [eFd]
          exact ⟨tq2, v3, rfl, .inr ⟨p, k1, k2, k3⟩⟩
    · (try walk_at "rd0")
      refine ⟨_, SqT.of g1, _, rfl, ?_⟩
      (try walk_at "rd15")
      refine hR _ _ ?_
      ((try walk_at "rd0"); (try simp only [sp_worth]); (try walk_at "rd0"))
      refine ⟨ts, rTerms.mono e3 ht, cs, hfv, inFill_of c1 hot, by omega, fun H4 e4 => ⟨_, SqT.of (e4 _ _ g1), _, rfl, line_le (by simp), fun t2 ht2 => ?_⟩⟩
      have e5 := Same.new (o := .tup [.str (Str.ofString "best"), fv, .int (worth cs ts), v2]) ht2
      exact q2 _ _ _ _ cs p c1 c2 ((e3.trans e4).trans e5) upd_same (rFill.mono (e4.trans e5) hfv) (rPaper.mono (e4.trans e5) g2) g3
end
end Cp
namespace Cp
open PySem L2
def sp_law_cell_at (K : PySem.W.Frag) : Sp := fun vs H Q _ => ∃ (a : Addr) (ns : List Int) (k : Int), vs = [.ref a, .int k] ∧ SqL K H a (ns.map V.int) ∧ 0 ≤ k ∧ Q (.int (ns.getD k.toNat 0)) H
section
seal L2.PSs L2.PS L2.PE L2.PT L2.PA L2.PG L2.PGs L2.PI L2.PW L2.PTs L2.OpR L2.UnR L2.CallR L2.IxR L2.SlR
variable {P : Program} {w : World} {K : PySem.W.Frag} {mg : Str → Option Value} {base : Heap}
theorem ok_law_cell_at (T : Tx K mg) : FnOk P w K mg base CX0 1 T.f_law_cell_at T.d_law_cell_at P_law_cell_at (sp_law_cell_at K) := by
  refine T.law_cell_at.fn.ok sc_law_cell_at (fun vs H Q E h => ?_) (fun cdv A outer s H vs Q E hr h => ?_)
  · obtain ⟨a, ns, k, rfl, _⟩ := h
    rfl
  · obtain ⟨a, ns, k, rfl, hS, h0, q⟩ := h
    refine ⟨_, (pss_cons (ps_if (pt_cmpR op_lt (pv 1) (pe_callB (len_seqK (K := K) rfl) (by rfl) T.b_len bb_len (pa_cons (pv 0) pa_nil)) (nomark _))
      (pss_one (ps_ret (pe_ix (ix_listK (K := K) rfl) (pv 0) (pv 1) (fun _ _ => rfl))))
      pss_nil)
      (pss_one (ps_ret pe_int))), ?_⟩
    rw [show L2.start N_law_cell_at [V.ref a, V.int k] = [some (.ref a), some (.int k)] from rfl]
    try (try walk_at "rd0")
    refine ⟨ns.map V.int, .inl hS, ?_⟩
    refine ite2 (fun hc => ?_) (fun hc => ?_)
    · simp only [List.length_map] at hc
      refine ⟨ns.map V.int, hS, _, atI_of h0 (by rw [List.getElem?_map, List.getElem?_eq_getElem (by omega)]; rfl), ?_⟩
      rw [List.getD_eq_getElem?_getD, List.getElem?_eq_getElem (by omega)] at q
      exact q
    · simp only [List.length_map] at hc
      rw [List.getD_eq_getElem?_getD, List.getElem?_eq_none (by omega)] at q
      exact q
end
end Cp
namespace Cp
open PySem L2
def sp_law_whole : Sp := fun vs H Q _ => ∃ (i : Int), vs = [.int i] ∧ Q (.bl true) H
section
seal L2.PSs L2.PS L2.PE L2.PT L2.PA L2.PG L2.PGs L2.PI L2.PW L2.PTs L2.OpR L2.UnR L2.CallR L2.IxR L2.SlR
variable {P : Program} {w : World} {K : PySem.W.Frag} {mg : Str → Option Value} {base : Heap}
theorem ok_law_whole (T : Tx K mg) : FnOk P w K mg base CX0 1 T.f_law_whole T.d_law_whole P_law_whole sp_law_whole := by
  refine T.law_whole.fn.ok sc_law_whole (fun vs H Q E h => ?_) (fun cdv A outer s H vs Q E hr h => ?_)
  · obtain ⟨i, rfl, _⟩ := h
    rfl
  · obtain ⟨i, rfl, q⟩ := h
    refine ⟨_, (pss_one (ps_ret (pe_and (pe_callB (isinstK (K := K) rfl) (by rfl) T.b_isinstance bb_isinstance (pa_cons (pv 0) (pa_cons (pe_bltn (v := .ty "int") rfl T.b_int bb_int rfl) pa_nil))) (pe_one (pe_not (pe_callB (isinstK (K := K) rfl) (by rfl) T.b_isinstance bb_isinstance (pa_cons (pv 0) (pa_cons (pe_bltn (v := .ty "bool") rfl T.b_bool bb_bool rfl) pa_nil)))))))), ?_⟩
    rw [show L2.start N_law_whole [V.int i] = [some (.int i)] from rfl]
    try (try walk_at "rd0")
    refine ⟨_, TyOf.int _, true, kit_ii, ?_⟩
    try (try walk_at "rd0")
    refine ⟨_, TyOf.int _, false, kit_ib, ?_⟩
    try (try walk_at "rd0")
    exact q
end
end Cp
namespace Cp
open PySem L2
def sp_law_mixed : Sp := fun vs H Q _ => ∃ (c k : Int), vs = [.int c, .int k] ∧ 0 ≤ k ∧ k < 1000 ∧ Q (.int (mixF c k.toNat)) H
section
seal L2.PSs L2.PS L2.PE L2.PT L2.PA L2.PG L2.PGs L2.PI L2.PW L2.PTs L2.OpR L2.UnR L2.CallR L2.IxR L2.SlR
variable {P : Program} {w : World} {K : PySem.W.Frag} {mg : Str → Option Value} {base : Heap}
theorem ok_law_mixed (T : Tx K mg) : FnOk P w K mg base CX0 1 T.f_law_mixed T.d_law_mixed P_law_mixed sp_law_mixed := by
  refine T.law_mixed.fn.ok sc_law_mixed (fun vs H Q E h => ?_) (fun cdv A outer s H vs Q E hr h => ?_)
  · obtain ⟨c, k, rfl, _⟩ := h
    rfl
  · obtain ⟨c, k, rfl, h0, h1, q⟩ := h
    refine ⟨_, (pss_cons (ps_set (i := 2) sc_law_mixed.nd rfl (Or.inl rfl) (pe_op op_add (pe_op op_mod (pv 0) pe_int) pe_int))
      (pss_cons (ps_for PassesOwn.never rfl (pi_range1 rfl T.b_range (pa_cons (pe_op op_add (pv 1) pe_int) pa_nil)) (pg_name (i := 3) sc_law_mixed.nd rfl (Or.inl rfl))
      (pss_one (ps_set (i := 2) sc_law_mixed.nd rfl (Or.inl rfl) (pe_op op_mod (pe_op op_mul (pv 2) pe_int) pe_int))))
      (pss_one (ps_ret (pv 2))))), ?_⟩
    rw [show L2.start N_law_mixed [V.int c, V.int k] = [some (.int c), some (.int k), none, none] from rfl]
    refine seq_gen fun R hR => ?_
    try (try walk_at "rd0")
    refine ⟨by decide, hR _ _ ?_⟩
    refine seq_gen fun R hR => for_r1 fun R1 hR1 => ?_
    try (try walk_at "rd0")
    refine hR1 _ _ (by omega) (by omega) (loop_range (fun i σ H2 => ∃ (v : Option V), σ = [some (.int c), some (.int k), some (.int (mixN i (c % 2147483646 + 1))), v] ∧ H2 = H) ?_ ?_ ?_)
    · exact ⟨none, rfl, rfl⟩
    · rintro i σ H2 N hi ⟨v, rfl, rfl⟩ hN
      try (try walk_at "rd0")
      exact ⟨.inr ⟨by decide, by decide⟩, by decide, hN _ _ ⟨_, rfl, rfl⟩⟩
    · rintro σ H2 ⟨v, rfl, rfl⟩
      refine hR _ _ ?_
      try (try walk_at "rd0")
      have e : (k + 2).toNat = k.toNat + 2 := by omega
      rw [e]
      exact q
end
end Cp
namespace Cp
open PySem L2
def sp_law_row_by (K : PySem.W.Frag) : Sp := fun vs H Q _ => ∃ (c u z : Int), vs = [.int c, .int u, .int z] ∧ 1 ≤ u ∧ u ≤ 16 ∧ 1 ≤ z ∧ z ≤ 100 ∧ New rRow K H (rowBy c u z) Q
section
seal L2.PSs L2.PS L2.PE L2.PT L2.PA L2.PG L2.PGs L2.PI L2.PW L2.PTs L2.OpR L2.UnR L2.CallR L2.IxR L2.SlR
variable {P : Program} {w : World} {K : PySem.W.Frag} {mg : Str → Option Value} {base : Heap}
theorem ok_law_row_by (T : Tx K mg) : FnOk P w K mg base CX0 2 T.f_law_row_by T.d_law_row_by P_law_row_by (sp_law_row_by K) := by
  have G_law_mixed := ok_law_mixed (P := P) (w := w) (base := base) T
  refine T.law_row_by.fn.ok sc_law_row_by (fun vs H Q E h => ?_) (fun cdv A outer s H vs Q E hr h => ?_)
  · obtain ⟨c, u, z, rfl, _⟩ := h
    rfl
  · obtain ⟨c, u, z, rfl, u0, u1, z0, z1, q⟩ := h
    refine ⟨_, (pss_cons (ps_set (i := 3) sc_law_row_by.nd rfl (Or.inl rfl) (pe_cmpR op_eq (pe_op op_mod (pe_op op_fdivB (pv 0) pe_int) pe_int) pe_int (nomark _)))
      (pss_cons (ps_set (i := 4) sc_law_row_by.nd rfl (Or.inl rfl) (pe_lst pa_nil))
      (pss_cons (ps_for PassesOwn.never rfl (pi_range1 rfl T.b_range (pa_cons (pe_op op_mod (pv 0) (pv 2)) pa_nil)) (pg_name (i := 5) sc_law_row_by.nd rfl (Or.inl rfl))
      (pss_cons (ps_set (i := 6) sc_law_row_by.nd rfl (Or.inl rfl) (pe_call G_law_mixed (hr.mono (by decide)) rfl T.law_mixed.mg T.law_mixed.fn.kp T.law_mixed.bd .nil pass0 (pa_cons (pv 0) (pa_cons (pv 5) pa_nil))))
      (pss_cons (ps_set (i := 7) sc_law_row_by.nd rfl (Or.inl rfl) (pe_op op_sub (pe_op op_mod (pe_op op_fdivB (pv 6) pe_int) pe_int) pe_int))
      (pss_cons (ps_if (pt_val (pv 3))
      (pss_one (ps_set (i := 7) sc_law_row_by.nd rfl (Or.inl rfl) (pe_op op_sub (pe_op op_mod (pe_op op_fdivB (pv 6) pe_int) pe_int) pe_int)))
      pss_nil)
      (pss_one (ps_expr (pe_bm PySem.F.plainAttrs_list PySem.F.slot_list_append PySem.F.type_list_append mt_append (pv 4) (pa_cons (pe_tup (pa_cons (pv 7) (pa_cons (pe_op op_mod (pv 6) (pe_op op_mul pe_int (pv 1))) pa_nil))) pa_nil))))))))
      (pss_cons (ps_set (i := 8) sc_law_row_by.nd rfl (Or.inl rfl) (pe_op op_sub (pe_op op_mod (pe_op op_fdivB (pe_call G_law_mixed (hr.mono (by decide)) rfl T.law_mixed.mg T.law_mixed.fn.kp T.law_mixed.bd .nil pass0 (pa_cons (pv 0) (pa_cons pe_int pa_nil))) pe_int) pe_int) pe_int))
      (pss_cons (ps_if (pt_val (pv 3))
      (pss_one (ps_set (i := 8) sc_law_row_by.nd rfl (Or.inl rfl) (pe_op op_sub (pe_op op_mod (pe_op op_fdivB (pe_call G_law_mixed (hr.mono (by decide)) rfl T.law_mixed.mg T.law_mixed.fn.kp T.law_mixed.bd .nil pass0 (pa_cons (pv 0) (pa_cons pe_int pa_nil))) pe_int) pe_int) pe_int)))
      pss_nil)
      (pss_one (ps_ret (pe_tup (pa_cons (pv 4) (pa_cons (pv 8) pa_nil)))))))))), ?_⟩
    rw [show L2.start N_law_row_by [V.int c, V.int u, V.int z] = [some (.int c), some (.int u), some (.int z), none, none, none, none, none, none] from rfl]
    -- great
    refine seq_gen fun R hR => ?_
    try (try walk_at "rd0")
    refine ⟨⟨by decide, by decide⟩, by decide, hR _ _ ?_⟩
    clear hR
    generalize hgd : decide (c / 35 % 8 = 3) = g at *
    -- terms
    refine seq_gen fun R hR => ?_
    try (try walk_at "rd0")
    refine ⟨Nat.zero_le _, fun p hp => hR _ _ ?_⟩
    clear hR
    -- the loop
    refine seq_gen fun R hR => for_r1 fun R1 hR1 => ?_
    try (try walk_at "rd0")
    have m0 := Int.emod_nonneg c (show z ≠ 0 by omega)
    have m1 := Int.emod_lt_of_pos c (show 0 < z by omega)
    refine ⟨by omega, hR1 _ _ (by omega) (by omega) (loop_range (fun i σ H2 => ∃ (v5 v6 v7 : Option V) (xs : List V),
      σ = [some (.int c), some (.int u), some (.int z), some (.bl g), some (.ref p), v5, v6, v7, none] ∧ Same H H2 ∧ TmAt K H2 p xs ((List.range i).map (termBy c u))) ?_ ?_ ?_)⟩
    · exact ⟨none, none, none, [], rfl, Same.new hp, TmAt.nil⟩
    · rintro i σ H2 N hi ⟨v5, v6, v7, xs, rfl, s2, mk⟩ hN
      have hi : i < (c % z).toNat := hi
      change tSeq _ _ _ _ _
      refine seq_gen fun R hR => ?_
      ((try walk_at "rd0"); (try simp only [sp_law_mixed]); (try walk_at "rd0"))
      refine ⟨by omega, by omega, hR _ _ ?_⟩
      clear hR
      rw [show ((0 : Int) + (i : Int)).toNat = i by omega]
      refine seq_gen fun R hR => ?_
      try (try walk_at "rd0")
      refine ⟨⟨by decide, by decide⟩, by decide, hR _ _ ?_⟩
      clear hR
      refine seq_gen fun R hR => ?_
      suffices key : R [some (.int c), some (.int u), some (.int z), some (.bl g), some (.ref p), some (.int (0 + (i : Int))), some (.int (mixF c i)), some (.int (wtBy g (mixF c i))), none] H2 by
        try (try walk_at "rd0")
        unfold wtBy at key
        refine ite2 (fun hc => ⟨⟨by decide, by decide⟩, by decide, ?_⟩) (fun hc => ?_)
        · rw [if_pos hc] at key
          exact key
        · rw [if_neg hc] at key
          exact key
      refine hR _ _ ?_
      clear hR
      try (try walk_at "rd0")
      refine ⟨⟨xs, SqL.of mk.at_⟩, .inl ⟨by decide, by decide⟩, by omega, line_le (by simp), fun t ht => ?_⟩
      refine ⟨xs, push_at mk.at_ ht, ?_, hN _ _ ⟨_, _, _, xs ++ [.ref t], rfl, (s2.trans (Same.new ht)).upd_new hp, ?_⟩⟩
      · have := mk.len
        rw [List.length_map, List.length_range] at this
        exact small1000 (by omega)
      · rw [List.range_succ, List.map_append]
        have := mk.snoc (x := wtBy g (mixF c i)) (y := mixF c i % (2 * u)) ht
        unfold termBy at this ⊢
        rw [hgd] at this ⊢
        exact this
    rintro σ H2 ⟨v5, v6, v7, xs, rfl, s2, mk⟩
    refine hR _ _ ?_
    clear hR hR1
    -- least
    refine seq_gen fun R hR => ?_
    ((try walk_at "rd0"); (try simp only [sp_law_mixed]); (try walk_at "rd0"))
    refine ⟨by decide, by decide, ⟨by decide, by decide⟩, by decide, hR _ _ ?_⟩
    clear hR
    refine seq_gen fun R hR => ?_
    suffices key : R [some (.int c), some (.int u), some (.int z), some (.bl g), some (.ref p), v5, v6, v7, some (.int (leastBy c))] H2 by
      ((try walk_at "rd0"); (try simp only [sp_law_mixed]); (try walk_at "rd0"))
      unfold leastBy at key
      rw [hgd] at key
      refine ite2 (fun hc => ⟨by decide, by decide, ⟨by decide, by decide⟩, by decide, ?_⟩) (fun hc => ?_)
      · rw [if_pos hc] at key
        exact key
      · rw [if_neg hc] at key
        exact key
    refine hR _ _ ?_
    clear hR
    try (try walk_at "rd0")
    refine ⟨line_le (by simp), fun q1 hq1 => ?_⟩
    have e1 : Same H2 (upd H2 q1 (.tup [.ref p, .int (leastBy c)])) := Same.new hq1
    exact q _ _ (s2.trans e1) (newRow (s2.trans e1) hp ⟨upd_same, mk.mono e1⟩)
end
end Cp
namespace Cp
open PySem L2
def rowsBy (ns : List Int) (b n u : Int) : List Row := ((List.range n.toNat).map fun i : Nat => (0 : Int) + i).map fun k => rowBy (ns.getD (b + k).toNat 0) u 5
theorem rowsBy_len (ns : List Int) (b n u : Int) : (rowsBy ns b n u).length = n.toNat := by
  unfold rowsBy
  rw [List.length_map, List.length_map, List.length_range]
def sp_law_rows_by (K : PySem.W.Frag) : Sp := fun vs H Q _ => ∃ (a : Addr) (ns : List Int) (b n u : Int), vs = [.ref a, .int b, .int n, .int u] ∧ SqL K H a (ns.map V.int) ∧ 0 ≤ b ∧ 0 ≤ n ∧ n ≤ 100 ∧ 1 ≤ u ∧ u ≤ 16 ∧ New rRows K H (rowsBy ns b n u) Q
section
seal L2.PSs L2.PS L2.PE L2.PT L2.PA L2.PG L2.PGs L2.PI L2.PW L2.PTs L2.OpR L2.UnR L2.CallR L2.IxR L2.SlR
variable {P : Program} {w : World} {K : PySem.W.Frag} {mg : Str → Option Value} {base : Heap}
theorem ok_law_rows_by (T : Tx K mg) : FnOk P w K mg base CX0 3 T.f_law_rows_by T.d_law_rows_by P_law_rows_by (sp_law_rows_by K) := by
  have G_law_cell_at := ok_law_cell_at (P := P) (w := w) (base := base) T
  have G_law_row_by := ok_law_row_by (P := P) (w := w) (base := base) T
  refine T.law_rows_by.fn.ok sc_law_rows_by (fun vs H Q E h => ?_) (fun cdv A outer s H vs Q E hr h => ?_)
  · obtain ⟨a, ns, b, n, u, rfl, _⟩ := h
    rfl
  · obtain ⟨a, ns, b, n, u, rfl, hS, b0, n0, n1, u0, u1, q⟩ := h
    refine ⟨_, (pss_one (ps_ret (pe_comp rfl (compOk_of (sc := defScope s_law_rows_by) (N := N_law_rows_by) (Nc := ["k", "unknowns", "script", "start"]) (im := [none, some 3, some 0, some 1]) rfl rfl (by decide +kernel)) (pi_range1 rfl T.b_range (pa_cons (pv 2) pa_nil)) (by intro cl C fp s1 H1; exact ⟨(pg_name (i := 0) (by decide +kernel : List.Nodup (["k", "unknowns", "script", "start"] : List Str)) rfl (Or.inl rfl) (Or.inr rfl)), pts_nil, (pe_call G_law_row_by (hr.mono (by decide)) rfl T.law_row_by.mg T.law_row_by.fn.kp T.law_row_by.bd .nil pass0 (pa_cons (pe_call G_law_cell_at (hr.mono (by decide)) rfl T.law_cell_at.mg T.law_cell_at.fn.kp T.law_cell_at.bd .nil pass0 (pa_cons (pv 2) (pa_cons (pe_op op_add (pv 3) (pv 0)) pa_nil))) (pa_cons (pv 1) (pa_cons pe_int pa_nil))))⟩)))), ?_⟩
    rw [show L2.start N_law_rows_by [V.ref a, V.int b, V.int n, V.int u] = [some (.ref a), some (.int b), some (.int n), some (.int u)] from rfl]
    (try walk_at "rd0")
    refine comp_r1 fun R1 hR1 => ?_
    (try walk_at "rd0")
    refine hR1 _ _ (by omega) (by omega) fun acc hacc => compR (K := K) rRow (fun _ => true) (fun k => rowBy (ns.getD (b + k).toNat 0) u 5) (fun σ => ∃ v, σ = [v, some (.int u), some (.ref a), some (.int b)]) (by omega) hacc ⟨none, rfl⟩ ?_ ?_
    · rintro i σ H2 hi e ⟨v, rfl⟩ C hC
      (try walk_at "rd0")
      refine hC _ _ _ rfl (Same.refl _) ⟨_, rfl⟩ fun _ D hD => ?_
      ((try walk_at "rd0"); (try simp only [sp_law_cell_at, sp_law_row_by]); (try walk_at "rd0"))
      exact ⟨ns, e.seq hS, by omega, u0, u1, by decide, by decide, fun v H3 e3 hv => hD _ _ e3 hv⟩
    intro H1 e1 h1
    rw [filter_all] at h1
    exact q _ _ e1 h1
end
end Cp
namespace Cp
open PySem L2
def sp_law_worth (K : PySem.W.Frag) : Sp := fun vs H Q _ => ∃ (t f : V) (ts : List (Int × Int)) (bs : List Bool), vs = [t, f] ∧ rTerms.rel K H t ts ∧ rFill.rel K H f bs ∧ InFill bs ts ∧ Q (.int (worth bs ts)) H
section
seal L2.PSs L2.PS L2.PE L2.PT L2.PA L2.PG L2.PGs L2.PI L2.PW L2.PTs L2.OpR L2.UnR L2.CallR L2.IxR L2.SlR
variable {P : Program} {w : World} {K : PySem.W.Frag} {mg : Str → Option Value} {base : Heap}
theorem ok_law_worth (T : Tx K mg) : FnOk P w K mg base CX0 1 T.f_law_worth T.d_law_worth P_law_worth (sp_law_worth K) := by
  refine T.law_worth.fn.ok sc_law_worth (fun vs H Q E h => ?_) (fun cdv A outer s H vs Q E hr h => ?_)
  · obtain ⟨t, f, ts, bs, rfl, _⟩ := h
    rfl
  · obtain ⟨t, f, ts, bs, rfl, ⟨a, xs, rfl, hS, hp⟩, ⟨b, ys, rfl, hS2, hp2⟩, hin, q⟩ := h
    refine ⟨_, (pss_cons (ps_set (i := 2) sc_law_worth.nd rfl (Or.inl rfl) pe_int)
      (pss_cons (ps_for PassesOwn.never rfl (pi_listK (K := K) rfl (pv 0)) (pg_tupK (K := K) (n := 2) rfl rfl (pgs_cons (pg_name (i := 3) sc_law_worth.nd rfl (Or.inl rfl)) (pgs_cons (pg_name (i := 4) sc_law_worth.nd rfl (Or.inl rfl)) pgs_nil)) rfl rfl)
      (pss_one (ps_if (pt_cmpR op_eq (pe_ix (ix_listK (K := K) rfl) (pv 1) (pe_op op_fdivB (pv 4) pe_int) (fun _ _ => rfl)) (pe_cmpR op_eq (pe_op op_mod (pv 4) pe_int) pe_int (nomark _)) (nomark _))
      (pss_one (ps_set (i := 2) sc_law_worth.nd rfl (Or.inl rfl) (pe_op op_add (pv 2) (pv 3))))
      pss_nil)))
      (pss_one (ps_ret (pv 2))))), ?_⟩
    rw [show L2.start N_law_worth [V.ref a, V.ref b] = [some (.ref a), some (.ref b), none, none, none] from rfl]
    refine seq_gen fun R hR => ?_
    try (try walk_at "rd0")
    refine hR _ _ ?_
    refine seq_gen fun R hR => for_l fun R1 hR1 => ?_
    try (try walk_at "rd0")
    refine hR1 _ _ _ (SqL.of hS) (loop_list (xs := xs) (fun i σ H2 => ∃ (u v : Option V), σ = [some (.ref a), some (.ref b), some (.int (worth bs (ts.take i))), u, v] ∧ H2 = H) ?_ ?_ ?_ ?_)
    · exact ⟨none, none, rfl, rfl⟩
    · rintro i σ H2 _ ⟨u, v, rfl, rfl⟩
      exact SqL.of hS
    · rintro i x σ H2 N hx ⟨u, v, rfl, rfl⟩ hN
      obtain ⟨⟨wt, sd⟩, ht, p, x1, x2, rfl, hT, h1, h2⟩ := pgetL hp hx
      obtain rfl : x1 = .int wt := h1
      obtain rfl : x2 = .int sd := h2
      obtain ⟨i0, i1⟩ := hin _ (List.mem_of_getElem? ht)
      try (try walk_at "rd0")
      obtain ⟨v2, e1, c, e2, rfl⟩ := atI_pair hp2 (i := sd / 2) (by have := i0; show 0 ≤ sd / 2; omega) i1
      refine ⟨[.int wt, .int sd], SqT.of hT, rfl, ?_⟩
      try (try walk_at "rd0")
      refine ⟨⟨by decide, by decide⟩, ys, SqL.of hS2, _, e1, by decide, rfl, ?_⟩
      try (try walk_at "rd0")
      have em : met bs sd = decide (c = decide (sd % 2 = 0)) := by
        unfold met
        rw [List.getD_eq_getElem?_getD, e2]
        rfl
      have es := worth_snoc bs (ts.take i) (wt, sd)
      rw [← take_snoc ht, em] at es
      refine ite2 (fun hc => hN _ _ ⟨some (.int wt), some (.int sd), ?_, rfl⟩) (fun hc => hN _ _ ⟨some (.int wt), some (.int sd), ?_, rfl⟩)
      · rw [es, if_pos (decide_eq_true hc)]
      · rw [es, if_neg (by simpa using hc), Int.add_zero]
    · rintro σ H2 ⟨u, v, rfl, rfl⟩
      refine hR _ _ ?_
      try (try walk_at "rd0")
      have el : xs.length = ts.length := hp.length
      rw [el, List.take_length]
      exact q
end
end Cp
namespace Cp
open PySem L2
def sp_law_holds (K : PySem.W.Frag) : Sp := fun vs H Q _ => ∃ (r f : V) (row : List (Int × Int) × Int) (bs : List Bool), vs = [r, f] ∧ rRow.rel K H r row ∧ rFill.rel K H f bs ∧ InFill bs row.1 ∧ Q (.bl (decide (row.2 ≤ worth bs row.1))) H
section
seal L2.PSs L2.PS L2.PE L2.PT L2.PA L2.PG L2.PGs L2.PI L2.PW L2.PTs L2.OpR L2.UnR L2.CallR L2.IxR L2.SlR
variable {P : Program} {w : World} {K : PySem.W.Frag} {mg : Str → Option Value} {base : Heap}
theorem ok_law_holds (T : Tx K mg) : FnOk P w K mg base CX0 2 T.f_law_holds T.d_law_holds P_law_holds (sp_law_holds K) := by
  have G_law_worth := ok_law_worth (P := P) (w := w) (base := base) T
  refine T.law_holds.fn.ok sc_law_holds (fun vs H Q E h => ?_) (fun cdv A outer s H vs Q E hr h => ?_)
  · obtain ⟨r, f, row, bs, rfl, _⟩ := h
    rfl
  · obtain ⟨r, f, ⟨ts, l⟩, bs, rfl, ⟨p, x, y, rfl, hT, h1, h2⟩, hf, hin, q⟩ := h
    obtain rfl : y = .int l := h2
    refine ⟨_, (pss_one (ps_ret (pe_cmpR op_ge (pe_call G_law_worth (hr.mono (by decide)) rfl T.law_worth.mg T.law_worth.fn.kp T.law_worth.bd .nil pass0 (pa_cons (pe_ix (ix_tupK (K := K) rfl) (pv 0) pe_int (fun _ _ => rfl)) (pa_cons (pv 1) pa_nil))) (pe_ix (ix_tupK (K := K) rfl) (pv 0) pe_int (fun _ _ => rfl)) (nomark _)))), ?_⟩
    rw [show L2.start N_law_holds [V.ref p, f] = [some (.ref p), some f] from rfl]
    ((try walk_at "rd0"); (try simp only [sp_law_worth]); (try walk_at "rd0"))
    refine ⟨[x, .int l], SqT.of hT, x, rfl, ts, h1, bs, hf, hin, [x, .int l], SqT.of hT, _, rfl, _, rfl, q⟩
end
end Cp
namespace Cp
open PySem L2
def sp_law_tidy (K : PySem.W.Frag) : Sp := fun vs H Q _ => ∃ (r : V) (row : Row), vs = [r] ∧ rRow.rel K H r row ∧ Sides row.1 ∧ row.1.length ≤ 1000 ∧ New rRow K H (tidyR row) Q
section
seal L2.PSs L2.PS L2.PE L2.PT L2.PA L2.PG L2.PGs L2.PI L2.PW L2.PTs L2.OpR L2.UnR L2.CallR L2.IxR L2.SlR
variable {P : Program} {w : World} {K : PySem.W.Frag} {mg : Str → Option Value} {base : Heap}
theorem ok_law_tidy (T : Tx K mg) : FnOk P w K mg base CX0 2 T.f_law_tidy T.d_law_tidy P_law_tidy (sp_law_tidy K) := by
  refine T.law_tidy.fn.ok sc_law_tidy (fun vs H Q E h => ?_) (fun cdv A outer s H vs Q E hr h => ?_)
  · obtain ⟨r, row, rfl, _⟩ := h
    rfl
  · obtain ⟨r, ⟨ts, l⟩, rfl, hrow, hsd, hsz, q⟩ := h
    obtain ⟨p, b, zs, rfl, hRw⟩ := rowAt hrow
    have hsz : ts.length ≤ 1000 := hsz
    have hsd : Sides ts := hsd
    refine ⟨_, (pss_cons (ps_set (i := 1) sc_law_tidy.nd rfl (Or.inl rfl) pe_dnewK)
      (pss_cons (ps_for PassesOwn.never rfl (pi_listK (K := K) rfl (pe_ix (ix_tupK (K := K) rfl) (pv 0) pe_int (fun _ _ => rfl))) (pg_tupK (K := K) (n := 2) rfl rfl (pgs_cons (pg_name (i := 2) sc_law_tidy.nd rfl (Or.inl rfl)) (pgs_cons (pg_name (i := 3) sc_law_tidy.nd rfl (Or.inl rfl)) pgs_nil)) rfl rfl)
      (pss_one (ps_dput (hu_of hr) (pv 1) (pv 3) (pe_op op_add (pe_dget2 (hu_of hr) (pv 1) (pv 3) pe_int ⟨rfl, rfl, rfl, rfl⟩) (pv 2)) rfl)))
      (pss_cons (ps_set (i := 4) sc_law_tidy.nd rfl (Or.inl rfl) (pe_lst pa_nil))
      (pss_cons (ps_set (i := 5) sc_law_tidy.nd rfl (Or.inl rfl) (pe_ix (ix_tupK (K := K) rfl) (pv 0) pe_int (fun _ _ => rfl)))
      (pss_cons (ps_for PassesOwn.never rfl (pi_listK (K := K) rfl (pe_callB (call_sorted_set rfl) (by rfl) T.b_sorted bb_sorted (pa_cons (pe_callTy (call_set rfl) (by rfl) T.b_set bb_set (pa_cons (pe_comp rfl (compOk_of (sc := defScope s_law_tidy) (N := N_law_tidy) (Nc := ["side"]) (im := [none]) rfl rfl (by decide +kernel)) (pi_listK (K := K) rfl (pe_callTy (call_list_dict rfl) (by rfl) T.b_list bb_list (pa_cons (pv 1) pa_nil))) (by intro cl C fp s1 H1; exact ⟨(pg_name (i := 0) (by decide +kernel : List.Nodup (["side"] : List Str)) rfl (Or.inl rfl) (Or.inr rfl)), pts_nil, (pe_op op_fdivB (pv 0) pe_int)⟩)) pa_nil)) pa_nil))) (pg_name (i := 6) sc_law_tidy.nd rfl (Or.inl rfl))
      (pss_cons (ps_set (i := 7) sc_law_tidy.nd rfl (Or.inl rfl) (pe_dget2 (hu_of hr) (pv 1) (pe_op op_mul pe_int (pv 6)) pe_int ⟨rfl, rfl, rfl, rfl⟩))
      (pss_cons (ps_set (i := 8) sc_law_tidy.nd rfl (Or.inl rfl) (pe_dget2 (hu_of hr) (pv 1) (pe_op op_add (pe_op op_mul pe_int (pv 6)) pe_int) pe_int ⟨rfl, rfl, rfl, rfl⟩))
      (pss_cons (ps_set (i := 5) sc_law_tidy.nd rfl (Or.inl rfl) (pe_op op_sub (pv 5) (pe_callB (call_min2 rfl) (by rfl) T.b_min bb_min (pa_cons (pv 7) (pa_cons (pv 8) pa_nil)))))
      (pss_one (ps_if (pt_cmpR op_ne (pv 7) (pv 8) (nomark _))
      (pss_one (ps_expr (pe_bm PySem.F.plainAttrs_list PySem.F.slot_list_append PySem.F.type_list_append mt_append (pv 4) (pa_cons (pe_tup (pa_cons (pe_callB call_abs (by rfl) T.b_abs bb_abs (pa_cons (pe_op op_sub (pv 7) (pv 8)) pa_nil)) (pa_cons (pe_op op_add (pe_op op_mul pe_int (pv 6)) (pe_callTy call_int1 (by rfl) T.b_int bb_int (pa_cons (pe_cmpR op_gt (pv 8) (pv 7) (nomark _)) pa_nil))) pa_nil))) pa_nil))))
      pss_nil))))))
      (pss_one (ps_ret (pe_tup (pa_cons (pv 4) (pa_cons (pv 5) pa_nil)))))))))), ?_⟩
    rw [show L2.start N_law_tidy [V.ref p] = [some (.ref p), none, none, none, none, none, none, none, none] from rfl]
    -- sums
    refine seq_gen fun R hR => ?_
    (try walk_at "rd1")
    refine fun d hd => hR _ _ ?_
    clear hR
    have hsm : ∀ o, Same H (upd H d o) := fun o => Same.new hd
    refine seq_gen fun R hR => for_l fun R1 hR1 => ?_
    try (try walk_at "rd0")
    refine ⟨_, (hsm _).tup (SqT.of hRw.tp), _, rfl, hR1 _ _ _ ((hsm _).seq (SqL.of hRw.tm.at_)) (loop_list (xs := zs) (fun i σ H2 => ∃ (u v : Option V) (kvs : List (Key × V)), σ = [some (.ref p), some (.ref d), u, v, none, none, none, none, none] ∧ H2 = upd H d (.dK kvs) ∧ DictFor (ts.take i) kvs) ?_ ?_ ?_ ?_)⟩
    · exact ⟨none, none, [], rfl, rfl, DictFor.nil⟩
    · rintro i σ H2 _ ⟨u, v, kvs, rfl, rfl, hD⟩
      exact (hsm _).seq (SqL.of hRw.tm.at_)
    · rintro i x σ H2 N hx ⟨u, v, kvs, rfl, rfl, hD⟩ hN
      obtain ⟨⟨wt, sd⟩, ht, pt, x1, x2, rfl, hT, h1, h2⟩ := pgetL hRw.tm.its hx
      obtain rfl : x1 = .int wt := h1
      obtain rfl : x2 = .int sd := h2
      try (try walk_at "rd0")
      refine ⟨[.int wt, .int sd], (hsm _).tup (SqT.of hT), rfl, ?_⟩
      (try walk_at "rd2")
      have hlt : i < ts.length := (List.getElem?_eq_some_iff.mp ht).1
      refine ⟨.inl ⟨kvs, .inl upd_same⟩, _, .inl ⟨kvs, Sum.inl sd, .inl upd_same, rfl, rfl⟩, ?_⟩
      rw [hD.get sd]
      refine ⟨_, rfl, _, DPut.k (k := Sum.inl sd) upd_same (small1000 ?_), hN _ _ ⟨_, _, putK kvs (Sum.inl sd) (.int (sumW (ts.take i) sd + wt)), rfl, ?_, ?_⟩⟩
      · have := hD.2.2
        rw [List.length_take] at this
        omega
      · rw [upd_upd]
      · rw [take_snoc ht]
        exact hD.put (wt, sd)
    rintro σ H2 ⟨u, v, kvs, rfl, rfl, hD⟩
    refine hR _ _ ?_
    clear hR hR1
    have el : zs.length = ts.length := hRw.tm.len
    rw [el, List.take_length] at hD
    have s1 : Same H (upd H d (.dK kvs)) := Same.new hd
    have d1 : upd H d (.dK kvs) d = some (.dK kvs) := upd_same
    generalize upd H d (.dK kvs) = H1 at *
    clear hsm
    -- terms
    refine seq_gen fun R hR => ?_
    try (try walk_at "rd0")
    refine ⟨Nat.zero_le _, fun a ha => hR _ _ ?_⟩
    clear hR
    have ha0 : H a = none := s1.free ha
    have s2 : Same H (upd H1 a (.lst [])) := s1.trans (Same.new ha)
    have d2 : upd H1 a (.lst []) d = some (.dK kvs) := Same.new ha _ _ d1
    have m2 : TmAt K (upd H1 a (.lst [])) a [] [] := TmAt.nil
    generalize upd H1 a (.lst []) = H2 at *
    -- least
    refine seq_gen fun R hR => ?_
    try (try walk_at "rd0")
    refine ⟨_, s2.tup (SqT.of hRw.tp), _, rfl, hR _ _ ?_⟩
    clear hR
    -- the unknowns
    refine seq_gen fun R hR => for_l fun R1 hR1 => ?_
    try (try walk_at "rd0")
    refine comp_l fun R2 hR2 => ?_
    try (try walk_at "rd0")
    refine ⟨kvs, .inl d2, fun kl hkl => hR2 _ _ _ (SqL.of upd_same) fun acc hacc => compL repInt repInt (fun _ => true) (fun x => x / 2) (fun σ => ∃ v, σ = [v]) (as := kvs.map fun p => keyInt p.1) (SqL.of upd_same) (by rw [hD.keys]; exact map_ints _) ?_ hacc ⟨none, rfl⟩ ?_ ?_⟩
    · rw [List.length_map]
      have := hD.2.2
      omega
    · rintro x sd σ H3 _ e hx ⟨v0, rfl⟩ C hC
      obtain rfl : x = .int sd := hx
      try (try walk_at "rd0")
      refine hC _ _ _ rfl (Same.refl _) ⟨_, rfl⟩ fun _ D hD => ?_
      try (try walk_at "rd0")
      exact ⟨⟨by decide, by decide⟩, hD _ _ (Same.refl _) rfl⟩
    intro H3 e3 h3
    rw [filter_all, List.map_map] at h3
    obtain ⟨acc', ea, h3⟩ := ints_at (New.up h3)
    cases ea
    have e3 := (Same.new (o := .lst (kvs.map fun p => kV p.1)) hkl).trans e3
    have s3 := s2.trans e3
    have d3 := e3 _ _ d2
    have m3 := m2.mono e3
    clear hR2 s2 d2 m2 e3
    refine ⟨_, SqL.of h3, ?_, fun sa ks hsa hnd hmem => ?_⟩
    · rw [List.length_map]
      have := hD.2.2
      have : scanBound = 4096 := rfl
      omega
    have hks : ∀ x ∈ ks, 0 ≤ x ∧ x < (16 : Nat) := fun x hx => by
      obtain ⟨t, ht, e⟩ := (hD.mem x).mp ((hmem x).mp hx)
      have := hsd t ht
      omega
    have hk16 := nodup_len 16 ks hnd hks
    refine ⟨ks, upd_same, by omega, fun la us hla hperm hsort => ?_⟩
    have hup := up_of hperm hsort hnd
    have hul : us.length ≤ 16 := by rw [hperm.length_eq]; exact hk16
    obtain ⟨eT, eL⟩ := tidy_us hsd hup fun x => by rw [hperm.mem_iff, hmem x]; exact hD.mem x
    have s34 := (Same.new (o := setO P w sa ks) hsa)
    have s35 := s34.trans (Same.new (o := .lst (us.map V.int)) hla)
    have d5 := s35 _ _ d3
    have m5 := m3.mono s35
    have nla : la ≠ a := (ne_of_none (s34 _ _ m3.at_) hla).symm
    have nda : d ≠ a := ne_of d3 m3.at_ (by intro z; cases z)
    refine hR1 _ _ _ (SqL.of upd_same) ?_
    have s5 := s3.trans s35
    have l5 : (upd (upd H3 sa (setO P w sa ks)) la (.lst (us.map V.int))) la = some (.lst (us.map V.int)) := upd_same
    change LoopBy _ _ _ _ _ (upd (upd H3 sa (setO P w sa ks)) la (.lst (us.map V.int)))
    generalize (upd (upd H3 sa (setO P w sa ks)) la (.lst (us.map V.int))) = H5 at *
    refine loop_list (xs := us.map V.int) (fun i σ H2 => ∃ (z0 z1 u yv nv : Option V) (xs : List V), σ = [some (.ref p), some (.ref d), z0, z1, some (.ref a), some (.int (l - tidyL ts (us.take i))), u, yv, nv] ∧ Same H H2 ∧ H2 d = some (.dK kvs) ∧ H2 la = some (.lst (us.map V.int)) ∧ TmAt K H2 a xs (tidyT ts (us.take i))) ?_ ?_ ?_ ?_
    · refine ⟨u, v, none, none, none, [], ?_, s5, d5, l5, m5⟩
      simp [tidyL]
    · rintro i σ H2 _ ⟨z0, z1, u, yv, nv, xs, rfl, g1, g2, g3, mk⟩
      exact SqL.of g3
    · rintro i x σ H2 N hx ⟨z0, z1, u0, yv, nv, xs, rfl, g1, g2, g3, mk⟩ hN
      rw [List.getElem?_map] at hx
      obtain ⟨u, hu, rfl⟩ := Option.map_eq_some_iff.mp hx
      have hx16 := hks u (hperm.mem_iff.mp (List.mem_of_getElem? hu))
      have hxl : xs.length ≤ 16 := by
        have z := mk.len
        have z2 := tidyT_len ts (us.take i)
        rw [List.length_take] at z2
        omega
      change tSeq _ _ _ _ _
      refine seq_gen fun R hR => ?_
      (try walk_at "rd3")
      refine ⟨.inl ⟨kvs, .inl g2⟩, .inl ⟨by decide, by decide⟩, _, .inl ⟨kvs, Sum.inl (2 * u), .inl g2, rfl, rfl⟩, hR _ _ ?_⟩
      clear hR
      rw [hD.get]
      refine seq_gen fun R hR => ?_
      (try walk_at "rd3")
      refine ⟨.inl ⟨kvs, .inl g2⟩, .inl ⟨by decide, by decide⟩, _, .inl ⟨kvs, Sum.inl (2 * u + 1), .inl g2, rfl, rfl⟩, hR _ _ ?_⟩
      clear hR
      rw [hD.get]
      have eT1 := tidyT_snoc ts (us.take i) u
      have eL1 := tidyL_snoc ts (us.take i) u
      rw [← take_snoc hu] at eT1 eL1
      generalize sumW ts (2 * u) = Y at *
      generalize sumW ts (2 * u + 1) = NN at *
      refine seq_gen fun R hR => ?_
      try (try walk_at "rd0")
      refine hR _ _ ?_
      clear hR
      have e : l - tidyL ts (us.take i) - (if NN < Y then NN else Y) = l - tidyL ts (us.take (i + 1)) := by
        rw [eL1]
        split <;> omega
      rw [e]
      try (try walk_at "rd0")
      refine ite2 (fun hc => ?_) (fun hc => hN _ _ ⟨z0, z1, _, _, _, xs, rfl, g1, g2, g3, ?_⟩)
      · have at2 := mk.at_
        refine ⟨⟨xs, SqL.of at2⟩, .inl ⟨by decide, by decide⟩, .inr ⟨line_le (by simp), fun t ht => ⟨xs, push_at at2 ht, small1000 (by omega), hN _ _ ⟨z0, z1, _, _, _, xs ++ [.ref t], rfl, (g1.trans (Same.new ht)).upd_new ha0, push_keep g2 ht nda, push_keep g3 ht nla, ?_⟩⟩⟩⟩
        have et : tyT Y NN u = [(if Y - NN < 0 then -(Y - NN) else Y - NN, 2 * u + if Y < NN then 1 else 0)] := ty_abs (by simpa using hc)
        rw [eT1, et]
        exact mk.snoc ht
      · have : tyT Y NN u = [] := by
          unfold tyT
          rw [if_neg (by simp at hc; omega), if_neg (by simp at hc; omega)]
        rw [eT1, this, List.append_nil]
        exact mk
    · rintro σ H2 ⟨z0, z1, u, yv, nv, xs, rfl, g1, g2, g3, mk⟩
      rw [List.length_map, List.take_length] at *
      refine hR _ _ ?_
      try (try walk_at "rd0")
      rw [eL, eT] at *
      refine ⟨line_le (by simp), fun q1 hq1 => ?_⟩
      have e1 : Same H2 (upd H2 q1 (.tup [.ref a, .int (l - tidyL ts un16)])) := Same.new hq1
      exact q _ _ (g1.trans e1) (newRow (g1.trans e1) ha0 ⟨upd_same, mk.mono e1⟩)
end
end Cp
namespace Cp
open PySem L2
def sp_law_up : Sp := fun vs H Q _ => ∃ (n k : Int), vs = [.int n, .int k] ∧ 1 ≤ k ∧ k < 18446744073709551616 ∧ Q (.int (cdiv n k)) H
section
seal L2.PSs L2.PS L2.PE L2.PT L2.PA L2.PG L2.PGs L2.PI L2.PW L2.PTs L2.OpR L2.UnR L2.CallR L2.IxR L2.SlR
variable {P : Program} {w : World} {K : PySem.W.Frag} {mg : Str → Option Value} {base : Heap}
theorem ok_law_up (T : Tx K mg) : FnOk P w K mg base CX0 1 T.f_law_up T.d_law_up P_law_up sp_law_up := by
  refine T.law_up.fn.ok sc_law_up (fun vs H Q E h => ?_) (fun cdv A outer s H vs Q E hr h => ?_)
  · obtain ⟨n, k, rfl, _⟩ := h
    rfl
  · obtain ⟨n, k, rfl, k0, k1, q⟩ := h
    refine ⟨_, (pss_cons (ps_set (i := 2) sc_law_up.nd rfl (Or.inl rfl) (pe_op op_fdivB (pv 0) (pv 1)))
      (pss_cons (ps_if (pt_cmpR op_lt (pe_op op_mul (pv 2) (pv 1)) (pv 0) (nomark _))
      (pss_one (ps_set (i := 2) sc_law_up.nd rfl (Or.inl rfl) (pe_op op_add (pv 2) pe_int)))
      pss_nil)
      (pss_one (ps_ret (pv 2))))), ?_⟩
    rw [show L2.start N_law_up [V.int n, V.int k] = [some (.int n), some (.int k), none] from rfl]
    refine seq_gen fun R hR => ?_
    try (try walk_at "rd0")
    refine ⟨⟨by omega, k1⟩, hR _ _ ?_⟩
    clear hR
    rw [← up_cdiv n k k0] at q
    refine seq_gen fun R hR => ?_
    suffices key : R [some (.int n), some (.int k), some (.int (if n / k * k < n then n / k + 1 else n / k))] H by
      try (try walk_at "rd0")
      refine ⟨.inr ⟨by omega, by omega⟩, ite2 (fun hc => ?_) (fun hc => ?_)⟩
      · rw [if_pos hc] at key
        exact key
      · rw [if_neg hc] at key
        exact key
    refine hR _ _ ?_
    try (try walk_at "rd0")
    exact q
end
end Cp
namespace Cp
open PySem L2
def sp_law_cut (K : PySem.W.Frag) : Sp := fun vs H Q _ => ∃ (r : V) (row : Row) (k : Int), vs = [r, .int k] ∧ rRow.rel K H r row ∧ row.1.length ≤ 1000 ∧ 1 ≤ k ∧ k < 18446744073709551616 ∧ New rRow K H (cutR row k) Q
section
seal L2.PSs L2.PS L2.PE L2.PT L2.PA L2.PG L2.PGs L2.PI L2.PW L2.PTs L2.OpR L2.UnR L2.CallR L2.IxR L2.SlR
variable {P : Program} {w : World} {K : PySem.W.Frag} {mg : Str → Option Value} {base : Heap}
theorem ok_law_cut (T : Tx K mg) : FnOk P w K mg base CX0 2 T.f_law_cut T.d_law_cut P_law_cut (sp_law_cut K) := by
  have G_law_up := ok_law_up (P := P) (w := w) (base := base) T
  refine T.law_cut.fn.ok sc_law_cut (fun vs H Q E h => ?_) (fun cdv A outer s H vs Q E hr h => ?_)
  · obtain ⟨r, row, k, rfl, _⟩ := h
    rfl
  · obtain ⟨r, ⟨ts, l⟩, k, rfl, hrow, hsz, k0, k1, q⟩ := h
    obtain ⟨p, a, xs, rfl, hRw⟩ := rowAt hrow
    have hsz : ts.length ≤ 1000 := hsz
    refine ⟨_, (pss_one (ps_ret (pe_tup (pa_cons (pe_comp rfl (compOk_of (sc := defScope s_law_cut) (N := N_law_cut) (Nc := ["weight", "side", "number"]) (im := [none, none, some 1]) rfl rfl (by decide +kernel)) (pi_listK (K := K) rfl (pe_ix (ix_tupK (K := K) rfl) (pv 0) pe_int (fun _ _ => rfl))) (by intro cl C fp s1 H1; exact ⟨(pg_tupK (K := K) (n := 2) rfl rfl (pgs_cons (pg_name (i := 0) (by decide +kernel : List.Nodup (["weight", "side", "number"] : List Str)) rfl (Or.inl rfl) (Or.inr rfl)) (pgs_cons (pg_name (i := 1) (by decide +kernel : List.Nodup (["weight", "side", "number"] : List Str)) rfl (Or.inl rfl) (Or.inr rfl)) pgs_nil)) rfl rfl), pts_nil, (pe_tup (pa_cons (pe_call G_law_up (hr.mono (by decide)) rfl T.law_up.mg T.law_up.fn.kp T.law_up.bd .nil pass0 (pa_cons (pv 0) (pa_cons (pv 2) pa_nil))) (pa_cons (pv 1) pa_nil)))⟩)) (pa_cons (pe_call G_law_up (hr.mono (by decide)) rfl T.law_up.mg T.law_up.fn.kp T.law_up.bd .nil pass0 (pa_cons (pe_ix (ix_tupK (K := K) rfl) (pv 0) pe_int (fun _ _ => rfl)) (pa_cons (pv 1) pa_nil))) pa_nil))))), ?_⟩
    rw [show L2.start N_law_cut [V.ref p, V.int k] = [some (.ref p), some (.int k)] from rfl]
    try (try walk_at "rd0")
    refine comp_l fun R1 hR1 => ?_
    try (try walk_at "rd0")
    refine ⟨_, SqT.of hRw.tp, _, rfl, hR1 _ _ _ (SqL.of hRw.tm.at_) fun acc hacc => compL rTerm rTerm (fun _ => true) (fun t => (cdiv t.1 k, t.2)) (fun σ => ∃ u v, σ = [u, v, some (.int k)]) (SqL.of hRw.tm.at_) hRw.tm.its hsz hacc ⟨none, none, rfl⟩ ?_ ?_⟩
    · rintro x ⟨wt, sd⟩ σ H2 _ e ⟨pt, x1, x2, rfl, hT2, h1, h2⟩ ⟨u, v, rfl⟩ C hC
      obtain rfl : x1 = .int wt := h1
      obtain rfl : x2 = .int sd := h2
      try (try walk_at "rd0")
      refine ⟨[.int wt, .int sd], SqT.of hT2, rfl, ?_⟩
      try (try walk_at "rd0")
      refine hC _ _ _ rfl (Same.refl _) ⟨_, _, rfl⟩ fun _ D hD => ?_
      ((try walk_at "rd0"); (try simp only [sp_law_up]); (try walk_at "rd0"))
      exact ⟨k0, k1, line_le (by simp), fun t ht => hD _ _ (Same.new ht) ⟨t, _, _, rfl, nw_of_tup (Same.new ht) upd_same, rfl, rfl⟩⟩
    intro H2 e2 h2
    rw [filter_all] at h2
    ((try walk_at "rd0"); (try simp only [sp_law_up]); (try walk_at "rd0"))
    refine ⟨_, SqT.of (e2 _ _ hRw.tp), _, rfl, _, rfl, k0, k1, line_le (by simp), fun q1 hq1 => ?_⟩
    have e3 := Same.new (o := .tup [.ref acc, .int (cdiv l k)]) hq1
    exact q _ _ (e2.trans e3) ⟨q1, _, _, rfl, nw_of_tup (e2.trans e3) upd_same, nw_first e3 h2, rfl⟩
end
end Cp
namespace Cp
open PySem L2
/-- the row itself, or one that it has made -/
def sp_law_sized (K : PySem.W.Frag) : Sp := fun vs H Q _ => ∃ (r : V) (row : Row) (G : Hp), vs = [r] ∧ Same G H ∧ rRow.rel K G r row ∧ row.1.length ≤ 1000 ∧ ∀ v H', Same H H' → rRow.rel K (ad G H H') v (sizedR row) → Q v H'
section
seal L2.PSs L2.PS L2.PE L2.PT L2.PA L2.PG L2.PGs L2.PI L2.PW L2.PTs L2.OpR L2.UnR L2.CallR L2.IxR L2.SlR
variable {P : Program} {w : World} {K : PySem.W.Frag} {mg : Str → Option Value} {base : Heap}
theorem ok_law_sized (T : Tx K mg) : FnOk P w K mg base CX0 1 T.f_law_sized T.d_law_sized P_law_sized (sp_law_sized K) := by
  refine T.law_sized.fn.ok sc_law_sized (fun vs H Q E h => ?_) (fun cdv A outer s H vs Q E hr h => ?_)
  · obtain ⟨r, row, G, rfl, _⟩ := h
    rfl
  · obtain ⟨r, ⟨ts, l⟩, G, rfl, hG, hrow, hsz, q⟩ := h
    obtain ⟨p, a, xs, rfl, hRw⟩ := rowAt (rRow.mono hG hrow)
    have hsz : ts.length ≤ 1000 := hsz
    unfold sizedR at q
    have q : ∀ v H', Same H H' → rRow.rel K (ad G H H') v (if l < 1 then (ts, l) else (ts.map fun t => (min t.1 l, t.2), l)) → Q v H' := q
    refine ⟨_, (pss_cons (ps_if (pt_cmpR op_lt (pe_ix (ix_tupK (K := K) rfl) (pv 0) pe_int (fun _ _ => rfl)) pe_int (nomark _))
      (pss_one (ps_ret (pv 0)))
      pss_nil)
      (pss_one (ps_ret (pe_tup (pa_cons (pe_comp rfl (compOk_of (sc := defScope s_law_sized) (N := N_law_sized) (Nc := ["weight", "side", "row"]) (im := [none, none, some 0]) rfl rfl (by decide +kernel)) (pi_listK (K := K) rfl (pe_ix (ix_tupK (K := K) rfl) (pv 0) pe_int (fun _ _ => rfl))) (by intro cl C fp s1 H1; exact ⟨(pg_tupK (K := K) (n := 2) rfl rfl (pgs_cons (pg_name (i := 0) (by decide +kernel : List.Nodup (["weight", "side", "row"] : List Str)) rfl (Or.inl rfl) (Or.inr rfl)) (pgs_cons (pg_name (i := 1) (by decide +kernel : List.Nodup (["weight", "side", "row"] : List Str)) rfl (Or.inl rfl) (Or.inr rfl)) pgs_nil)) rfl rfl), pts_nil, (pe_tup (pa_cons (pe_callB (call_min2 rfl) (by rfl) T.b_min bb_min (pa_cons (pv 0) (pa_cons (pe_ix (ix_tupK (K := K) rfl) (pv 2) pe_int (fun _ _ => rfl)) pa_nil))) (pa_cons (pv 1) pa_nil)))⟩)) (pa_cons (pe_ix (ix_tupK (K := K) rfl) (pv 0) pe_int (fun _ _ => rfl)) pa_nil)))))), ?_⟩
    rw [show L2.start N_law_sized [V.ref p] = [some (.ref p)] from rfl]
    refine seq_gen fun R hR => ?_
    try (try walk_at "rd0")
    refine ⟨_, SqT.of hRw.tp, _, rfl, _, rfl, ?_⟩
    refine ite2 (fun hc => ?_) (fun hc => hR _ _ ?_)
    · rw [if_pos hc] at q
      exact q _ _ (Same.refl _) (rRow.mono (ad_old hG (Same.refl _)) hrow)
    · rw [if_neg hc] at q
      try (try walk_at "rd0")
      refine comp_l fun R1 hR1 => ?_
      try (try walk_at "rd0")
      refine ⟨_, SqT.of hRw.tp, _, rfl, hR1 _ _ _ (SqL.of hRw.tm.at_) fun acc hacc => compL rTerm rTerm (fun _ => true) (fun t => (min t.1 l, t.2)) (fun σ => ∃ u v, σ = [u, v, some (.ref p)]) (SqL.of hRw.tm.at_) hRw.tm.its hsz hacc ⟨none, none, rfl⟩ ?_ ?_⟩
      · rintro x ⟨wt, sd⟩ σ H2 _ e ⟨pt, x1, x2, rfl, hT2, h1, h2⟩ ⟨u, v, rfl⟩ C hC
        obtain rfl : x1 = .int wt := h1
        obtain rfl : x2 = .int sd := h2
        try (try walk_at "rd0")
        refine ⟨[.int wt, .int sd], SqT.of hT2, rfl, ?_⟩
        try (try walk_at "rd0")
        refine hC _ _ _ rfl (Same.refl _) ⟨_, _, rfl⟩ fun _ D hD => ?_
        try (try walk_at "rd0")
        refine ⟨_, SqT.of (e _ _ hRw.tp), _, rfl, _, rfl, ?_⟩
        have em : (if l < wt then l else wt) = min wt l := by split <;> omega
        rw [em]
        exact ⟨line_le (by simp), fun t ht => hD _ _ (Same.new ht) ⟨t, _, _, rfl, nw_of_tup (Same.new ht) upd_same, rfl, rfl⟩⟩
      intro H2 e2 h2
      rw [filter_all] at h2
      try (try walk_at "rd0")
      refine ⟨_, SqT.of (e2 _ _ hRw.tp), _, rfl, line_le (by simp), fun q1 hq1 => ?_⟩
      have e3 := Same.new (o := .tup [.ref acc, .int l]) hq1
      exact q _ _ (e2.trans e3) (rRow.mono ad_new ⟨q1, _, _, rfl, nw_of_tup (e2.trans e3) upd_same, nw_first e3 h2, rfl⟩)
end
end Cp
namespace Cp
open PySem L2
def sp_law_near : Sp := fun vs H Q _ => ∃ (n k : Int), vs = [.int n, .int k] ∧ Q (.bl (decide (0 ≤ n ∧ n < k))) H
section
seal L2.PSs L2.PS L2.PE L2.PT L2.PA L2.PG L2.PGs L2.PI L2.PW L2.PTs L2.OpR L2.UnR L2.CallR L2.IxR L2.SlR
variable {P : Program} {w : World} {K : PySem.W.Frag} {mg : Str → Option Value} {base : Heap}
theorem ok_law_near (T : Tx K mg) : FnOk P w K mg base CX0 1 T.f_law_near T.d_law_near P_law_near sp_law_near := by
  refine T.law_near.fn.ok sc_law_near (fun vs H Q E h => ?_) (fun cdv A outer s H vs Q E hr h => ?_)
  · obtain ⟨n, k, rfl, _⟩ := h
    rfl
  · obtain ⟨n, k, rfl, q⟩ := h
    refine ⟨_, (pss_one (ps_ret (pe_chain op_le op_lt pe_int (pv 0) (pv 1)))), ?_⟩
    rw [show L2.start N_law_near [V.int n, V.int k] = [some (.int n), some (.int k)] from rfl]
    (try walk_at "rd16")
    exact chain_q q
end
end Cp
namespace Cp
open PySem L2
/-- a line that it has made, or one of those made: in the part G of the heap and what was made since -/
def sp_law_line (K : PySem.W.Frag) : Sp := fun vs H Q _ => ∃ (r s : V) (m : Addr) (mxs : List V) (st : Stp) (rows made : List Row) (G : Hp), vs = [r, .ref m, s] ∧ rRows.rel K H r rows ∧ H m = some (.lst mxs) ∧ Same G H ∧ Paired (rRow.rel K G) mxs made ∧
  rStep.rel K H s st.key ∧ st.good rows.length made.length ∧ (∀ x ∈ rows, Sides x.1 ∧ x.1.length ≤ 1000) ∧ (∀ x ∈ made, Tidy x.1) ∧ ∀ v H', Same H H' → rRow.rel K (ad G H H') v (lineR rows made st) → Q v H'
section
seal L2.PSs L2.PS L2.PE L2.PT L2.PA L2.PG L2.PGs L2.PI L2.PW L2.PTs L2.OpR L2.UnR L2.CallR L2.IxR L2.SlR
variable {P : Program} {w : World} {K : PySem.W.Frag} {mg : Str → Option Value} {base : Heap}
theorem ok_law_line (T : Tx K mg) : FnOk P w K mg base CX0 3 T.f_law_line T.d_law_line P_law_line (sp_law_line K) := by
  have G_law_tidy := ok_law_tidy (P := P) (w := w) (base := base) T
  have G_law_near := ok_law_near (P := P) (w := w) (base := base) T
  have G_law_cut := ok_law_cut (P := P) (w := w) (base := base) T
  have G_law_sized := ok_law_sized (P := P) (w := w) (base := base) T
  refine T.law_line.fn.ok sc_law_line (fun vs H Q E h => ?_) (fun cdv A outer s H vs Q E hr h => ?_)
  · obtain ⟨r, s, m, mxs, st, rows, made, G, rfl, _⟩ := h
    rfl
  · obtain ⟨r, s, m, mxs, st, rows, made, G, rfl, ⟨ra, rxs, rfl, hR1, pR⟩, hM1, hG, pM, hs, g, hrow, hmade, q⟩ := h
    obtain ⟨p, rfl, hT⟩ := step_at hs
    have q' : New rRow K H (lineR rows made st) Q := fun v H' e hv => q v H' e (rRow.mono ad_new hv)
    have rl : rxs.length = rows.length := pR.length
    have ml : mxs.length = made.length := pM.length
    refine ⟨_, (pss_cons (ps_set (i := 3) sc_law_line.nd rfl (Or.inl rfl) (pe_ix (ix_tupK (K := K) rfl) (pv 2) pe_int (fun _ _ => rfl)))
      (pss_cons (ps_set (i := 4) sc_law_line.nd rfl (Or.inl rfl) (pe_callB (len_seqK (K := K) rfl) (by rfl) T.b_len bb_len (pa_cons (pv 1) pa_nil)))
      (pss_cons (ps_if (pt_cmpR op_eq (pv 3) pe_str (nomark _))
      (pss_one (ps_ret (pe_ifExp (pt_val (pe_call G_law_near (hr.mono (by decide)) rfl T.law_near.mg T.law_near.fn.kp T.law_near.bd .nil pass0 (pa_cons (pe_ix (ix_tupK (K := K) rfl) (pv 2) pe_int (fun _ _ => rfl)) (pa_cons (pe_callB (len_seqK (K := K) rfl) (by rfl) T.b_len bb_len (pa_cons (pv 0) pa_nil)) pa_nil)))) (pe_call G_law_tidy (hr.mono (by decide)) rfl T.law_tidy.mg T.law_tidy.fn.kp T.law_tidy.bd .nil pass0 (pa_cons (pe_ix (ix_listK (K := K) rfl) (pv 0) (pe_ix (ix_tupK (K := K) rfl) (pv 2) pe_int (fun _ _ => rfl)) (fun _ _ => rfl)) pa_nil)) pe_non)))
      pss_nil)
      (pss_cons (ps_if (pt_cmpR op_eq (pv 3) pe_str (nomark _))
      (pss_one (ps_ret (pe_ifExp (pt_val (pe_call G_law_near (hr.mono (by decide)) rfl T.law_near.mg T.law_near.fn.kp T.law_near.bd .nil pass0 (pa_cons (pe_ix (ix_tupK (K := K) rfl) (pv 2) pe_int (fun _ _ => rfl)) (pa_cons pe_int pa_nil)))) (pe_tup (pa_cons (pe_lst (pa_cons (pe_tup (pa_cons pe_int (pa_cons (pe_ix (ix_tupK (K := K) rfl) (pv 2) pe_int (fun _ _ => rfl)) pa_nil))) pa_nil)) (pa_cons pe_int pa_nil))) pe_non)))
      pss_nil)
      (pss_cons (ps_if (pt_not (pt_val (pe_call G_law_near (hr.mono (by decide)) rfl T.law_near.mg T.law_near.fn.kp T.law_near.bd .nil pass0 (pa_cons (pe_ix (ix_tupK (K := K) rfl) (pv 2) pe_int (fun _ _ => rfl)) (pa_cons (pv 4) pa_nil)))))
      (pss_one (ps_ret pe_non))
      pss_nil)
      (pss_cons (ps_if (pt_cmpR op_eq (pv 3) pe_str (nomark _))
      (pss_one (ps_ret (pe_call G_law_sized (hr.mono (by decide)) rfl T.law_sized.mg T.law_sized.fn.kp T.law_sized.bd .nil pass0 (pa_cons (pe_ix (ix_listK (K := K) rfl) (pv 1) (pe_ix (ix_tupK (K := K) rfl) (pv 2) pe_int (fun _ _ => rfl)) (fun _ _ => rfl)) pa_nil))))
      pss_nil)
      (pss_cons (ps_if (pt_cmpR op_eq (pv 3) pe_str (nomark _))
      (pss_cons (ps_if (pt_not (pt_val (pe_call G_law_near (hr.mono (by decide)) rfl T.law_near.mg T.law_near.fn.kp T.law_near.bd .nil pass0 (pa_cons (pe_ix (ix_tupK (K := K) rfl) (pv 2) pe_int (fun _ _ => rfl)) (pa_cons (pv 4) pa_nil)))))
      (pss_one (ps_ret pe_non))
      pss_nil)
      (pss_cons (ps_set (i := 5) sc_law_line.nd rfl (Or.inl rfl) (pe_ix (ix_listK (K := K) rfl) (pv 1) (pe_ix (ix_tupK (K := K) rfl) (pv 2) pe_int (fun _ _ => rfl)) (fun _ _ => rfl)))
      (pss_cons (ps_set (i := 6) sc_law_line.nd rfl (Or.inl rfl) (pe_ix (ix_listK (K := K) rfl) (pv 1) (pe_ix (ix_tupK (K := K) rfl) (pv 2) pe_int (fun _ _ => rfl)) (fun _ _ => rfl)))
      (pss_one (ps_ret (pe_call G_law_tidy (hr.mono (by decide)) rfl T.law_tidy.mg T.law_tidy.fn.kp T.law_tidy.bd .nil pass0 (pa_cons (pe_tup (pa_cons (pe_op op_cat (pe_ix (ix_tupK (K := K) rfl) (pv 5) pe_int (fun _ _ => rfl)) (pe_ix (ix_tupK (K := K) rfl) (pv 6) pe_int (fun _ _ => rfl))) (pa_cons (pe_op op_add (pe_ix (ix_tupK (K := K) rfl) (pv 5) pe_int (fun _ _ => rfl)) (pe_ix (ix_tupK (K := K) rfl) (pv 6) pe_int (fun _ _ => rfl))) pa_nil))) pa_nil)))))))
      pss_nil)
      (pss_cons (ps_if (pt_not (pt_chain op_le op_le pe_int (pe_ix (ix_tupK (K := K) rfl) (pv 2) pe_int (fun _ _ => rfl)) (pe_op op_pow pe_int pe_int)))
      (pss_one (ps_ret pe_non))
      pss_nil)
      (pss_cons (ps_if (pt_cmpR op_eq (pv 3) pe_str (nomark _))
      (pss_one (ps_ret (pe_call G_law_cut (hr.mono (by decide)) rfl T.law_cut.mg T.law_cut.fn.kp T.law_cut.bd .nil pass0 (pa_cons (pe_ix (ix_listK (K := K) rfl) (pv 1) (pe_ix (ix_tupK (K := K) rfl) (pv 2) pe_int (fun _ _ => rfl)) (fun _ _ => rfl)) (pa_cons (pe_ix (ix_tupK (K := K) rfl) (pv 2) pe_int (fun _ _ => rfl)) pa_nil)))))
      pss_nil)
      (pss_one (ps_ret (pe_tup (pa_cons (pe_comp rfl (compOk_of (sc := defScope s_law_line) (N := N_law_line) (Nc := ["weight", "side", "step"]) (im := [none, none, some 2]) rfl rfl (by decide +kernel)) (pi_listK (K := K) rfl (pe_ix (ix_tupK (K := K) rfl) (pe_ix (ix_listK (K := K) rfl) (pv 1) (pe_ix (ix_tupK (K := K) rfl) (pv 2) pe_int (fun _ _ => rfl)) (fun _ _ => rfl)) pe_int (fun _ _ => rfl))) (by intro cl C fp s1 H1; exact ⟨(pg_tupK (K := K) (n := 2) rfl rfl (pgs_cons (pg_name (i := 0) (by decide +kernel : List.Nodup (["weight", "side", "step"] : List Str)) rfl (Or.inl rfl) (Or.inr rfl)) (pgs_cons (pg_name (i := 1) (by decide +kernel : List.Nodup (["weight", "side", "step"] : List Str)) rfl (Or.inl rfl) (Or.inr rfl)) pgs_nil)) rfl rfl), pts_nil, (pe_tup (pa_cons (pe_op op_mul (pv 0) (pe_ix (ix_tupK (K := K) rfl) (pv 2) pe_int (fun _ _ => rfl))) (pa_cons (pv 1) pa_nil)))⟩)) (pa_cons (pe_op op_mul (pe_ix (ix_tupK (K := K) rfl) (pe_ix (ix_listK (K := K) rfl) (pv 1) (pe_ix (ix_tupK (K := K) rfl) (pv 2) pe_int (fun _ _ => rfl)) (fun _ _ => rfl)) pe_int (fun _ _ => rfl)) (pe_ix (ix_tupK (K := K) rfl) (pv 2) pe_int (fun _ _ => rfl))) pa_nil)))))))))))))), ?_⟩
    rw [show L2.start N_law_line [V.ref ra, V.ref m, V.ref p] = [some (.ref ra), some (.ref m), some (.ref p), none, none, none, none] from rfl]
    refine seq_gen fun R hR => ?_
    (try walk_at "rd0")
    refine ⟨_, SqT.of hT, V.str (match st with | .given _ => Str.ofString "given" | .side _ => Str.ofString "side" | .add _ _ => Str.ofString "add" | .times _ _ => Str.ofString "times" | .cut _ _ => Str.ofString "cut" | .size _ => Str.ofString "size"), by cases st <;> rfl, hR _ _ ?_⟩
    clear hR
    refine seq_gen fun R hR => ?_
    (try walk_at "rd0")
    refine ⟨_, .inl (SqL.of hM1), hR _ _ ?_⟩
    clear hR
    rw [ml]
    cases st with
    | given r =>
      have hT : H p = some (.tup [.str (Str.ofString "given"), .int r]) := hT
      obtain ⟨v, e1, x, e2, hx⟩ := atI_pair pR g.1 g.2
      have ex : rows.getD r.toNat row0 = x := by rw [List.getD_eq_getElem?_getD, e2]; rfl
      have hin := hrow x (List.mem_of_getElem? e2)
      refine seq_take rfl ?_
      ((try walk_at "rd0"); (try simp only [sp_law_tidy, sp_law_near]); (try walk_at "rd0"))
      refine ⟨_, SqT.of hT, _, rfl, _, .inl (SqL.of hR1), _, rfl, ?_⟩
      rw [if_pos ⟨g.1, by rw [rl]; exact g.2⟩]
      refine ⟨_, SqT.of hT, _, rfl, _, _, rfl, SqL.of hR1, _, e1, x, hx, hin.1, hin.2, ?_⟩
      have q' : New rRow K H (tidyR (rows.getD r.toNat row0)) Q := q'
      rw [ex] at q'
      exact q'
    | side r =>
      have hT : H p = some (.tup [.str (Str.ofString "side"), .int r]) := hT
      refine seq_skip rfl (ofStr_ne rfl) ?_
      refine seq_take rfl ?_
      ((try walk_at "rd0"); (try simp only [sp_law_near]); (try walk_at "rd0"))
      refine ⟨_, SqT.of hT, _, rfl, _, rfl, ?_⟩
      rw [if_pos ⟨g.1, by have := g.2; omega⟩]
      refine ⟨_, SqT.of hT, _, rfl, line_le (by simp), fun t ht => ⟨line_le (by simp), fun l hl => ⟨line_le (by simp), fun q1 hq1 => ?_⟩⟩⟩
      have e1 : Same H (upd H t (.tup [.int 1, .int r])) := Same.new ht
      have e2 := Same.new (o := .lst [.ref t]) hl
      have e3 := Same.new (o := .tup [.ref l, .int 0]) hq1
      exact q' _ _ ((e1.trans e2).trans e3) (newRow ((e1.trans e2).trans e3) (e1.free hl) ⟨upd_same, e3 _ _ upd_same, .cons ⟨t, _, _, rfl, e3 _ _ (e2 _ _ upd_same), rfl, rfl⟩ .nil⟩)
    | add i j =>
      have hT : H p = some (.tup [.str (Str.ofString "add"), .int i, .int j]) := hT
      obtain ⟨v, e1, x, e2, hx⟩ := atI_pair pM g.1.1 g.1.2
      obtain ⟨v', e1', x', e2', hx'⟩ := atI_pair pM g.2.1 g.2.2
      have ex : made.getD i.toNat row0 = x := by rw [List.getD_eq_getElem?_getD, e2]; rfl
      have ex' : made.getD j.toNat row0 = x' := by rw [List.getD_eq_getElem?_getD, e2']; rfl
      have hin := hmade x (List.mem_of_getElem? e2)
      have hin' := hmade x' (List.mem_of_getElem? e2')
      have l1 := hin.len
      have l2 := hin'.len
      obtain ⟨p1, a1, xs1, rfl, R1⟩ := rowAt (rRow.mono hG hx)
      obtain ⟨p2, a2, xs2, rfl, R2⟩ := rowAt (rRow.mono hG hx')
      refine seq_skip rfl (ofStr_ne rfl) ?_
      refine seq_skip rfl (ofStr_ne rfl) ?_
      refine seq_gen fun R hR => ?_
      refine ifs_gen fun R4 hR4 => ?_
      ((try walk_at "rd0"); (try simp only [sp_law_near]); (try walk_at "rd0"))
      refine ⟨_, SqT.of hT, _, rfl, _, rfl, ?_⟩
      rw [decide_eq_true (show 0 ≤ i ∧ i < (made.length : Int) from g.1)]
      refine hR4 _ _ (fun z => absurd z (by decide)) fun _ => hR _ _ ?_
      clear hR hR4
      refine seq_skip rfl (ofStr_ne rfl) ?_
      refine seq_take rfl ?_
      refine seq_gen fun R hR => ?_
      refine ifs_gen fun R4 hR4 => ?_
      ((try walk_at "rd0"); (try simp only [sp_law_near]); (try walk_at "rd0"))
      refine ⟨_, SqT.of hT, _, rfl, _, rfl, ?_⟩
      rw [decide_eq_true (show 0 ≤ j ∧ j < (made.length : Int) from g.2)]
      refine hR4 _ _ (fun z => absurd z (by decide)) fun _ => hR _ _ ?_
      clear hR hR4
      refine seq_gen fun R hR => ?_
      (try walk_at "rd0")
      refine ⟨_, SqT.of hT, _, rfl, _, _, rfl, SqL.of hM1, _, e1, hR _ _ ?_⟩
      clear hR
      refine seq_gen fun R hR => ?_
      (try walk_at "rd0")
      refine ⟨_, SqT.of hT, _, rfl, _, _, rfl, SqL.of hM1, _, e1', hR _ _ ?_⟩
      clear hR
      ((try walk_at "rd4"); (try simp only [sp_law_tidy]); (try walk_at "rd4"))
      have q' : New rRow K H (addR (made.getD i.toNat row0) (made.getD j.toNat row0)) Q := q'
      rw [ex, ex'] at q'
      refine ⟨_, SqT.of R1.tp, _, rfl, _, SqT.of R2.tp, _, rfl, _, rfl, _, rfl, xs1, R1.tm.at_, xs2, R2.tm.at_, ?_, fun c hc => ?_⟩
      · rw [R1.tm.len, R2.tm.len]
        exact line_le (by omega)
      have f1 : Same H (upd H c (.lst (xs1 ++ xs2))) := Same.new hc
      have m1 : TmAt K (upd H c (.lst (xs1 ++ xs2))) c (xs1 ++ xs2) (x.1 ++ x'.1) := ⟨upd_same, papp (R1.tm.mono f1).its (R2.tm.mono f1).its⟩
      refine ⟨_, SqT.of (f1 _ _ R1.tp), _, rfl, _, SqT.of (f1 _ _ R2.tp), _, rfl, _, rfl, _, rfl, line_le (by simp), fun q1 hq1 => ?_⟩
      have f2 := Same.new (o := .tup [.ref c, .int (x.2 + x'.2)]) hq1
      refine ⟨(x.1 ++ x'.1, x.2 + x'.2), ⟨q1, _, _, rfl, upd_same, (m1.mono f2).rel, rfl⟩, sides_app hin.sd hin'.sd, ?_, fun v H3 e3 hv => ?_⟩
      · show (x.1 ++ x'.1).length ≤ 1000
        rw [List.length_append]
        omega
      · exact q' _ _ ((f1.trans f2).trans e3) (nw_second (f1.trans f2) e3 hv)
    | times i k =>
      have hT : H p = some (.tup [.str (Str.ofString "times"), .int i, .int k]) := hT
      obtain ⟨v, e1, x, e2, hx⟩ := atI_pair pM g.1.1 g.1.2
      have ex : made.getD i.toNat row0 = x := by rw [List.getD_eq_getElem?_getD, e2]; rfl
      have hin := hmade x (List.mem_of_getElem? e2)
      have k0 := g.2.1
      have k1 := g.2.2
      have l1 := hin.len
      obtain ⟨p1, a1, xs1, rfl, R1⟩ := rowAt (rRow.mono hG hx)
      refine seq_skip rfl (ofStr_ne rfl) ?_
      refine seq_skip rfl (ofStr_ne rfl) ?_
      refine seq_gen fun R hR => ?_
      refine ifs_gen fun R4 hR4 => ?_
      ((try walk_at "rd0"); (try simp only [sp_law_near]); (try walk_at "rd0"))
      refine ⟨_, SqT.of hT, _, rfl, _, rfl, ?_⟩
      rw [decide_eq_true (show 0 ≤ i ∧ i < (made.length : Int) from g.1)]
      refine hR4 _ _ (fun z => absurd z (by decide)) fun _ => hR _ _ ?_
      clear hR hR4
      refine seq_skip rfl (ofStr_ne rfl) ?_
      refine seq_skip rfl (ofStr_ne rfl) ?_
      refine seq_gen fun R hR => ?_
      refine ifs_gen fun R4 hR4 => ?_
      (try walk_at "rd16")
      refine ⟨_, SqT.of hT, _, rfl, _, rfl, ?_⟩
      rw [if_pos k0]
      refine ⟨⟨by decide, by decide, by decide⟩, _, rfl, ?_⟩
      rw [p18, decide_eq_true (show k ≤ 1000000000000000000 from k1)]
      refine hR4 _ _ (fun z => absurd z (by decide)) fun _ => hR _ _ ?_
      clear hR hR4
      refine seq_skip rfl (ofStr_ne rfl) ?_
      try (try walk_at "rd0")
      have q' : New rRow K H (timesR (made.getD i.toNat row0) k) Q := q'
      rw [ex] at q'
      refine comp_l fun R5 hR5 => ?_
      (try walk_at "rd0")
      refine ⟨_, SqT.of hT, _, rfl, _, _, rfl, SqL.of hM1, _, e1, _, rfl, _, SqT.of R1.tp, _, rfl, hR5 _ _ _ (SqL.of R1.tm.at_) fun acc hacc => compL rTerm rTerm (fun _ => true) (fun t => (t.1 * k, t.2)) (fun σ => ∃ u v, σ = [u, v, some (.ref p)]) (SqL.of R1.tm.at_) R1.tm.its (by omega) hacc ⟨none, none, rfl⟩ ?_ ?_⟩
      · rintro y ⟨wt, sd⟩ σ H2 _ e ⟨pt, x1, x2, rfl, hT2, h1, h2⟩ ⟨u, v, rfl⟩ C hC
        obtain rfl : x1 = .int wt := h1
        obtain rfl : x2 = .int sd := h2
        (try walk_at "rd0")
        refine ⟨[.int wt, .int sd], SqT.of hT2, rfl, ?_⟩
        (try walk_at "rd0")
        refine hC _ _ _ rfl (Same.refl _) ⟨_, _, rfl⟩ fun _ D hD => ?_
        (try walk_at "rd0")
        exact ⟨_, SqT.of (e _ _ hT), _, rfl, _, rfl, .inr ⟨by omega, by omega⟩, line_le (by simp), fun t ht => hD _ _ (Same.new ht) ⟨t, _, _, rfl, nw_of_tup (Same.new ht) upd_same, rfl, rfl⟩⟩
      intro H2 e2 h2
      rw [filter_all] at h2
      refine ⟨_, SqT.of (e2 _ _ hT), _, rfl, _, _, rfl, SqL.of (e2 _ _ hM1), _, e1, _, rfl, _, SqT.of (e2 _ _ R1.tp), _, rfl, _, SqT.of (e2 _ _ hT), _, rfl, _, rfl, _, rfl, .inr ⟨by omega, by omega⟩, line_le (by simp), fun q1 hq1 => ?_⟩
      have e3 := Same.new (o := .tup [.ref acc, .int (x.2 * k)]) hq1
      exact q' _ _ (e2.trans e3) ⟨q1, _, _, rfl, nw_of_tup (e2.trans e3) upd_same, nw_first e3 h2, rfl⟩
    | cut i k =>
      have hT : H p = some (.tup [.str (Str.ofString "cut"), .int i, .int k]) := hT
      obtain ⟨v, e1, x, e2, hx⟩ := atI_pair pM g.1.1 g.1.2
      have ex : made.getD i.toNat row0 = x := by rw [List.getD_eq_getElem?_getD, e2]; rfl
      have hin := hmade x (List.mem_of_getElem? e2)
      have k0 := g.2.1
      have k1 := g.2.2
      have l1 := hin.len
      refine seq_skip rfl (ofStr_ne rfl) ?_
      refine seq_skip rfl (ofStr_ne rfl) ?_
      refine seq_gen fun R hR => ?_
      refine ifs_gen fun R4 hR4 => ?_
      ((try walk_at "rd0"); (try simp only [sp_law_near]); (try walk_at "rd0"))
      refine ⟨_, SqT.of hT, _, rfl, _, rfl, ?_⟩
      rw [decide_eq_true (show 0 ≤ i ∧ i < (made.length : Int) from g.1)]
      refine hR4 _ _ (fun z => absurd z (by decide)) fun _ => hR _ _ ?_
      clear hR hR4
      refine seq_skip rfl (ofStr_ne rfl) ?_
      refine seq_skip rfl (ofStr_ne rfl) ?_
      refine seq_gen fun R hR => ?_
      refine ifs_gen fun R4 hR4 => ?_
      (try walk_at "rd16")
      refine ⟨_, SqT.of hT, _, rfl, _, rfl, ?_⟩
      rw [if_pos k0]
      refine ⟨⟨by decide, by decide, by decide⟩, _, rfl, ?_⟩
      rw [p18, decide_eq_true (show k ≤ 1000000000000000000 from k1)]
      refine hR4 _ _ (fun z => absurd z (by decide)) fun _ => hR _ _ ?_
      clear hR hR4
      refine seq_take rfl ?_
      ((try walk_at "rd0"); (try simp only [sp_law_cut]); (try walk_at "rd0"))
      have q' : New rRow K H (cutR (made.getD i.toNat row0) k) Q := q'
      rw [ex] at q'
      exact ⟨_, SqT.of hT, _, rfl, _, _, rfl, SqL.of hM1, _, e1, _, SqT.of hT, _, rfl, x, k, rfl, rRow.mono hG hx, by omega, by omega, by omega, q'⟩
    | size i =>
      have hT : H p = some (.tup [.str (Str.ofString "size"), .int i]) := hT
      obtain ⟨v, e1, x, e2, hx⟩ := atI_pair pM g.1 g.2
      have ex : made.getD i.toNat row0 = x := by rw [List.getD_eq_getElem?_getD, e2]; rfl
      have hin := hmade x (List.mem_of_getElem? e2)
      have l1 := hin.len
      refine seq_skip rfl (ofStr_ne rfl) ?_
      refine seq_skip rfl (ofStr_ne rfl) ?_
      refine seq_gen fun R hR => ?_
      refine ifs_gen fun R4 hR4 => ?_
      ((try walk_at "rd0"); (try simp only [sp_law_near]); (try walk_at "rd0"))
      refine ⟨_, SqT.of hT, _, rfl, _, rfl, ?_⟩
      rw [decide_eq_true (show 0 ≤ i ∧ i < (made.length : Int) from g)]
      refine hR4 _ _ (fun z => absurd z (by decide)) fun _ => hR _ _ ?_
      clear hR hR4
      refine seq_take rfl ?_
      ((try walk_at "rd0"); (try simp only [sp_law_sized]); (try walk_at "rd0"))
      have q : ∀ v H', Same H H' → rRow.rel K (ad G H H') v (sizedR (made.getD i.toNat row0)) → Q v H' := q
      rw [ex] at q
      exact ⟨_, SqT.of hT, _, rfl, _, _, rfl, SqL.of hM1, _, e1, x, G, hG, hx, by omega, q⟩
end
end Cp
namespace Cp
open PySem L2
def sp_law_is_step (K : PySem.W.Frag) : Sp := fun vs H Q _ => ∃ (s : V) (st : Stp), vs = [s] ∧ rStep.rel K H s st.key ∧ ∀ H', Same H H' → Q (.bl true) H'
section
seal L2.PSs L2.PS L2.PE L2.PT L2.PA L2.PG L2.PGs L2.PI L2.PW L2.PTs L2.OpR L2.UnR L2.CallR L2.IxR L2.SlR
variable {P : Program} {w : World} {K : PySem.W.Frag} {mg : Str → Option Value} {base : Heap}
theorem ok_law_is_step (T : Tx K mg) : FnOk P w K mg base CX0 2 T.f_law_is_step T.d_law_is_step P_law_is_step (sp_law_is_step K) := by
  have G_law_whole := ok_law_whole (P := P) (w := w) (base := base) T
  refine T.law_is_step.fn.ok sc_law_is_step (fun vs H Q E h => ?_) (fun cdv A outer s H vs Q E hr h => ?_)
  · obtain ⟨s, st, rfl, _⟩ := h
    rfl
  · obtain ⟨s, st, rfl, hs, q⟩ := h
    obtain ⟨p, rfl, hT⟩ := step_at hs
    refine ⟨_, (pss_cons (ps_if (PW.pt (pw_or (pt_not (pt_val (pe_callB (isinstK (K := K) rfl) (by rfl) T.b_isinstance bb_isinstance (pa_cons (pv 0) (pa_cons (pe_bltn (v := .ty "tuple") rfl T.b_tuple bb_tuple rfl) pa_nil))))) (pw_or (pt_cmpR op_lt (pe_callB (len_seqK (K := K) rfl) (by rfl) T.b_len bb_len (pa_cons (pv 0) pa_nil)) pe_int (nomark _)) (pw_or (pt_cmpR op_gt (pe_callB (len_seqK (K := K) rfl) (by rfl) T.b_len bb_len (pa_cons (pv 0) pa_nil)) pe_int (nomark _)) (pw_or1 (pt_not (pt_val (pe_callB (isinstK (K := K) rfl) (by rfl) T.b_isinstance bb_isinstance (pa_cons (pe_ix (ix_tupK (K := K) rfl) (pv 0) pe_int (fun _ _ => rfl)) (pa_cons (pe_bltn (v := .ty "str") rfl T.b_str bb_str rfl) pa_nil))))))))))
      (pss_one (ps_ret pe_bl))
      pss_nil)
      (pss_cons (ps_if (pt_cmpR (op_notin_seqK (K := K) rfl) (pe_ix (ix_tupK (K := K) rfl) (pv 0) pe_int (fun _ _ => rfl)) (pe_tup (pa_cons pe_str (pa_cons pe_str (pa_cons pe_str (pa_cons pe_str (pa_cons pe_str (pa_cons pe_str pa_nil))))))) (by with_unfolding_all rfl))
      (pss_one (ps_ret pe_bl))
      pss_nil)
      (pss_cons (ps_if (pt_cmpR op_ne (pe_cmpR op_eq (pe_callB (len_seqK (K := K) rfl) (by rfl) T.b_len bb_len (pa_cons (pv 0) pa_nil)) pe_int (nomark _)) (pe_cmpR (op_in_seqK (K := K) rfl) (pe_ix (ix_tupK (K := K) rfl) (pv 0) pe_int (fun _ _ => rfl)) (pe_tup (pa_cons pe_str (pa_cons pe_str (pa_cons pe_str pa_nil)))) (by with_unfolding_all rfl)) (nomark _))
      (pss_one (ps_ret pe_bl))
      pss_nil)
      (pss_one (ps_ret (pe_and (pe_call G_law_whole (hr.mono (by decide)) rfl T.law_whole.mg T.law_whole.fn.kp T.law_whole.bd .nil pass0 (pa_cons (pe_ix (ix_tupK (K := K) rfl) (pv 0) pe_int (fun _ _ => rfl)) pa_nil)) (pe_one (pe_call G_law_whole (hr.mono (by decide)) rfl T.law_whole.mg T.law_whole.fn.kp T.law_whole.bd .nil pass0 (pa_cons (pe_ix (ix_tupK (K := K) rfl) (pv 0) (pe_un un_neg pe_int) (fun _ _ => rfl)) pa_nil))))))))), ?_⟩
    rw [show L2.start N_law_is_step [V.ref p] = [some (.ref p)] from rfl]
    suffices key : ∀ (kd : String) (a : Int) (rest : List V) (tri : Bool), H p = some (.tup (.str (Str.ofString kd) :: .int a :: rest)) → (rest = [] ∧ tri = false ∨ ∃ b, rest = [V.int b] ∧ tri = true) →
        inV (.str (Str.ofString kd)) [V.str (Str.ofString "given"), V.str (Str.ofString "side"), V.str (Str.ofString "add"), V.str (Str.ofString "times"), V.str (Str.ofString "cut"), V.str (Str.ofString "size")] = true →
        inV (.str (Str.ofString kd)) [V.str (Str.ofString "add"), V.str (Str.ofString "times"), V.str (Str.ofString "cut")] = tri → _ by
      cases st with
      | given a => exact key "given" a [] false hT (.inl ⟨rfl, rfl⟩) (by decide +kernel) (by decide +kernel)
      | side a => exact key "side" a [] false hT (.inl ⟨rfl, rfl⟩) (by decide +kernel) (by decide +kernel)
      | add a b => exact key "add" a [.int b] true hT (.inr ⟨b, rfl, rfl⟩) (by decide +kernel) (by decide +kernel)
      | times a b => exact key "times" a [.int b] true hT (.inr ⟨b, rfl, rfl⟩) (by decide +kernel) (by decide +kernel)
      | cut a b => exact key "cut" a [.int b] true hT (.inr ⟨b, rfl, rfl⟩) (by decide +kernel) (by decide +kernel)
      | size a => exact key "size" a [] false hT (.inl ⟨rfl, rfl⟩) (by decide +kernel) (by decide +kernel)
    intro kd a rest tri hT hrest i6 i3
    have hkit : PySem.W.kitOne K (.type "str") (.type "str") = some true := rfl
    rcases hrest with ⟨rfl, rfl⟩ | ⟨b, rfl, rfl⟩
    all_goals
      refine seq_gen fun R hR => ?_
      (try walk_at "rd0")
      refine ⟨_, TyOf.tup hT, true, kit_tt, ?_⟩
      try (try walk_at "rd0")
      refine ⟨_, .inr (SqT.of hT), ?_⟩
      rw [if_neg (by simp)]
      refine ⟨_, .inr (SqT.of hT), ?_⟩
      rw [if_neg (by simp)]
      refine ⟨_, SqT.of hT, _, rfl, _, TyOf.str _, true, hkit, ?_⟩
      try (try walk_at "rd0")
      refine hR _ _ ?_
      clear hR
      -- its kind
      refine seq_gen fun R hR => ?_
      (try walk_at "rd11")
      refine ⟨_, SqT.of hT, _, rfl, line_le (by simp), fun p1 hp1 => ⟨_, .inr (SqT.of upd_same), rfl, rfl, ?_⟩⟩
      rw [i6]
      (try walk_at "rd0")
      refine hR _ _ ?_
      clear hR
      have e1 := Same.new (o := .tup [V.str (Str.ofString "given"), V.str (Str.ofString "side"), V.str (Str.ofString "add"), V.str (Str.ofString "times"), V.str (Str.ofString "cut"), V.str (Str.ofString "size")]) hp1
      have hT := e1 _ _ hT
      generalize upd H p1 (.tup [V.str (Str.ofString "given"), V.str (Str.ofString "side"), V.str (Str.ofString "add"), V.str (Str.ofString "times"), V.str (Str.ofString "cut"), V.str (Str.ofString "size")]) = H1 at *
      -- its length
      refine seq_gen fun R hR => ?_
      (try walk_at "rd11")
      refine ⟨_, .inr (SqT.of hT), _, SqT.of hT, _, rfl, line_le (by simp), fun p2 hp2 => ⟨_, .inr (SqT.of upd_same), rfl, rfl, ?_⟩⟩
      rw [i3, if_neg (by simp)]
      refine hR _ _ ?_
      clear hR
      have e2 := Same.new (o := .tup [V.str (Str.ofString "add"), V.str (Str.ofString "times"), V.str (Str.ofString "cut")]) hp2
      have hT := e2 _ _ hT
      generalize upd H1 p2 (.tup [V.str (Str.ofString "add"), V.str (Str.ofString "times"), V.str (Str.ofString "cut")]) = H2 at *
      -- its numbers
      ((try walk_at "rd0"); (try simp only [sp_law_whole]); (try walk_at "rd0"))
      refine ⟨_, SqT.of hT, _, rfl, _, rfl, _, SqT.of hT, _, rfl, _, rfl, q _ (e1.trans e2)⟩
end
end Cp
namespace Cp
open PySem L2
def sp_law_refutes (K : PySem.W.Frag) : Sp := fun vs H Q _ => ∃ (r s : V) (rows : List Row) (p : List Stp), vs = [r, s] ∧ rRows.rel K H r rows ∧ rPaper.rel K H s (p.map Stp.key) ∧ (∀ x ∈ rows, Sides x.1 ∧ x.1.length ≤ 1000) ∧ Refutes rows p ∧ ∀ H', Same H H' → Q (.bl true) H'
section
seal L2.PSs L2.PS L2.PE L2.PT L2.PA L2.PG L2.PGs L2.PI L2.PW L2.PTs L2.OpR L2.UnR L2.CallR L2.IxR L2.SlR
variable {P : Program} {w : World} {K : PySem.W.Frag} {mg : Str → Option Value} {base : Heap}
theorem ok_law_refutes (T : Tx K mg) : FnOk P w K mg base CX0 4 T.f_law_refutes T.d_law_refutes P_law_refutes (sp_law_refutes K) := by
  have G_law_is_step := ok_law_is_step (P := P) (w := w) (base := base) T
  have G_law_line := ok_law_line (P := P) (w := w) (base := base) T
  refine T.law_refutes.fn.ok sc_law_refutes (fun vs H Q E h => ?_) (fun cdv A outer s H vs Q E hr h => ?_)
  · obtain ⟨r, s, rows, p, rfl, _⟩ := h
    rfl
  · obtain ⟨r, s, rows, paper, rfl, hrow, ⟨pa, pxs, rfl, hP1, pP⟩, hrs, ⟨gd, hlen, m, hm, l1, l2⟩, q⟩ := h
    have plen : pxs.length = paper.length := by rw [pP.length, List.length_map]
    refine ⟨_, (pss_cons (ps_if (PW.pt (pw_or (pt_not (pt_val (pe_callB (isinstK (K := K) rfl) (by rfl) T.b_isinstance bb_isinstance (pa_cons (pv 1) (pa_cons (pe_bltn (v := .ty "list") rfl T.b_list bb_list rfl) pa_nil))))) (pw_or (pt_cmpR op_eq (pe_callB (len_seqK (K := K) rfl) (by rfl) T.b_len bb_len (pa_cons (pv 1) pa_nil)) pe_int (nomark _)) (pw_or1 (pt_cmpR op_gt (pe_callB (len_seqK (K := K) rfl) (by rfl) T.b_len bb_len (pa_cons (pv 1) pa_nil)) pe_int (nomark _))))))
      (pss_one (ps_ret pe_bl))
      pss_nil)
      (pss_cons (ps_set (i := 2) sc_law_refutes.nd rfl (Or.inl rfl) (pe_lst pa_nil))
      (pss_cons (ps_for PassesOwn.never rfl (pi_listK (K := K) rfl (pv 1)) (pg_name (i := 3) sc_law_refutes.nd rfl (Or.inl rfl))
      (pss_cons (ps_if (pt_not (pt_val (pe_call G_law_is_step (hr.mono (by decide)) rfl T.law_is_step.mg T.law_is_step.fn.kp T.law_is_step.bd .nil pass0 (pa_cons (pv 3) pa_nil))))
      (pss_one (ps_ret pe_bl))
      pss_nil)
      (pss_cons (ps_set (i := 4) sc_law_refutes.nd rfl (Or.inl rfl) (pe_call G_law_line (hr.mono (by decide)) rfl T.law_line.mg T.law_line.fn.kp T.law_line.bd .nil pass0 (pa_cons (pv 0) (pa_cons (pv 2) (pa_cons (pv 3) pa_nil)))))
      (pss_cons (ps_if (pt_cmpR op_isN (pv 4) pe_non (nomark _))
      (pss_one (ps_ret pe_bl))
      pss_nil)
      (pss_one (ps_expr (pe_bm PySem.F.plainAttrs_list PySem.F.slot_list_append PySem.F.type_list_append mt_append (pv 2) (pa_cons (pv 4) pa_nil))))))))
      (pss_one (ps_ret (pe_and (pe_cmpR (op_eqRK (K := K) (repList (repPair repInt repInt)) rfl (hu_dep hr (by decide))) (pe_ix (ix_tupK (K := K) rfl) (pe_ix (ix_listK (K := K) rfl) (pv 2) (pe_un un_neg pe_int) (fun _ _ => rfl)) pe_int (fun _ _ => rfl)) (pe_lst pa_nil) (nomark _)) (pe_one (pe_cmpR op_ge (pe_ix (ix_tupK (K := K) rfl) (pe_ix (ix_listK (K := K) rfl) (pv 2) (pe_un un_neg pe_int) (fun _ _ => rfl)) pe_int (fun _ _ => rfl)) pe_int (nomark _))))))))), ?_⟩
    rw [show L2.start N_law_refutes [r, V.ref pa] = [some r, some (.ref pa), none, none, none] from rfl]
    refine seq_gen fun R hR => ?_
    (try walk_at "rd0")
    refine ⟨_, TyOf.lst hP1, true, kit_ll, ?_⟩
    try (try walk_at "rd0")
    refine ⟨_, .inl (SqL.of hP1), ?_⟩
    rw [if_neg (by omega)]
    refine ⟨_, .inl (SqL.of hP1), ?_⟩
    rw [if_neg (by omega)]
    refine hR _ _ ?_
    clear hR
    -- made
    refine seq_gen fun R hR => ?_
    (try walk_at "rd0")
    refine ⟨Nat.zero_le _, fun da hda => hR _ _ ?_⟩
    clear hR
    refine seq_gen fun R hR => for_l fun R1 hR1' => ?_
    (try walk_at "rd0")
    refine hR1' _ _ _ ((Same.new hda).seq (SqL.of hP1)) (loop_list (xs := pxs) (fun i σ H7 => ∃ (x y : Option V) (dxs : List V), σ = [some r, some (.ref pa), some (.ref da), x, y] ∧ Same H H7 ∧
      H7 da = some (.lst dxs) ∧ Paired (rRow.rel K (L2.del H7 da)) dxs (linesR rows (paper.take i))) ?_ ?_ ?_ ?_)
    · exact ⟨none, none, [], rfl, Same.new hda, upd_same, .nil⟩
    · rintro i σ H7 _ ⟨x, y, dxs, rfl, k1, _⟩
      exact k1.seq (SqL.of hP1)
    · rintro i x σ H7 N hx ⟨x0, y0, dxs, rfl, k1, k2, k3⟩ hN
      obtain ⟨ks, hks, hxk⟩ := pgetL pP hx
      rw [List.getElem?_map] at hks
      obtain ⟨st, hst, rfl⟩ := Option.map_eq_some_iff.mp hks
      have hi : i < paper.length := (List.getElem?_eq_some_iff.mp hst).1
      have hl1 : (linesR rows (paper.take i)).length = i := by
        rw [linesR_len rows _ _ rfl, List.length_take]
        omega
      have g1 : Goods rows.length (paper.take i) := fun j s q => gd j s (by
        rw [List.getElem?_take] at q
        split at q
        · exact q
        · cases q)
      have dl : dxs.length = i := by rw [k3.length, hl1]
      have hxk1 := rStep.mono k1 hxk
      change tSeq _ _ _ _ _
      refine seq_gen fun R hR => ?_
      ((try walk_at "rd0"); (try simp only [sp_law_is_step]); (try walk_at "rd0"))
      refine ⟨st, hxk1, fun H8 e8 => ?_⟩
      try (try walk_at "rd0")
      refine hR _ _ ?_
      clear hR
      have k1 := k1.trans e8
      have k2 := e8 _ _ k2
      have k3 := Paired.mapP k3 fun _ _ z => rRow.mono (same_del e8 (p := da)) z
      refine seq_gen fun R hR => ?_
      ((try walk_at "rd0"); (try simp only [sp_law_line]); (try walk_at "rd0"))
      refine ⟨dxs, st, rows, rRows.mono k1 hrow, k2, linesR rows (paper.take i), L2.del H8 da, Same.del, k3, rStep.mono k1 hxk, by rw [hl1]; exact gd i st hst, hrs, lines_tidy (fun r hr => (hrs r hr).1) g1, fun v H9 e9 hv => hR _ _ ?_⟩
      clear hR
      obtain ⟨vq, va, vx, rfl, VA⟩ := rowAt hv
      refine seq_gen fun R hR => ?_
      (try walk_at "rd0")
      refine hR _ _ ?_
      clear hR
      (try walk_at "rd0")
      refine ⟨⟨dxs, SqL.of (e9 _ _ k2)⟩, dxs, e9 _ _ k2, by rw [sizeLine_eq]; omega, hN _ _ ⟨_, _, dxs ++ [.ref vq], rfl, (k1.trans e9).upd_new hda, upd_same, ?_⟩⟩
      rw [del_upd, take_snoc hst, linesR_snoc]
      exact papp (Paired.mapP k3 fun _ _ z => rRow.mono (same_del e9) z) (.cons (rRow.mono (ad_del Same.del e9 k2 del_same) hv) .nil)
    rintro σ H7 ⟨x, y, dxs, rfl, k1, k2, k3⟩
    refine hR _ _ ?_
    clear hR hR1'
    rw [plen, List.take_length] at k3
    have dl : dxs.length = paper.length := by rw [k3.length, linesR_len rows _ paper rfl]
    obtain ⟨v, e1, rr, e2, hv⟩ := atI_pair k3 (i := (m : Int)) (by omega) (by rw [linesR_len rows _ paper rfl]; omega)
    have hv := rRow.mono Same.del hv
    obtain ⟨vq, va, vx, rfl, VA⟩ := rowAt hv
    have er : rr = LN rows paper m := by
      unfold LN
      rw [Int.toNat_natCast] at e2
      rw [List.getD_eq_getElem?_getD, e2]
      rfl
    rw [← er] at l1 l2
    have ev : atI dxs (-1) = some (V.ref vq) := by
      have e1' : dxs[m]? = some (V.ref vq) := by
        unfold atI ixN at e1
        rw [if_pos (by omega), if_pos (by omega)] at e1
        exact e1
      unfold atI ixN
      rw [if_neg (by decide), if_pos (by omega)]
      show dxs[(-1 + (dxs.length : Int)).toNat]? = _
      rw [show (-1 + (dxs.length : Int)).toNat = m by omega]
      exact e1'
    (try walk_at "rd17")
    refine ⟨_, SqL.of k2, _, ev, vq, rfl, _, SqT.of VA.tp, _, rfl, Nat.zero_le _, fun c hc => ?_⟩
    have e3 := Same.new (o := .lst []) hc
    refine ⟨rr.1, (VA.tm.mono e3).rel, [], ⟨c, [], rfl, upd_same, .nil⟩, ?_⟩
    rw [if_pos l1]
    refine ⟨_, SqL.of (e3 _ _ k2), _, ev, vq, rfl, _, SqT.of (e3 _ _ VA.tp), _, rfl, _, rfl, ?_⟩
    rw [show decide (1 ≤ rr.2) = true from decide_eq_true (by rw [l2]; decide)]
    exact q _ (k1.trans e3)
end
end Cp
namespace Cp
open PySem L2
def sp_law_is_filling (K : PySem.W.Frag) : Sp := fun vs H Q _ => ∃ (f r : V) (u : Int) (bs : List Bool) (rows : List Row), vs = [f, .int u, r] ∧ rFill.rel K H f bs ∧ (bs.length : Int) = u ∧ rRows.rel K H r rows ∧ (∀ x ∈ rows, InFill bs x.1 ∧ Hold bs x) ∧ Q (.bl true) H
section
seal L2.PSs L2.PS L2.PE L2.PT L2.PA L2.PG L2.PGs L2.PI L2.PW L2.PTs L2.OpR L2.UnR L2.CallR L2.IxR L2.SlR
variable {P : Program} {w : World} {K : PySem.W.Frag} {mg : Str → Option Value} {base : Heap}
theorem ok_law_is_filling (T : Tx K mg) : FnOk P w K mg base CX0 3 T.f_law_is_filling T.d_law_is_filling P_law_is_filling (sp_law_is_filling K) := by
  have G_law_holds := ok_law_holds (P := P) (w := w) (base := base) T
  refine T.law_is_filling.fn.ok sc_law_is_filling (fun vs H Q E h => ?_) (fun cdv A outer s H vs Q E hr h => ?_)
  · obtain ⟨f, r, u, bs, rows, rfl, _⟩ := h
    rfl
  · obtain ⟨f, r, u, bs, rows, rfl, hf, hl, ⟨ra, rx, rfl, hS, hp⟩, hrow, q⟩ := h
    obtain ⟨fa, fx, rfl, hF, pF⟩ := id hf
    have lf : fx.length = bs.length := pF.length
    refine ⟨_, (pss_cons (ps_if (PW.pt (pw_or (pt_not (pt_val (pe_callB (isinstK (K := K) rfl) (by rfl) T.b_isinstance bb_isinstance (pa_cons (pv 0) (pa_cons (pe_bltn (v := .ty "list") rfl T.b_list bb_list rfl) pa_nil))))) (pw_or1 (pt_cmpR op_ne (pe_callB (len_seqK (K := K) rfl) (by rfl) T.b_len bb_len (pa_cons (pv 0) pa_nil)) (pv 1) (nomark _)))))
      (pss_one (ps_ret pe_bl))
      pss_nil)
      (pss_cons (ps_for PassesOwn.never rfl (pi_listK (K := K) rfl (pv 0)) (pg_name (i := 3) sc_law_is_filling.nd rfl (Or.inl rfl))
      (pss_one (ps_if (pt_not (pt_val (pe_callB (isinstK (K := K) rfl) (by rfl) T.b_isinstance bb_isinstance (pa_cons (pv 3) (pa_cons (pe_bltn (v := .ty "bool") rfl T.b_bool bb_bool rfl) pa_nil)))))
      (pss_one (ps_ret pe_bl))
      pss_nil)))
      (pss_cons (ps_for PassesOwn.never rfl (pi_listK (K := K) rfl (pv 2)) (pg_name (i := 4) sc_law_is_filling.nd rfl (Or.inl rfl))
      (pss_one (ps_if (pt_not (pt_val (pe_call G_law_holds (hr.mono (by decide)) rfl T.law_holds.mg T.law_holds.fn.kp T.law_holds.bd .nil pass0 (pa_cons (pv 4) (pa_cons (pv 0) pa_nil)))))
      (pss_one (ps_ret pe_bl))
      pss_nil)))
      (pss_one (ps_ret pe_bl))))), ?_⟩
    rw [show L2.start N_law_is_filling [V.ref fa, V.int u, V.ref ra] = [some (.ref fa), some (.int u), some (.ref ra), none, none] from rfl]
    refine seq_gen fun R hR => ?_
    (try walk_at "rd0")
    refine ⟨_, TyOf.lst hF, true, kit_ll, ?_⟩
    try (try walk_at "rd0")
    refine ⟨_, .inl (SqL.of hF), ?_⟩
    rw [if_neg (by rw [lf, hl]; simp)]
    refine hR _ _ ?_
    clear hR
    refine seq_gen fun R hR => for_l fun R1 hR1 => ?_
    (try walk_at "rd0")
    refine hR1 _ _ _ (SqL.of hF) (loop_list (xs := fx) (fun i σ H2 => ∃ (x : Option V), σ = [some (.ref fa), some (.int u), some (.ref ra), x, none] ∧ H2 = H) ?_ ?_ ?_ ?_)
    · exact ⟨none, rfl, rfl⟩
    · rintro i σ H2 _ ⟨x, rfl, rfl⟩
      exact SqL.of hF
    · rintro i x σ H2 N hx ⟨x0, rfl, rfl⟩ hN
      obtain ⟨b, hb, hxb⟩ := pgetL pF hx
      obtain rfl : x = .bl b := hxb
      (try walk_at "rd0")
      refine ⟨_, TyOf.bl _, true, kit_bb, ?_⟩
      try (try walk_at "rd0")
      exact hN _ _ ⟨_, rfl, rfl⟩
    rintro σ H2 ⟨x, rfl, rfl⟩
    refine hR _ _ ?_
    clear hR hR1
    refine seq_gen fun R hR => for_l fun R1 hR1 => ?_
    (try walk_at "rd0")
    refine hR1 _ _ _ (SqL.of hS) (loop_list (xs := rx) (fun i σ H3 => ∃ (y : Option V), σ = [some (.ref fa), some (.int u), some (.ref ra), x, y] ∧ H3 = H2) ?_ ?_ ?_ ?_)
    · exact ⟨none, rfl, rfl⟩
    · rintro i σ H3 _ ⟨y, rfl, rfl⟩
      exact SqL.of hS
    · rintro i z σ H3 N hx ⟨y, rfl, rfl⟩ hN
      obtain ⟨r, hr2, hxr⟩ := pgetL hp hx
      obtain ⟨h1, h2⟩ := hrow r (List.mem_of_getElem? hr2)
      ((try walk_at "rd0"); (try simp only [sp_law_holds]); (try walk_at "rd0"))
      refine ⟨r, hxr, bs, hf, h1, ?_⟩
      rw [show decide (r.2 ≤ worth bs r.1) = true from decide_eq_true h2]
      try (try walk_at "rd0")
      exact hN _ _ ⟨_, rfl, rfl⟩
    rintro σ H3 ⟨y, rfl, rfl⟩
    refine hR _ _ ?_
    (try walk_at "rd0")
    exact q
end
end Cp
namespace Cp
open PySem L2
def sp_law_copied (K : PySem.W.Frag) : Sp := fun vs H Q _ => ∃ (r : V) (rows : List Row), vs = [r] ∧ rRows.rel K H r rows ∧ rows.length ≤ 1000 ∧ New rRows K H rows Q
section
seal L2.PSs L2.PS L2.PE L2.PT L2.PA L2.PG L2.PGs L2.PI L2.PW L2.PTs L2.OpR L2.UnR L2.CallR L2.IxR L2.SlR
variable {P : Program} {w : World} {K : PySem.W.Frag} {mg : Str → Option Value} {base : Heap}
theorem ok_law_copied (T : Tx K mg) : FnOk P w K mg base CX0 1 T.f_law_copied T.d_law_copied P_law_copied (sp_law_copied K) := by
  refine T.law_copied.fn.ok sc_law_copied (fun vs H Q E h => ?_) (fun cdv A outer s H vs Q E hr h => ?_)
  · obtain ⟨r, rows, rfl, _⟩ := h
    rfl
  · obtain ⟨r, rows, rfl, ⟨ra, rxs, rfl, hR1, pR⟩, hl, q⟩ := h
    refine ⟨_, (pss_one (ps_ret (pe_comp rfl (compOk_of (sc := defScope s_law_copied) (N := N_law_copied) (Nc := ["row"]) (im := [none]) rfl rfl (by decide +kernel)) (pi_listK (K := K) rfl (pv 0)) (by intro cl C fp s1 H1; exact ⟨(pg_name (i := 0) (by decide +kernel : List.Nodup (["row"] : List Str)) rfl (Or.inl rfl) (Or.inr rfl)), pts_nil, (pe_tup (pa_cons (pe_callTy (list_ofK (K := K) rfl) (by rfl) T.b_list bb_list (pa_cons (pe_ix (ix_tupK (K := K) rfl) (pv 0) pe_int (fun _ _ => rfl)) pa_nil)) (pa_cons (pe_ix (ix_tupK (K := K) rfl) (pv 0) pe_int (fun _ _ => rfl)) pa_nil)))⟩)))), ?_⟩
    rw [show L2.start N_law_copied [V.ref ra] = [some (.ref ra)] from rfl]
    (try walk_at "rd0")
    refine comp_l fun R1 hR1' => ?_
    (try walk_at "rd0")
    refine hR1' _ _ _ (SqL.of hR1) fun acc hacc => compL rRow rRow (fun _ => true) (fun r => r) (fun σ => ∃ v, σ = [v]) (SqL.of hR1) pR hl hacc ⟨none, rfl⟩ ?_ ?_
    · rintro x r σ H2 _ e hx ⟨v, rfl⟩ C hC
      obtain ⟨p, a, xs, rfl, RR⟩ := rowAt hx
      (try walk_at "rd0")
      refine hC _ _ _ rfl (Same.refl _) ⟨_, rfl⟩ fun _ D hD => ?_
      (try walk_at "rd0")
      refine ⟨_, SqT.of RR.tp, _, rfl, _, rfl, xs, .inl (SqL.of RR.tm.at_), fun c hc => ?_⟩
      have e1 : Same H2 (upd H2 c (.lst xs)) := Same.new hc
      refine ⟨_, SqT.of (e1 _ _ RR.tp), _, rfl, line_le (by simp), fun q1 hq1 => ?_⟩
      have e2 := Same.new (o := .tup [.ref c, .int r.2]) hq1
      exact hD _ _ (e1.trans e2) (newRow (e1.trans e2) hc ⟨upd_same, (RR.tm.copy hc).mono e2⟩)
    intro H1 e1 h1
    rw [filter_all, List.map_id'] at h1
    exact q _ _ e1 h1
end
end Cp
namespace Cp
open PySem L2
def sp_law (K : PySem.W.Frag) : Sp := fun vs H Q _ => ∃ (a : Addr) (ns : List Int), vs = [.ref a] ∧ SqL K H a (ns.map V.int) ∧ ns.length ≤ 63 ∧ ∀ H', Q (.bl true) H'
theorem sm_terms {c u size : Int} (h1 : 1 ≤ size) (h2 : size ≤ 17) : Sm 0 ((rowBy c u size).1, 0) := ⟨rowBy_wt, (rowBy_sm h1 h2).ln, ⟨Int.le_refl 0, Int.le_refl 0⟩⟩
section
seal L2.PSs L2.PS L2.PE L2.PT L2.PA L2.PG L2.PGs L2.PI L2.PW L2.PTs L2.OpR L2.UnR L2.CallR L2.IxR L2.SlR
variable {P : Program} {w : World} {K : PySem.W.Frag} {mg : Str → Option Value} {base : Heap}
theorem ok_law (T : Tx K mg) : FnOk P w K mg base CX0 26 T.f_law T.d_law P_law (sp_law K) := by
  have G_law_cell_at := ok_law_cell_at (P := P) (w := w) (base := base) T
  have G_law_whole := ok_law_whole (P := P) (w := w) (base := base) T
  have G_law_rows_by := ok_law_rows_by (P := P) (w := w) (base := base) T
  have G_law_row_by := ok_law_row_by (P := P) (w := w) (base := base) T
  have G_law_worth := ok_law_worth (P := P) (w := w) (base := base) T
  have G_law_copied := ok_law_copied (P := P) (w := w) (base := base) T
  have G_law_is_filling := ok_law_is_filling (P := P) (w := w) (base := base) T
  have G_law_refutes := ok_law_refutes (P := P) (w := w) (base := base) T
  have G_best := ok_best (P := P) (w := w) (base := base) T
  have G_worth := ok_worth (P := P) (w := w) (base := base) T
  refine T.law.fn.ok sc_law (fun vs H Q E h => ?_) (fun cdv A outer s H vs Q E hr h => ?_)
  · obtain ⟨a, ns, rfl, _⟩ := h
    rfl
  · obtain ⟨a, ns, rfl, hS, hlen, q⟩ := h
    refine ⟨_, (pss_cons (ps_set (i := 1) sc_law.nd rfl (Or.inl rfl) (pe_call G_law_cell_at (hr.mono (by decide)) rfl T.law_cell_at.mg T.law_cell_at.fn.kp T.law_cell_at.bd .nil pass0 (pa_cons (pv 0) (pa_cons pe_int pa_nil))))
      (pss_cons (ps_set (i := 2) sc_law.nd rfl (Or.inl rfl) (pe_op op_add pe_int (pe_op op_mod (pv 1) pe_int)))
      (pss_cons (ps_set (i := 3) sc_law.nd rfl (Or.inl rfl) (pe_op op_mod (pe_call G_law_cell_at (hr.mono (by decide)) rfl T.law_cell_at.mg T.law_cell_at.fn.kp T.law_cell_at.bd .nil pass0 (pa_cons (pv 0) (pa_cons pe_int pa_nil))) pe_int))
      (pss_cons (ps_if (pt_cmpR op_eq (pe_op op_mod (pe_op op_fdivB (pv 1) pe_int) pe_int) pe_int (nomark _))
      (pss_cons (ps_set (i := 2) sc_law.nd rfl (Or.inl rfl) (pe_op op_add pe_int (pe_op op_mod (pe_op op_fdivB (pv 1) pe_int) pe_int)))
      (pss_one (ps_set (i := 3) sc_law.nd rfl (Or.inl rfl) (pe_op op_mod (pe_call G_law_cell_at (hr.mono (by decide)) rfl T.law_cell_at.mg T.law_cell_at.fn.kp T.law_cell_at.bd .nil pass0 (pa_cons (pv 0) (pa_cons pe_int pa_nil))) pe_int))))
      pss_nil)
      (pss_cons (ps_set (i := 4) sc_law.nd rfl (Or.inl rfl) (pe_call G_law_rows_by (hr.mono (by decide)) rfl T.law_rows_by.mg T.law_rows_by.fn.kp T.law_rows_by.bd .nil pass0 (pa_cons (pv 0) (pa_cons pe_int (pa_cons (pv 3) (pa_cons (pv 2) pa_nil))))))
      (pss_cons (ps_set (i := 5) sc_law.nd rfl (Or.inl rfl) (pe_ix (ix_tupK (K := K) rfl) (pe_call G_law_row_by (hr.mono (by decide)) rfl T.law_row_by.mg T.law_row_by.fn.kp T.law_row_by.bd .nil pass0 (pa_cons (pe_call G_law_cell_at (hr.mono (by decide)) rfl T.law_cell_at.mg T.law_cell_at.fn.kp T.law_cell_at.bd .nil pass0 (pa_cons (pv 0) (pa_cons pe_int pa_nil))) (pa_cons (pv 2) (pa_cons pe_int pa_nil)))) pe_int (fun _ _ => rfl)))
      (pss_cons (ps_if (pt_cmpR op_eq (pe_op op_mod (pe_op op_fdivB (pe_call G_law_cell_at (hr.mono (by decide)) rfl T.law_cell_at.mg T.law_cell_at.fn.kp T.law_cell_at.bd .nil pass0 (pa_cons (pv 0) (pa_cons pe_int pa_nil))) pe_int) pe_int) pe_int (nomark _))
      (pss_one (ps_set (i := 5) sc_law.nd rfl (Or.inl rfl) (pe_ix (ix_tupK (K := K) rfl) (pe_call G_law_row_by (hr.mono (by decide)) rfl T.law_row_by.mg T.law_row_by.fn.kp T.law_row_by.bd .nil pass0 (pa_cons (pe_call G_law_cell_at (hr.mono (by decide)) rfl T.law_cell_at.mg T.law_cell_at.fn.kp T.law_cell_at.bd .nil pass0 (pa_cons (pv 0) (pa_cons pe_int pa_nil))) (pa_cons (pv 2) (pa_cons pe_int pa_nil)))) pe_int (fun _ _ => rfl))))
      pss_nil)
      (pss_cons (ps_set (i := 6) sc_law.nd rfl (Or.inl rfl) (pe_call G_law_copied (hr.mono (by decide)) rfl T.law_copied.mg T.law_copied.fn.kp T.law_copied.bd .nil pass0 (pa_cons (pv 4) pa_nil)))
      (pss_cons (ps_set (i := 7) sc_law.nd rfl (Or.inl rfl) (pe_callTy (list_ofK (K := K) rfl) (by rfl) T.b_list bb_list (pa_cons (pv 5) pa_nil)))
      (pss_cons (ps_set (i := 8) sc_law.nd rfl (Or.inl rfl) (pe_call G_best (hr.mono (by decide)) rfl T.best.mg T.best.fn.kp T.best.bd .nil pass0 (pa_cons (pv 2) (pa_cons (pv 6) (pa_cons (pv 7) pa_nil)))))
      (pss_cons (ps_if (PW.pt (pw_or (pt_cmpR (op_neRK (K := K) (repList (repPair (repList (repPair repInt repInt)) repInt)) rfl (hu_dep hr (by decide))) (pv 6) (pv 4) (nomark _)) (pw_or (pt_cmpR (op_neRK (K := K) (repList (repPair repInt repInt)) rfl (hu_dep hr (by decide))) (pv 7) (pv 5) (nomark _)) (pw_or (pt_not (pt_val (pe_callB (isinstK (K := K) rfl) (by rfl) T.b_isinstance bb_isinstance (pa_cons (pv 8) (pa_cons (pe_bltn (v := .ty "tuple") rfl T.b_tuple bb_tuple rfl) pa_nil))))) (pw_or1 (pt_cmpR op_lt (pe_callB (len_seqK (K := K) rfl) (by rfl) T.b_len bb_len (pa_cons (pv 8) pa_nil)) pe_int (nomark _)))))))
      (pss_one (ps_ret pe_bl))
      pss_nil)
      (pss_cons (ps_if (pt_cmpR op_eq (pe_ix (ix_tupK (K := K) rfl) (pv 8) pe_int (fun _ _ => rfl)) pe_str (nomark _))
      (pss_one (ps_ret (pe_and (pe_cmpR op_eq (pe_callB (len_seqK (K := K) rfl) (by rfl) T.b_len bb_len (pa_cons (pv 8) pa_nil)) pe_int (nomark _)) (pe_one (pe_call G_law_refutes (hr.mono (by decide)) rfl T.law_refutes.mg T.law_refutes.fn.kp T.law_refutes.bd .nil pass0 (pa_cons (pv 4) (pa_cons (pe_ix (ix_tupK (K := K) rfl) (pv 8) pe_int (fun _ _ => rfl)) pa_nil)))))))
      pss_nil)
      (pss_cons (ps_if (PW.pt (pw_or (pt_cmpR op_ne (pe_ix (ix_tupK (K := K) rfl) (pv 8) pe_int (fun _ _ => rfl)) pe_str (nomark _)) (pw_or (pt_cmpR op_ne (pe_callB (len_seqK (K := K) rfl) (by rfl) T.b_len bb_len (pa_cons (pv 8) pa_nil)) pe_int (nomark _)) (pw_or1 (pt_not (pt_val (pe_call G_law_is_filling (hr.mono (by decide)) rfl T.law_is_filling.mg T.law_is_filling.fn.kp T.law_is_filling.bd .nil pass0 (pa_cons (pe_ix (ix_tupK (K := K) rfl) (pv 8) pe_int (fun _ _ => rfl)) (pa_cons (pv 2) (pa_cons (pv 4) pa_nil))))))))))
      (pss_one (ps_ret pe_bl))
      pss_nil)
      (pss_cons (ps_set (i := 9) sc_law.nd rfl (Or.inl rfl) (pe_call G_law_worth (hr.mono (by decide)) rfl T.law_worth.mg T.law_worth.fn.kp T.law_worth.bd .nil pass0 (pa_cons (pv 5) (pa_cons (pe_ix (ix_tupK (K := K) rfl) (pv 8) pe_int (fun _ _ => rfl)) pa_nil))))
      (pss_cons (ps_set (i := 10) sc_law.nd rfl (Or.inl rfl) (pe_call G_worth (hr.mono (by decide)) rfl T.worth.mg T.worth.fn.kp T.worth.bd .nil pass0 (pa_cons (pv 7) (pa_cons (pe_callTy (list_ofK (K := K) rfl) (by rfl) T.b_list bb_list (pa_cons (pe_ix (ix_tupK (K := K) rfl) (pv 8) pe_int (fun _ _ => rfl)) pa_nil)) pa_nil))))
      (pss_cons (ps_if (PW.pt (pw_or (pt_not (pt_val (pe_call G_law_whole (hr.mono (by decide)) rfl T.law_whole.mg T.law_whole.fn.kp T.law_whole.bd .nil pass0 (pa_cons (pe_ix (ix_tupK (K := K) rfl) (pv 8) pe_int (fun _ _ => rfl)) pa_nil)))) (pw_or (pt_cmpR op_ne (pe_ix (ix_tupK (K := K) rfl) (pv 8) pe_int (fun _ _ => rfl)) (pv 9) (nomark _)) (pw_or (pt_not (pt_val (pe_call G_law_whole (hr.mono (by decide)) rfl T.law_whole.mg T.law_whole.fn.kp T.law_whole.bd .nil pass0 (pa_cons (pv 10) pa_nil)))) (pw_or1 (pt_cmpR op_ne (pv 10) (pv 9) (nomark _)))))))
      (pss_one (ps_ret pe_bl))
      pss_nil)
      (pss_one (ps_ret (pe_call G_law_refutes (hr.mono (by decide)) rfl T.law_refutes.mg T.law_refutes.fn.kp T.law_refutes.bd .nil pass0 (pa_cons (pe_op op_cat (pv 4) (pe_lst (pa_cons (pe_tup (pa_cons (pv 5) (pa_cons (pe_op op_add (pv 9) pe_int) pa_nil))) pa_nil))) (pa_cons (pe_ix (ix_tupK (K := K) rfl) (pv 8) pe_int (fun _ _ => rfl)) pa_nil))))))))))))))))))))), ?_⟩
    rw [show L2.start N_law [V.ref a] = [some (.ref a), none, none, none, none, none, none, none, none, none, none] from rfl]
    -- head, unknowns, many
    refine seq_gen fun R hR => ?_
    ((try walk_at "rd0"); (try simp only [sp_law_cell_at]); (try walk_at "rd0"))
    refine ⟨ns, hS, by decide, hR _ _ ?_⟩
    clear hR
    generalize ns.getD (Int.toNat 0) 0 = head
    refine seq_gen fun R hR => ?_
    (try walk_at "rd0")
    refine ⟨by decide, hR _ _ ?_⟩
    clear hR
    refine seq_gen fun R hR => ?_
    ((try walk_at "rd0"); (try simp only [sp_law_cell_at]); (try walk_at "rd0"))
    refine ⟨ns, hS, by decide, by decide, hR _ _ ?_⟩
    clear hR
    refine seq_gen fun R hR => ?_
    suffices key : ∀ U M : Int, (1 ≤ U ∧ U ≤ 8) → (0 ≤ M ∧ M ≤ 6) → R [some (.ref a), some (.int head), some (.int U), some (.int M), none, none, none, none, none, none, none] H by
      refine ifs_gen fun R4 hR4 => ?_
      (try walk_at "rd0")
      refine ⟨⟨by decide, by decide⟩, by decide, hR4 _ _ (fun _ => ?_) (fun _ => ?_)⟩
      · ((try walk_at "rd0"); (try simp only [sp_law_cell_at]); (try walk_at "rd0"))
        refine ⟨⟨by decide, by decide⟩, by decide, ns, hS, by decide, by decide, key _ _ (by omega) (by omega)⟩
      · exact key _ _ (by omega) (by omega)
    intro U M hU hM
    refine hR _ _ ?_
    clear hR
    -- rows
    refine seq_gen fun R hR => ?_
    ((try walk_at "rd0"); (try simp only [sp_law_rows_by]); (try walk_at "rd0"))
    refine ⟨ns, hS, by decide, by omega, by omega, by omega, by omega, fun v H1 e1 hv => hR _ _ ?_⟩
    clear hR
    have hv := New.up hv
    have hS := e1.seq hS
    have hr1 : ∀ r ∈ rowsBy ns 3 M U, Of U r ∧ Sm 100000000 r := fun r hr => by
      obtain ⟨k, _, rfl⟩ := List.mem_map.mp hr
      exact ⟨rowBy_sides hU.1, (rowBy_sm (by decide) (by decide)).mono (by decide)⟩
    have hl1 : (rowsBy ns 3 M U).length ≤ 6 := by
      rw [rowsBy_len]
      omega
    generalize rowsBy ns 3 M U = rows at *
    clear e1
    -- terms
    refine seq_gen fun R hR => ?_
    ((try walk_at "rd0"); (try simp only [sp_law_cell_at, sp_law_row_by]); (try walk_at "rd0"))
    refine ⟨ns, hS, by decide, by omega, by omega, by decide, by decide, fun v2 H2 e2 hv2 => ?_⟩
    obtain ⟨rq, ra, rx, rfl, hra, RA⟩ := rowNew e2 hv2
    try (try walk_at "rd0")
    refine ⟨_, SqT.of RA.tp, _, rfl, hR _ _ ?_⟩
    clear hR hv2
    have hS2 := e2.seq hS
    have hv := rRows.mono e2 hv
    refine seq_gen fun R hR => ?_
    suffices key : ∀ (tv : V) (H3 : Hp) (ts : List (Int × Int)), rTerms.rel K H3 tv ts → rRows.rel K H3 v rows → Of U (ts, 0) → Sm 0 (ts, 0) → R [some (.ref a), some (.int head), some (.int U), some (.int M), some v, some tv, none, none, none, none, none] H3 by
      ((try walk_at "rd0"); (try simp only [sp_law_cell_at, sp_law_row_by]); (try walk_at "rd0"))
      refine ⟨ns, hS2, by decide, ⟨by decide, by decide⟩, by decide, ite2 (fun _ => ?_) (fun _ => ?_)⟩
      · refine ⟨ns, hS2, by decide, by omega, by omega, by decide, by decide, fun v3 H3 e3 hv3 => ?_⟩
        obtain ⟨rq3, ra3, rx3, rfl, hra3, RA3⟩ := rowNew e3 hv3
        try (try walk_at "rd0")
        exact ⟨_, SqT.of RA3.tp, _, rfl, key _ _ _ RA3.tm.rel (rRows.mono e3 hv) (rowBy_sides hU.1) (sm_terms (by decide) (by decide))⟩
      · exact key _ _ _ RA.tm.rel hv (rowBy_sides hU.1) (sm_terms (by decide) (by decide))
    intro tv H3 ts htv hv hot hsm
    refine hR _ _ ?_
    clear hR hS hS2 e2 RA hra
    have hln : ts.length ≤ 20 := hsm.ln
    -- handed
    refine seq_gen fun R hR => ?_
    ((try walk_at "rd0"); (try simp only [sp_law_copied]); (try walk_at "rd0"))
    refine ⟨rows, hv, by omega, fun hd H4 e4 hh => hR _ _ ?_⟩
    clear hR
    have hh := New.up hh
    have hv := rRows.mono e4 hv
    have htv := rTerms.mono e4 htv
    -- given
    obtain ⟨ta, tx, rfl, hT, pT⟩ := id htv
    refine seq_gen fun R hR => ?_
    (try walk_at "rd0")
    refine ⟨tx, .inl (SqL.of hT), fun gv hgv => hR _ _ ?_⟩
    clear hR
    have e5 := Same.new (o := .lst tx) hgv
    have hg : rTerms.rel K (upd H4 gv (.lst tx)) (.ref gv) ts := ⟨gv, tx, rfl, upd_same, Paired.mapP pT fun _ _ z => rTerm.mono e5 z⟩
    have hh := rRows.mono e5 hh
    have hv := rRows.mono e5 hv
    have htv := rTerms.mono e5 htv
    generalize upd H4 gv (.lst tx) = H5 at *
    clear e4 e5 hT pT hgv
    -- found
    refine seq_gen fun R hR => ?_
    ((try walk_at "rd0"); (try simp only [sp_best]); (try walk_at "rd0"))
    refine ⟨rows, hh, ts, hg, by omega, by omega, hr1, hot, hsm, by omega, fun t pv H6 p e6 ht hp hrf => hR _ _ ?_, fun t fv pv H6 bs p b1 b2 e6 ht hf hp hrf => hR _ _ ?_⟩
    all_goals
      clear hR
      have hh := rRows.mono e6 hh
      have hv := rRows.mono e6 hv
      have hg := rTerms.mono e6 hg
      have htv := rTerms.mono e6 htv
      refine seq_gen fun R hR => ?_
      (try walk_at "rd18")
      refine ⟨rows, hh, rows, hv, ?_⟩
      (try walk_at "rd0")
      refine ⟨ts, hg, ts, htv, ?_⟩
      (try walk_at "rd0")
      refine ⟨_, TyOf.tup ht, true, kit_tt, ?_⟩
      (try walk_at "rd0")
      refine ⟨_, .inr (SqT.of ht), ?_⟩
      rw [if_neg (by simp)]
      refine hR _ _ ?_
      clear hR
      refine seq_gen fun R hR => ?_
      (try walk_at "rd0")
      refine ⟨_, SqT.of ht, _, rfl, ?_⟩
    · ((try walk_at "rd15"); (try simp only [sp_law_refutes]); (try walk_at "rd15"))
      refine ⟨_, .inr (SqT.of ht), ?_⟩
      rw [if_pos (by simp)]
      exact ⟨_, SqT.of ht, _, rfl, rows, hv, p, hp, fun x hx => ⟨sides_of (by omega) (hr1 x hx).1, by have := (hr1 x hx).2.ln; omega⟩, hrf, fun H7 _ => q _⟩
    · (try walk_at "rd15")
      refine hR _ _ ?_
      clear hR
      refine seq_gen fun R hR => ?_
      ((try walk_at "rd0"); (try simp only [sp_law_is_filling]); (try walk_at "rd0"))
      refine ⟨_, SqT.of ht, _, rfl, ?_⟩
      (try walk_at "rd15")
      refine ⟨_, .inr (SqT.of ht), ?_⟩
      rw [if_neg (by simp)]
      refine ⟨_, SqT.of ht, _, rfl, bs, hf, b1, rows, hv, fun x hx => ⟨inFill_of b1 (hr1 x hx).1, b2 x hx⟩, ?_⟩
      refine hR _ _ ?_
      clear hR
      -- due
      refine seq_gen fun R hR => ?_
      ((try walk_at "rd0"); (try simp only [sp_law_worth]); (try walk_at "rd0"))
      refine ⟨_, SqT.of ht, _, rfl, ts, htv, bs, hf, inFill_of b1 hot, hR _ _ ?_⟩
      clear hR
      -- told
      obtain ⟨fa, fx, rfl, hF, pF⟩ := id hf
      refine seq_gen fun R hR => ?_
      ((try walk_at "rd0"); (try simp only [sp_worth]); (try walk_at "rd0"))
      refine ⟨_, SqT.of ht, _, rfl, fa, rfl, fx, .inl (SqL.of hF), fun c hc => ?_⟩
      have e7 := Same.new (o := .lst fx) hc
      refine ⟨ts, rTerms.mono e7 hg, bs, ⟨c, fx, rfl, upd_same, Paired.mapP pF fun _ _ z => repBl.mono e7 z⟩, inFill_of b1 hot, by omega, fun H8 e8 => hR _ _ ?_⟩
      clear hR
      have E8 := e7.trans e8
      have ht := E8 _ _ ht
      have hv := rRows.mono E8 hv
      have htv := rTerms.mono E8 htv
      have hp := rPaper.mono E8 hp
      clear e7 e8 E8 hF pF hf hc
      -- the worth
      refine seq_gen fun R hR => ?_
      refine ifs_gen fun R4 hR4 => ?_
      ((try walk_at "rd0"); (try simp only [sp_law_whole]); (try walk_at "rd0"))
      refine ⟨_, SqT.of ht, _, rfl, _, rfl, ?_⟩
      try (try walk_at "rd0")
      refine ⟨_, SqT.of ht, _, rfl, rfl, ?_⟩
      rw [if_neg (by simp)]
      refine hR4 _ _ (fun z => absurd z (by decide)) fun _ => hR _ _ ?_
      clear hR hR4
      -- the paper
      obtain ⟨va, vx, rfl, hV, pV⟩ := id hv
      have vl : vx.length = rows.length := pV.length
      ((try walk_at "rd4"); (try simp only [sp_law_refutes]); (try walk_at "rd4"))
      refine ⟨line_le (by simp), fun t1 ht1 => ⟨line_le (by simp), fun l1 hl1 => ?_⟩⟩
      have f1 := Same.new (o := .tup [.ref ta, .int (worth bs ts + 1)]) ht1
      have f2 := Same.new (o := .lst [.ref t1]) hl1
      refine ⟨vx, (f1.trans f2) _ _ hV, _, upd_same, line_le (by simp; omega), fun d hd => ?_⟩
      have f3 := Same.new (o := .lst (vx ++ [.ref t1])) hd
      have F := (f1.trans f2).trans f3
      refine ⟨_, SqT.of (F _ _ ht), _, rfl, rows ++ [moreR ts bs], ⟨d, _, rfl, upd_same, papp (Paired.mapP pV fun _ _ z => rRow.mono F z) (.cons ⟨t1, _, _, rfl, (f2.trans f3) _ _ upd_same, rTerms.mono F htv, rfl⟩ .nil)⟩, p, rPaper.mono F hp, fun x hx => ?_, hrf, fun H9 _ => q _⟩
      have := fit_more (bs := bs) hr1 hot hsm x hx
      exact ⟨sides_of (by omega) this.1, by have := this.2.ln; omega⟩
end
end Cp
end
@[reducible] def PySem.W.Fast.tw2044597373592774680 : Unit := ()
@[reducible] def PySem.W.Fast.tw12252203221073388978 : Unit := ()
@[reducible] def PySem.W.Fast.tw16967321885197085943 : Unit := ()
@[reducible] def PySem.W.Fast.tw457370610845081574 : Unit := ()
@[reducible] def PySem.W.Fast.tw11585170096721829605 : Unit := ()
@[reducible] def PySem.W.Fast.tw2577254291975988371 : Unit := ()
namespace Cp
open PySem L2
theorem all_mk {l : PySem.W.OpenLaw} {w : World} {K : PySem.W.Frag} {h : Heap} {mg : Str → Option Value} {fa : Addr} (X : K.In h) (G : h.Ns mainGlobals mg) (hfa : mg "law" = some (.ref fa))
    {C_Writer : Addr}
    {f0 : Addr} {od0 an0 : Option Addr} {sl0 : Array (Option Value)} {oc0 kV0 dc0 pm0 cd0 ct0 : Value}
    {f1 : Addr} {od1 an1 : Option Addr} {sl1 : Array (Option Value)} {oc1 kV1 dc1 pm1 cd1 ct1 : Value}
    {f2 : Addr} {od2 an2 : Option Addr} {sl2 : Array (Option Value)} {oc2 kV2 dc2 pm2 cd2 ct2 : Value}
    {f3 : Addr} {od3 an3 : Option Addr} {sl3 : Array (Option Value)} {oc3 kV3 dc3 pm3 cd3 ct3 : Value}
    {f4 : Addr} {od4 an4 : Option Addr} {sl4 : Array (Option Value)} {oc4 kV4 dc4 pm4 cd4 ct4 : Value}
    {f5 : Addr} {od5 an5 : Option Addr} {sl5 : Array (Option Value)} {oc5 kV5 dc5 pm5 cd5 ct5 : Value}
    {f6 : Addr} {od6 an6 : Option Addr} {sl6 : Array (Option Value)} {oc6 kV6 dc6 pm6 cd6 ct6 : Value}
    {f7 : Addr} {od7 an7 : Option Addr} {sl7 : Array (Option Value)} {oc7 kV7 dc7 pm7 cd7 ct7 : Value}
    {f8 : Addr} {od8 an8 : Option Addr} {sl8 : Array (Option Value)} {oc8 kV8 dc8 pm8 cd8 ct8 : Value}
    {f9 : Addr} {od9 an9 : Option Addr} {sl9 : Array (Option Value)} {oc9 kV9 dc9 pm9 cd9 ct9 : Value}
    {f10 : Addr} {od10 an10 : Option Addr} {sl10 : Array (Option Value)} {oc10 kV10 dc10 pm10 cd10 ct10 : Value}
    {f11 : Addr} {od11 an11 : Option Addr} {sl11 : Array (Option Value)} {oc11 kV11 dc11 pm11 cd11 ct11 : Value}
    {f12 : Addr} {od12 an12 : Option Addr} {sl12 : Array (Option Value)} {oc12 kV12 dc12 pm12 cd12 ct12 : Value}
    {f13 : Addr} {od13 an13 : Option Addr} {sl13 : Array (Option Value)} {oc13 kV13 dc13 pm13 cd13 ct13 : Value}
    {f14 : Addr} {od14 an14 : Option Addr} {sl14 : Array (Option Value)} {oc14 kV14 dc14 pm14 cd14 ct14 : Value}
    {f15 : Addr} {od15 an15 : Option Addr} {sl15 : Array (Option Value)} {oc15 kV15 dc15 pm15 cd15 ct15 : Value}
    {f16 : Addr} {od16 an16 : Option Addr} {sl16 : Array (Option Value)} {oc16 kV16 dc16 pm16 cd16 ct16 : Value}
    {f17 : Addr} {od17 an17 : Option Addr} {sl17 : Array (Option Value)} {oc17 kV17 dc17 pm17 cd17 ct17 : Value}
    {f18 : Addr} {od18 an18 : Option Addr} {sl18 : Array (Option Value)} {oc18 kV18 dc18 pm18 cd18 ct18 : Value}
    {f19 : Addr} {od19 an19 : Option Addr} {sl19 : Array (Option Value)} {oc19 kV19 dc19 pm19 cd19 ct19 : Value}
    {f20 : Addr} {od20 an20 : Option Addr} {sl20 : Array (Option Value)} {oc20 kV20 dc20 pm20 cd20 ct20 : Value}
    {f21 : Addr} {od21 an21 : Option Addr} {sl21 : Array (Option Value)} {oc21 kV21 dc21 pm21 cd21 ct21 : Value}
    {f22 : Addr} {od22 an22 : Option Addr} {sl22 : Array (Option Value)} {oc22 kV22 dc22 pm22 cd22 ct22 : Value}
    {f23 : Addr} {od23 an23 : Option Addr} {sl23 : Array (Option Value)} {oc23 kV23 dc23 pm23 cd23 ct23 : Value}
    {f24 : Addr} {od24 an24 : Option Addr} {sl24 : Array (Option Value)} {oc24 kV24 dc24 pm24 cd24 ct24 : Value}
    {f25 : Addr} {od25 an25 : Option Addr} {sl25 : Array (Option Value)} {oc25 kV25 dc25 pm25 cd25 ct25 : Value}
    {f26 : Addr} {od26 an26 : Option Addr} {sl26 : Array (Option Value)} {oc26 kV26 dc26 pm26 cd26 ct26 : Value}
    {f27 : Addr} {od27 an27 : Option Addr} {sl27 : Array (Option Value)} {oc27 kV27 dc27 pm27 cd27 ct27 : Value}
    {f28 : Addr} {od28 an28 : Option Addr} {sl28 : Array (Option Value)} {oc28 kV28 dc28 pm28 cd28 ct28 : Value}
    {f29 : Addr} {od29 an29 : Option Addr} {sl29 : Array (Option Value)} {oc29 kV29 dc29 pm29 cd29 ct29 : Value}
    {f30 : Addr} {od30 an30 : Option Addr} {sl30 : Array (Option Value)} {oc30 kV30 dc30 pm30 cd30 ct30 : Value}
    {f31 : Addr} {od31 an31 : Option Addr} {sl31 : Array (Option Value)} {oc31 kV31 dc31 pm31 cd31 ct31 : Value}
    {f32 : Addr} {od32 an32 : Option Addr} {sl32 : Array (Option Value)} {oc32 kV32 dc32 pm32 cd32 ct32 : Value}
    {f33 : Addr} {od33 an33 : Option Addr} {sl33 : Array (Option Value)} {oc33 kV33 dc33 pm33 cd33 ct33 : Value}
    {f34 : Addr} {od34 an34 : Option Addr} {sl34 : Array (Option Value)} {oc34 kV34 dc34 pm34 cd34 ct34 : Value}
    {f35 : Addr} {od35 an35 : Option Addr} {sl35 : Array (Option Value)} {oc35 kV35 dc35 pm35 cd35 ct35 : Value}
    {f36 : Addr} {od36 an36 : Option Addr} {sl36 : Array (Option Value)} {oc36 kV36 dc36 pm36 cd36 ct36 : Value}
    {f37 : Addr} {od37 an37 : Option Addr} {sl37 : Array (Option Value)} {oc37 kV37 dc37 pm37 cd37 ct37 : Value}
    {f38 : Addr} {od38 an38 : Option Addr} {sl38 : Array (Option Value)} {oc38 kV38 dc38 pm38 cd38 ct38 : Value}
    {f39 : Addr} {od39 an39 : Option Addr} {sl39 : Array (Option Value)} {oc39 kV39 dc39 pm39 cd39 ct39 : Value}
    {f40 : Addr} {od40 an40 : Option Addr} {sl40 : Array (Option Value)} {oc40 kV40 dc40 pm40 cd40 ct40 : Value}
    {f41 : Addr} {od41 an41 : Option Addr} {sl41 : Array (Option Value)} {oc41 kV41 dc41 pm41 cd41 ct41 : Value}
    {f42 : Addr} {od42 an42 : Option Addr} {sl42 : Array (Option Value)} {oc42 kV42 dc42 pm42 cd42 ct42 : Value}
    {f43 : Addr} {od43 an43 : Option Addr} {sl43 : Array (Option Value)} {oc43 kV43 dc43 pm43 cd43 ct43 : Value}
    {f44 : Addr} {od44 an44 : Option Addr} {sl44 : Array (Option Value)} {oc44 kV44 dc44 pm44 cd44 ct44 : Value}
    {f45 : Addr} {od45 an45 : Option Addr} {sl45 : Array (Option Value)} {oc45 kV45 dc45 pm45 cd45 ct45 : Value}
    (g_Writer : PySem.W.nsIn K mainGlobals "Writer" = some (some (.ref C_Writer)))
    (a0 : PySem.W.nsIn K mainGlobals "is_met" = some (some (.ref f0))) (l0 : K.lookup f0 = some ⟨oc0, od0, .func (PySem.W.fnOf "is_met" "is_met" (defArgs s_is_met) (defBody s_is_met) (defScope s_is_met) .none kV0 dc0 pm0 an0 cd0 ct0), sl0⟩) (c0 : PySem.W.codeIn K cd0 "is_met" = true) (k0 : PySem.W.keepIn K (.ref f0) = true)
    (a1 : PySem.W.nsIn K mainGlobals "other_side" = some (some (.ref f1))) (l1 : K.lookup f1 = some ⟨oc1, od1, .func (PySem.W.fnOf "other_side" "other_side" (defArgs s_other_side) (defBody s_other_side) (defScope s_other_side) .none kV1 dc1 pm1 an1 cd1 ct1), sl1⟩) (c1 : PySem.W.codeIn K cd1 "other_side" = true) (k1 : PySem.W.keepIn K (.ref f1) = true)
    (a2 : PySem.W.nsIn K mainGlobals "met_weight" = some (some (.ref f2))) (l2 : K.lookup f2 = some ⟨oc2, od2, .func (PySem.W.fnOf "met_weight" "met_weight" (defArgs s_met_weight) (defBody s_met_weight) (defScope s_met_weight) .none kV2 dc2 pm2 an2 cd2 ct2), sl2⟩) (c2 : PySem.W.codeIn K cd2 "met_weight" = true) (k2 : PySem.W.keepIn K (.ref f2) = true)
    (a3 : PySem.W.nsIn K mainGlobals "weights_by_side" = some (some (.ref f3))) (l3 : K.lookup f3 = some ⟨oc3, od3, .func (PySem.W.fnOf "weights_by_side" "weights_by_side" (defArgs s_weights_by_side) (defBody s_weights_by_side) (defScope s_weights_by_side) .none kV3 dc3 pm3 an3 cd3 ct3), sl3⟩) (c3 : PySem.W.codeIn K cd3 "weights_by_side" = true) (k3 : PySem.W.keepIn K (.ref f3) = true)
    (a4 : PySem.W.nsIn K mainGlobals "tidy" = some (some (.ref f4))) (l4 : K.lookup f4 = some ⟨oc4, od4, .func (PySem.W.fnOf "tidy" "tidy" (defArgs s_tidy) (defBody s_tidy) (defScope s_tidy) .none kV4 dc4 pm4 an4 cd4 ct4), sl4⟩) (c4 : PySem.W.codeIn K cd4 "tidy" = true) (k4 : PySem.W.keepIn K (.ref f4) = true)
    (a5 : PySem.W.nsIn K mainGlobals "added" = some (some (.ref f5))) (l5 : K.lookup f5 = some ⟨oc5, od5, .func (PySem.W.fnOf "added" "added" (defArgs s_added) (defBody s_added) (defScope s_added) .none kV5 dc5 pm5 an5 cd5 ct5), sl5⟩) (c5 : PySem.W.codeIn K cd5 "added" = true) (k5 : PySem.W.keepIn K (.ref f5) = true)
    (a6 : PySem.W.nsIn K mainGlobals "times" = some (some (.ref f6))) (l6 : K.lookup f6 = some ⟨oc6, od6, .func (PySem.W.fnOf "times" "times" (defArgs s_times) (defBody s_times) (defScope s_times) .none kV6 dc6 pm6 an6 cd6 ct6), sl6⟩) (c6 : PySem.W.codeIn K cd6 "times" = true) (k6 : PySem.W.keepIn K (.ref f6) = true)
    (a7 : PySem.W.nsIn K mainGlobals "divided_up" = some (some (.ref f7))) (l7 : K.lookup f7 = some ⟨oc7, od7, .func (PySem.W.fnOf "divided_up" "divided_up" (defArgs s_divided_up) (defBody s_divided_up) (defScope s_divided_up) .none kV7 dc7 pm7 an7 cd7 ct7), sl7⟩) (c7 : PySem.W.codeIn K cd7 "divided_up" = true) (k7 : PySem.W.keepIn K (.ref f7) = true)
    (a8 : PySem.W.nsIn K mainGlobals "cut" = some (some (.ref f8))) (l8 : K.lookup f8 = some ⟨oc8, od8, .func (PySem.W.fnOf "cut" "cut" (defArgs s_cut) (defBody s_cut) (defScope s_cut) .none kV8 dc8 pm8 an8 cd8 ct8), sl8⟩) (c8 : PySem.W.codeIn K cd8 "cut" = true) (k8 : PySem.W.keepIn K (.ref f8) = true)
    (a9 : PySem.W.nsIn K mainGlobals "sized" = some (some (.ref f9))) (l9 : K.lookup f9 = some ⟨oc9, od9, .func (PySem.W.fnOf "sized" "sized" (defArgs s_sized) (defBody s_sized) (defScope s_sized) .none kV9 dc9 pm9 an9 cd9 ct9), sl9⟩) (c9 : PySem.W.codeIn K cd9 "sized" = true) (k9 : PySem.W.keepIn K (.ref f9) = true)
    (a10 : PySem.W.nsIn K mainGlobals "line_of" = some (some (.ref f10))) (l10 : K.lookup f10 = some ⟨oc10, od10, .func (PySem.W.fnOf "line_of" "line_of" (defArgs s_line_of) (defBody s_line_of) (defScope s_line_of) .none kV10 dc10 pm10 an10 cd10 ct10), sl10⟩) (c10 : PySem.W.codeIn K cd10 "line_of" = true) (k10 : PySem.W.keepIn K (.ref f10) = true)
    (a11 : PySem.W.nsIn K mainGlobals "is_failed" = some (some (.ref f11))) (l11 : K.lookup f11 = some ⟨oc11, od11, .func (PySem.W.fnOf "is_failed" "is_failed" (defArgs s_is_failed) (defBody s_is_failed) (defScope s_is_failed) .none kV11 dc11 pm11 an11 cd11 ct11), sl11⟩) (c11 : PySem.W.codeIn K cd11 "is_failed" = true) (k11 : PySem.W.keepIn K (.ref f11) = true)
    (a12 : PySem.W.nsIn K mainGlobals "most_to_come" = some (some (.ref f12))) (l12 : K.lookup f12 = some ⟨oc12, od12, .func (PySem.W.fnOf "most_to_come" "most_to_come" (defArgs s_most_to_come) (defBody s_most_to_come) (defScope s_most_to_come) .none kV12 dc12 pm12 an12 cd12 ct12), sl12⟩) (c12 : PySem.W.codeIn K cd12 "most_to_come" = true) (k12 : PySem.W.keepIn K (.ref f12) = true)
    (a13 : PySem.W.nsIn K mainGlobals "first_broken" = some (some (.ref f13))) (l13 : K.lookup f13 = some ⟨oc13, od13, .func (PySem.W.fnOf "first_broken" "first_broken" (defArgs s_first_broken) (defBody s_first_broken) (defScope s_first_broken) .none kV13 dc13 pm13 an13 cd13 ct13), sl13⟩) (c13 : PySem.W.codeIn K cd13 "first_broken" = true) (k13 : PySem.W.keepIn K (.ref f13) = true)
    (a14 : PySem.W.nsIn K mainGlobals "filling_from" = some (some (.ref f14))) (l14 : K.lookup f14 = some ⟨oc14, od14, .func (PySem.W.fnOf "filling_from" "filling_from" (defArgs s_filling_from) (defBody s_filling_from) (defScope s_filling_from) .none kV14 dc14 pm14 an14 cd14 ct14), sl14⟩) (c14 : PySem.W.codeIn K cd14 "filling_from" = true) (k14 : PySem.W.keepIn K (.ref f14) = true)
    (a15 : PySem.W.nsIn K mainGlobals "meeting" = some (some (.ref f15))) (l15 : K.lookup f15 = some ⟨oc15, od15, .func (PySem.W.fnOf "meeting" "meeting" (defArgs s_meeting) (defBody s_meeting) (defScope s_meeting) .none kV15 dc15 pm15 an15 cd15 ct15), sl15⟩) (c15 : PySem.W.codeIn K cd15 "meeting" = true) (k15 : PySem.W.keepIn K (.ref f15) = true)
    (a16 : PySem.W.findIn K (.ref C_Writer) "__init__" = some (some (.ref f16))) (i16 : PySem.W.isFn K (.ref f16) = true) (l16 : K.lookup f16 = some ⟨oc16, od16, .func (PySem.W.fnOf "__init__" "Writer.__init__" (defArgs s_Writer___init__) (defBody s_Writer___init__) (defScope s_Writer___init__) .none kV16 dc16 pm16 an16 cd16 ct16), sl16⟩) (c16 : PySem.W.codeIn K cd16 "Writer.__init__" = true) (k16 : PySem.W.keepIn K (.ref f16) = true)
    (a17 : PySem.W.findIn K (.ref C_Writer) "write" = some (some (.ref f17))) (i17 : PySem.W.isFn K (.ref f17) = true) (l17 : K.lookup f17 = some ⟨oc17, od17, .func (PySem.W.fnOf "write" "Writer.write" (defArgs s_Writer_write) (defBody s_Writer_write) (defScope s_Writer_write) .none kV17 dc17 pm17 an17 cd17 ct17), sl17⟩) (c17 : PySem.W.codeIn K cd17 "Writer.write" = true) (k17 : PySem.W.keepIn K (.ref f17) = true)
    (a18 : PySem.W.findIn K (.ref C_Writer) "names" = some (some (.ref f18))) (i18 : PySem.W.isFn K (.ref f18) = true) (l18 : K.lookup f18 = some ⟨oc18, od18, .func (PySem.W.fnOf "names" "Writer.names" (defArgs s_Writer_names) (defBody s_Writer_names) (defScope s_Writer_names) .none kV18 dc18 pm18 an18 cd18 ct18), sl18⟩) (c18 : PySem.W.codeIn K cd18 "Writer.names" = true) (k18 : PySem.W.keepIn K (.ref f18) = true)
    (a19 : PySem.W.findIn K (.ref C_Writer) "without" = some (some (.ref f19))) (i19 : PySem.W.isFn K (.ref f19) = true) (l19 : K.lookup f19 = some ⟨oc19, od19, .func (PySem.W.fnOf "without" "Writer.without" (defArgs s_Writer_without) (defBody s_Writer_without) (defScope s_Writer_without) .none kV19 dc19 pm19 an19 cd19 ct19), sl19⟩) (c19 : PySem.W.codeIn K cd19 "Writer.without" = true) (k19 : PySem.W.keepIn K (.ref f19) = true)
    (a20 : PySem.W.findIn K (.ref C_Writer) "bare" = some (some (.ref f20))) (i20 : PySem.W.isFn K (.ref f20) = true) (l20 : K.lookup f20 = some ⟨oc20, od20, .func (PySem.W.fnOf "bare" "Writer.bare" (defArgs s_Writer_bare) (defBody s_Writer_bare) (defScope s_Writer_bare) .none kV20 dc20 pm20 an20 cd20 ct20), sl20⟩) (c20 : PySem.W.codeIn K cd20 "Writer.bare" = true) (k20 : PySem.W.keepIn K (.ref f20) = true)
    (a21 : PySem.W.findIn K (.ref C_Writer) "bare_of_row" = some (some (.ref f21))) (i21 : PySem.W.isFn K (.ref f21) = true) (l21 : K.lookup f21 = some ⟨oc21, od21, .func (PySem.W.fnOf "bare_of_row" "Writer.bare_of_row" (defArgs s_Writer_bare_of_row) (defBody s_Writer_bare_of_row) (defScope s_Writer_bare_of_row) .none kV21 dc21 pm21 an21 cd21 ct21), sl21⟩) (c21 : PySem.W.codeIn K cd21 "Writer.bare_of_row" = true) (k21 : PySem.W.keepIn K (.ref f21) = true)
    (a22 : PySem.W.nsIn K mainGlobals "refuted" = some (some (.ref f22))) (l22 : K.lookup f22 = some ⟨oc22, od22, .func (PySem.W.fnOf "refuted" "refuted" (defArgs s_refuted) (defBody s_refuted) (defScope s_refuted) .none kV22 dc22 pm22 an22 cd22 ct22), sl22⟩) (c22 : PySem.W.codeIn K cd22 "refuted" = true) (k22 : PySem.W.keepIn K (.ref f22) = true)
    (a23 : PySem.W.nsIn K mainGlobals "paper_against" = some (some (.ref f23))) (l23 : K.lookup f23 = some ⟨oc23, od23, .func (PySem.W.fnOf "paper_against" "paper_against" (defArgs s_paper_against) (defBody s_paper_against) (defScope s_paper_against) .none kV23 dc23 pm23 an23 cd23 ct23), sl23⟩) (c23 : PySem.W.codeIn K cd23 "paper_against" = true) (k23 : PySem.W.keepIn K (.ref f23) = true)
    (a24 : PySem.W.nsIn K mainGlobals "find" = some (some (.ref f24))) (l24 : K.lookup f24 = some ⟨oc24, od24, .func (PySem.W.fnOf "find" "find" (defArgs s_find) (defBody s_find) (defScope s_find) .none kV24 dc24 pm24 an24 cd24 ct24), sl24⟩) (c24 : PySem.W.codeIn K cd24 "find" = true) (k24 : PySem.W.keepIn K (.ref f24) = true)
    (a25 : PySem.W.nsIn K mainGlobals "worth" = some (some (.ref f25))) (l25 : K.lookup f25 = some ⟨oc25, od25, .func (PySem.W.fnOf "worth" "worth" (defArgs s_worth) (defBody s_worth) (defScope s_worth) .none kV25 dc25 pm25 an25 cd25 ct25), sl25⟩) (c25 : PySem.W.codeIn K cd25 "worth" = true) (k25 : PySem.W.keepIn K (.ref f25) = true)
    (a26 : PySem.W.nsIn K mainGlobals "better" = some (some (.ref f26))) (l26 : K.lookup f26 = some ⟨oc26, od26, .func (PySem.W.fnOf "better" "better" (defArgs s_better) (defBody s_better) (defScope s_better) .none kV26 dc26 pm26 an26 cd26 ct26), sl26⟩) (c26 : PySem.W.codeIn K cd26 "better" = true) (k26 : PySem.W.keepIn K (.ref f26) = true)
    (a27 : PySem.W.nsIn K mainGlobals "best" = some (some (.ref f27))) (l27 : K.lookup f27 = some ⟨oc27, od27, .func (PySem.W.fnOf "best" "best" (defArgs s_best) (defBody s_best) (defScope s_best) .none kV27 dc27 pm27 an27 cd27 ct27), sl27⟩) (c27 : PySem.W.codeIn K cd27 "best" = true) (k27 : PySem.W.keepIn K (.ref f27) = true)
    (a28 : PySem.W.nsIn K mainGlobals "_law_cell_at" = some (some (.ref f28))) (l28 : K.lookup f28 = some ⟨oc28, od28, .func (PySem.W.fnOf "_law_cell_at" "_law_cell_at" (defArgs s_law_cell_at) (defBody s_law_cell_at) (defScope s_law_cell_at) .none kV28 dc28 pm28 an28 cd28 ct28), sl28⟩) (c28 : PySem.W.codeIn K cd28 "_law_cell_at" = true) (k28 : PySem.W.keepIn K (.ref f28) = true)
    (a29 : PySem.W.nsIn K mainGlobals "_law_whole" = some (some (.ref f29))) (l29 : K.lookup f29 = some ⟨oc29, od29, .func (PySem.W.fnOf "_law_whole" "_law_whole" (defArgs s_law_whole) (defBody s_law_whole) (defScope s_law_whole) .none kV29 dc29 pm29 an29 cd29 ct29), sl29⟩) (c29 : PySem.W.codeIn K cd29 "_law_whole" = true) (k29 : PySem.W.keepIn K (.ref f29) = true)
    (a30 : PySem.W.nsIn K mainGlobals "_law_mixed" = some (some (.ref f30))) (l30 : K.lookup f30 = some ⟨oc30, od30, .func (PySem.W.fnOf "_law_mixed" "_law_mixed" (defArgs s_law_mixed) (defBody s_law_mixed) (defScope s_law_mixed) .none kV30 dc30 pm30 an30 cd30 ct30), sl30⟩) (c30 : PySem.W.codeIn K cd30 "_law_mixed" = true) (k30 : PySem.W.keepIn K (.ref f30) = true)
    (a31 : PySem.W.nsIn K mainGlobals "_law_row_by" = some (some (.ref f31))) (l31 : K.lookup f31 = some ⟨oc31, od31, .func (PySem.W.fnOf "_law_row_by" "_law_row_by" (defArgs s_law_row_by) (defBody s_law_row_by) (defScope s_law_row_by) .none kV31 dc31 pm31 an31 cd31 ct31), sl31⟩) (c31 : PySem.W.codeIn K cd31 "_law_row_by" = true) (k31 : PySem.W.keepIn K (.ref f31) = true)
    (a32 : PySem.W.nsIn K mainGlobals "_law_rows_by" = some (some (.ref f32))) (l32 : K.lookup f32 = some ⟨oc32, od32, .func (PySem.W.fnOf "_law_rows_by" "_law_rows_by" (defArgs s_law_rows_by) (defBody s_law_rows_by) (defScope s_law_rows_by) .none kV32 dc32 pm32 an32 cd32 ct32), sl32⟩) (c32 : PySem.W.codeIn K cd32 "_law_rows_by" = true) (k32 : PySem.W.keepIn K (.ref f32) = true)
    (a33 : PySem.W.nsIn K mainGlobals "_law_worth" = some (some (.ref f33))) (l33 : K.lookup f33 = some ⟨oc33, od33, .func (PySem.W.fnOf "_law_worth" "_law_worth" (defArgs s_law_worth) (defBody s_law_worth) (defScope s_law_worth) .none kV33 dc33 pm33 an33 cd33 ct33), sl33⟩) (c33 : PySem.W.codeIn K cd33 "_law_worth" = true) (k33 : PySem.W.keepIn K (.ref f33) = true)
    (a34 : PySem.W.nsIn K mainGlobals "_law_holds" = some (some (.ref f34))) (l34 : K.lookup f34 = some ⟨oc34, od34, .func (PySem.W.fnOf "_law_holds" "_law_holds" (defArgs s_law_holds) (defBody s_law_holds) (defScope s_law_holds) .none kV34 dc34 pm34 an34 cd34 ct34), sl34⟩) (c34 : PySem.W.codeIn K cd34 "_law_holds" = true) (k34 : PySem.W.keepIn K (.ref f34) = true)
    (a35 : PySem.W.nsIn K mainGlobals "_law_tidy" = some (some (.ref f35))) (l35 : K.lookup f35 = some ⟨oc35, od35, .func (PySem.W.fnOf "_law_tidy" "_law_tidy" (defArgs s_law_tidy) (defBody s_law_tidy) (defScope s_law_tidy) .none kV35 dc35 pm35 an35 cd35 ct35), sl35⟩) (c35 : PySem.W.codeIn K cd35 "_law_tidy" = true) (k35 : PySem.W.keepIn K (.ref f35) = true)
    (a36 : PySem.W.nsIn K mainGlobals "_law_up" = some (some (.ref f36))) (l36 : K.lookup f36 = some ⟨oc36, od36, .func (PySem.W.fnOf "_law_up" "_law_up" (defArgs s_law_up) (defBody s_law_up) (defScope s_law_up) .none kV36 dc36 pm36 an36 cd36 ct36), sl36⟩) (c36 : PySem.W.codeIn K cd36 "_law_up" = true) (k36 : PySem.W.keepIn K (.ref f36) = true)
    (a37 : PySem.W.nsIn K mainGlobals "_law_cut" = some (some (.ref f37))) (l37 : K.lookup f37 = some ⟨oc37, od37, .func (PySem.W.fnOf "_law_cut" "_law_cut" (defArgs s_law_cut) (defBody s_law_cut) (defScope s_law_cut) .none kV37 dc37 pm37 an37 cd37 ct37), sl37⟩) (c37 : PySem.W.codeIn K cd37 "_law_cut" = true) (k37 : PySem.W.keepIn K (.ref f37) = true)
    (a38 : PySem.W.nsIn K mainGlobals "_law_sized" = some (some (.ref f38))) (l38 : K.lookup f38 = some ⟨oc38, od38, .func (PySem.W.fnOf "_law_sized" "_law_sized" (defArgs s_law_sized) (defBody s_law_sized) (defScope s_law_sized) .none kV38 dc38 pm38 an38 cd38 ct38), sl38⟩) (c38 : PySem.W.codeIn K cd38 "_law_sized" = true) (k38 : PySem.W.keepIn K (.ref f38) = true)
    (a39 : PySem.W.nsIn K mainGlobals "_law_near" = some (some (.ref f39))) (l39 : K.lookup f39 = some ⟨oc39, od39, .func (PySem.W.fnOf "_law_near" "_law_near" (defArgs s_law_near) (defBody s_law_near) (defScope s_law_near) .none kV39 dc39 pm39 an39 cd39 ct39), sl39⟩) (c39 : PySem.W.codeIn K cd39 "_law_near" = true) (k39 : PySem.W.keepIn K (.ref f39) = true)
    (a40 : PySem.W.nsIn K mainGlobals "_law_line" = some (some (.ref f40))) (l40 : K.lookup f40 = some ⟨oc40, od40, .func (PySem.W.fnOf "_law_line" "_law_line" (defArgs s_law_line) (defBody s_law_line) (defScope s_law_line) .none kV40 dc40 pm40 an40 cd40 ct40), sl40⟩) (c40 : PySem.W.codeIn K cd40 "_law_line" = true) (k40 : PySem.W.keepIn K (.ref f40) = true)
    (a41 : PySem.W.nsIn K mainGlobals "_law_is_step" = some (some (.ref f41))) (l41 : K.lookup f41 = some ⟨oc41, od41, .func (PySem.W.fnOf "_law_is_step" "_law_is_step" (defArgs s_law_is_step) (defBody s_law_is_step) (defScope s_law_is_step) .none kV41 dc41 pm41 an41 cd41 ct41), sl41⟩) (c41 : PySem.W.codeIn K cd41 "_law_is_step" = true) (k41 : PySem.W.keepIn K (.ref f41) = true)
    (a42 : PySem.W.nsIn K mainGlobals "_law_refutes" = some (some (.ref f42))) (l42 : K.lookup f42 = some ⟨oc42, od42, .func (PySem.W.fnOf "_law_refutes" "_law_refutes" (defArgs s_law_refutes) (defBody s_law_refutes) (defScope s_law_refutes) .none kV42 dc42 pm42 an42 cd42 ct42), sl42⟩) (c42 : PySem.W.codeIn K cd42 "_law_refutes" = true) (k42 : PySem.W.keepIn K (.ref f42) = true)
    (a43 : PySem.W.nsIn K mainGlobals "_law_is_filling" = some (some (.ref f43))) (l43 : K.lookup f43 = some ⟨oc43, od43, .func (PySem.W.fnOf "_law_is_filling" "_law_is_filling" (defArgs s_law_is_filling) (defBody s_law_is_filling) (defScope s_law_is_filling) .none kV43 dc43 pm43 an43 cd43 ct43), sl43⟩) (c43 : PySem.W.codeIn K cd43 "_law_is_filling" = true) (k43 : PySem.W.keepIn K (.ref f43) = true)
    (a44 : PySem.W.nsIn K mainGlobals "_law_copied" = some (some (.ref f44))) (l44 : K.lookup f44 = some ⟨oc44, od44, .func (PySem.W.fnOf "_law_copied" "_law_copied" (defArgs s_law_copied) (defBody s_law_copied) (defScope s_law_copied) .none kV44 dc44 pm44 an44 cd44 ct44), sl44⟩) (c44 : PySem.W.codeIn K cd44 "_law_copied" = true) (k44 : PySem.W.keepIn K (.ref f44) = true)
    (a45 : PySem.W.nsIn K mainGlobals "law" = some (some (.ref f45))) (l45 : K.lookup f45 = some ⟨oc45, od45, .func (PySem.W.fnOf "law" "law" (defArgs s_law) (defBody s_law) (defScope s_law) .none kV45 dc45 pm45 an45 cd45 ct45), sl45⟩) (c45 : PySem.W.codeIn K cd45 "law" = true) (k45 : PySem.W.keepIn K (.ref f45) = true)
    (pg_Writer : PySem.W.plainGet K C_Writer Str.empty = true) (hd_Writer : PySem.W.hasDictIn K C_Writer = true) (po_Writer : PySem.W.plainOver K C_Writer = true) (sa_Writer : PySem.W.findIn K (.ref C_Writer) "__setattr__" = some (some (.builtin "object.__setattr__"))) (mk_Writer : PySem.W.makesIn K C_Writer = true) (kc_Writer : PySem.W.keepIn K (.ref C_Writer) = true)
    (n_Writer_rows : PySem.W.findIn K (.ref C_Writer) "rows" = some none)
    (n_Writer_steps : PySem.W.findIn K (.ref C_Writer) "steps" = some none)
    (n_Writer_made : PySem.W.findIn K (.ref C_Writer) "made" = some none)
    (n_Writer_numbers : PySem.W.findIn K (.ref C_Writer) "numbers" = some none)
    (z0 : PySem.W.nsIn K mainGlobals "abs" = some none)
    (z1 : PySem.W.nsIn K mainGlobals "bool" = some none)
    (z2 : PySem.W.nsIn K mainGlobals "enumerate" = some none)
    (z3 : PySem.W.nsIn K mainGlobals "int" = some none)
    (z4 : PySem.W.nsIn K mainGlobals "isinstance" = some none)
    (z5 : PySem.W.nsIn K mainGlobals "len" = some none)
    (z6 : PySem.W.nsIn K mainGlobals "list" = some none)
    (z7 : PySem.W.nsIn K mainGlobals "max" = some none)
    (z8 : PySem.W.nsIn K mainGlobals "min" = some none)
    (z9 : PySem.W.nsIn K mainGlobals "range" = some none)
    (z10 : PySem.W.nsIn K mainGlobals "set" = some none)
    (z11 : PySem.W.nsIn K mainGlobals "sorted" = some none)
    (z12 : PySem.W.nsIn K mainGlobals "str" = some none)
    (z13 : PySem.W.nsIn K mainGlobals "sum" = some none)
    (z14 : PySem.W.nsIn K mainGlobals "tuple" = some none) :
    ∃ fd : FuncData, (∀ (s : Shared) (v : Value), BindsTo s fd ⟨[v], []⟩ [("script", v)]) ∧ ∀ base : Heap, K.In base → base.Ns mainGlobals mg → FnOk l.prog w K mg base CX0 26 fa fd ["script"] (sp_law K) := by
  have e := hfa.symm.trans (PySem.W.mg_of X G a45)
  cases e
  have F0 := fun_mk (st := s_is_met) l0 c0 k0
  have b0 := F0.binds (ps := P_is_met) fun _ _ _ _ _ _ us hl => match us, hl with | [_, _], _ => rfl
  have F1 := fun_mk (st := s_other_side) l1 c1 k1
  have b1 := F1.binds (ps := P_other_side) fun _ _ _ _ _ _ us hl => match us, hl with | [_], _ => rfl
  have F2 := fun_mk (st := s_met_weight) l2 c2 k2
  have b2 := F2.binds (ps := P_met_weight) fun _ _ _ _ _ _ us hl => match us, hl with | [_, _], _ => rfl
  have F3 := fun_mk (st := s_weights_by_side) l3 c3 k3
  have b3 := F3.binds (ps := P_weights_by_side) fun _ _ _ _ _ _ us hl => match us, hl with | [_], _ => rfl
  have F4 := fun_mk (st := s_tidy) l4 c4 k4
  have b4 := F4.binds (ps := P_tidy) fun _ _ _ _ _ _ us hl => match us, hl with | [_], _ => rfl
  have F5 := fun_mk (st := s_added) l5 c5 k5
  have b5 := F5.binds (ps := P_added) fun _ _ _ _ _ _ us hl => match us, hl with | [_, _], _ => rfl
  have F6 := fun_mk (st := s_times) l6 c6 k6
  have b6 := F6.binds (ps := P_times) fun _ _ _ _ _ _ us hl => match us, hl with | [_, _], _ => rfl
  have F7 := fun_mk (st := s_divided_up) l7 c7 k7
  have b7 := F7.binds (ps := P_divided_up) fun _ _ _ _ _ _ us hl => match us, hl with | [_, _], _ => rfl
  have F8 := fun_mk (st := s_cut) l8 c8 k8
  have b8 := F8.binds (ps := P_cut) fun _ _ _ _ _ _ us hl => match us, hl with | [_, _], _ => rfl
  have F9 := fun_mk (st := s_sized) l9 c9 k9
  have b9 := F9.binds (ps := P_sized) fun _ _ _ _ _ _ us hl => match us, hl with | [_], _ => rfl
  have F10 := fun_mk (st := s_line_of) l10 c10 k10
  have b10 := F10.binds (ps := P_line_of) fun _ _ _ _ _ _ us hl => match us, hl with | [_, _, _], _ => rfl
  have F11 := fun_mk (st := s_is_failed) l11 c11 k11
  have b11 := F11.binds (ps := P_is_failed) fun _ _ _ _ _ _ us hl => match us, hl with | [_, _], _ => rfl
  have F12 := fun_mk (st := s_most_to_come) l12 c12 k12
  have b12 := F12.binds (ps := P_most_to_come) fun _ _ _ _ _ _ us hl => match us, hl with | [_, _], _ => rfl
  have F13 := fun_mk (st := s_first_broken) l13 c13 k13
  have b13 := F13.binds (ps := P_first_broken) fun _ _ _ _ _ _ us hl => match us, hl with | [_, _], _ => rfl
  have F14 := fun_mk (st := s_filling_from) l14 c14 k14
  have b14 := F14.binds (ps := P_filling_from) fun _ _ _ _ _ _ us hl => match us, hl with | [_, _, _], _ => rfl
  have F15 := fun_mk (st := s_meeting) l15 c15 k15
  have b15 := F15.binds (ps := P_meeting) fun _ _ _ _ _ _ us hl => match us, hl with | [_, _], _ => rfl
  have F16 := fun_mk (st := s_Writer___init__) l16 c16 k16
  have b16 := F16.binds (ps := P_Writer___init__) fun _ _ _ _ _ _ us hl => match us, hl with | [_, _], _ => rfl
  have F17 := fun_mk (st := s_Writer_write) l17 c17 k17
  have b17 := F17.binds (ps := P_Writer_write) fun _ _ _ _ _ _ us hl => match us, hl with | [_, _], _ => rfl
  have F18 := fun_mk (st := s_Writer_names) l18 c18 k18
  have b18 := F18.binds (ps := P_Writer_names) fun _ _ _ _ _ _ us hl => match us, hl with | [_, _, _], _ => rfl
  have F19 := fun_mk (st := s_Writer_without) l19 c19 k19
  have b19 := F19.binds (ps := P_Writer_without) fun _ _ _ _ _ _ us hl => match us, hl with | [_, _, _, _], _ => rfl
  have F20 := fun_mk (st := s_Writer_bare) l20 c20 k20
  have b20 := F20.binds (ps := P_Writer_bare) fun _ _ _ _ _ _ us hl => match us, hl with | [_, _], _ => rfl
  have F21 := fun_mk (st := s_Writer_bare_of_row) l21 c21 k21
  have b21 := F21.binds (ps := P_Writer_bare_of_row) fun _ _ _ _ _ _ us hl => match us, hl with | [_, _, _], _ => rfl
  have F22 := fun_mk (st := s_refuted) l22 c22 k22
  have b22 := F22.binds (ps := P_refuted) fun _ _ _ _ _ _ us hl => match us, hl with | [_, _], _ => rfl
  have F23 := fun_mk (st := s_paper_against) l23 c23 k23
  have b23 := F23.binds (ps := P_paper_against) fun _ _ _ _ _ _ us hl => match us, hl with | [_], _ => rfl
  have F24 := fun_mk (st := s_find) l24 c24 k24
  have b24 := F24.binds (ps := P_find) fun _ _ _ _ _ _ us hl => match us, hl with | [_, _], _ => rfl
  have F25 := fun_mk (st := s_worth) l25 c25 k25
  have b25 := F25.binds (ps := P_worth) fun _ _ _ _ _ _ us hl => match us, hl with | [_, _], _ => rfl
  have F26 := fun_mk (st := s_better) l26 c26 k26
  have b26 := F26.binds (ps := P_better) fun _ _ _ _ _ _ us hl => match us, hl with | [_, _, _, _], _ => rfl
  have F27 := fun_mk (st := s_best) l27 c27 k27
  have b27 := F27.binds (ps := P_best) fun _ _ _ _ _ _ us hl => match us, hl with | [_, _, _], _ => rfl
  have F28 := fun_mk (st := s_law_cell_at) l28 c28 k28
  have b28 := F28.binds (ps := P_law_cell_at) fun _ _ _ _ _ _ us hl => match us, hl with | [_, _], _ => rfl
  have F29 := fun_mk (st := s_law_whole) l29 c29 k29
  have b29 := F29.binds (ps := P_law_whole) fun _ _ _ _ _ _ us hl => match us, hl with | [_], _ => rfl
  have F30 := fun_mk (st := s_law_mixed) l30 c30 k30
  have b30 := F30.binds (ps := P_law_mixed) fun _ _ _ _ _ _ us hl => match us, hl with | [_, _], _ => rfl
  have F31 := fun_mk (st := s_law_row_by) l31 c31 k31
  have b31 := F31.binds (ps := P_law_row_by) fun _ _ _ _ _ _ us hl => match us, hl with | [_, _, _], _ => rfl
  have F32 := fun_mk (st := s_law_rows_by) l32 c32 k32
  have b32 := F32.binds (ps := P_law_rows_by) fun _ _ _ _ _ _ us hl => match us, hl with | [_, _, _, _], _ => rfl
  have F33 := fun_mk (st := s_law_worth) l33 c33 k33
  have b33 := F33.binds (ps := P_law_worth) fun _ _ _ _ _ _ us hl => match us, hl with | [_, _], _ => rfl
  have F34 := fun_mk (st := s_law_holds) l34 c34 k34
  have b34 := F34.binds (ps := P_law_holds) fun _ _ _ _ _ _ us hl => match us, hl with | [_, _], _ => rfl
  have F35 := fun_mk (st := s_law_tidy) l35 c35 k35
  have b35 := F35.binds (ps := P_law_tidy) fun _ _ _ _ _ _ us hl => match us, hl with | [_], _ => rfl
  have F36 := fun_mk (st := s_law_up) l36 c36 k36
  have b36 := F36.binds (ps := P_law_up) fun _ _ _ _ _ _ us hl => match us, hl with | [_, _], _ => rfl
  have F37 := fun_mk (st := s_law_cut) l37 c37 k37
  have b37 := F37.binds (ps := P_law_cut) fun _ _ _ _ _ _ us hl => match us, hl with | [_, _], _ => rfl
  have F38 := fun_mk (st := s_law_sized) l38 c38 k38
  have b38 := F38.binds (ps := P_law_sized) fun _ _ _ _ _ _ us hl => match us, hl with | [_], _ => rfl
  have F39 := fun_mk (st := s_law_near) l39 c39 k39
  have b39 := F39.binds (ps := P_law_near) fun _ _ _ _ _ _ us hl => match us, hl with | [_, _], _ => rfl
  have F40 := fun_mk (st := s_law_line) l40 c40 k40
  have b40 := F40.binds (ps := P_law_line) fun _ _ _ _ _ _ us hl => match us, hl with | [_, _, _], _ => rfl
  have F41 := fun_mk (st := s_law_is_step) l41 c41 k41
  have b41 := F41.binds (ps := P_law_is_step) fun _ _ _ _ _ _ us hl => match us, hl with | [_], _ => rfl
  have F42 := fun_mk (st := s_law_refutes) l42 c42 k42
  have b42 := F42.binds (ps := P_law_refutes) fun _ _ _ _ _ _ us hl => match us, hl with | [_, _], _ => rfl
  have F43 := fun_mk (st := s_law_is_filling) l43 c43 k43
  have b43 := F43.binds (ps := P_law_is_filling) fun _ _ _ _ _ _ us hl => match us, hl with | [_, _, _], _ => rfl
  have F44 := fun_mk (st := s_law_copied) l44 c44 k44
  have b44 := F44.binds (ps := P_law_copied) fun _ _ _ _ _ _ us hl => match us, hl with | [_], _ => rfl
  have F45 := fun_mk (st := s_law) l45 c45 k45
  have b45 := F45.binds (ps := P_law) fun _ _ _ _ _ _ us hl => match us, hl with | [_], _ => rfl
  have T : Tx K mg := ⟨_, _, _, ⟨F0, PySem.W.mg_of X G a0, b0⟩, _, _, ⟨F1, PySem.W.mg_of X G a1, b1⟩, _, _, ⟨F2, PySem.W.mg_of X G a2, b2⟩, _, _, ⟨F3, PySem.W.mg_of X G a3, b3⟩, _, _, ⟨F4, PySem.W.mg_of X G a4, b4⟩, _, _, ⟨F5, PySem.W.mg_of X G a5, b5⟩, _, _, ⟨F6, PySem.W.mg_of X G a6, b6⟩, _, _, ⟨F7, PySem.W.mg_of X G a7, b7⟩, _, _, ⟨F8, PySem.W.mg_of X G a8, b8⟩, _, _, ⟨F9, PySem.W.mg_of X G a9, b9⟩, _, _, ⟨F10, PySem.W.mg_of X G a10, b10⟩, _, _, ⟨F11, PySem.W.mg_of X G a11, b11⟩, _, _, ⟨F12, PySem.W.mg_of X G a12, b12⟩, _, _, ⟨F13, PySem.W.mg_of X G a13, b13⟩, _, _, ⟨F14, PySem.W.mg_of X G a14, b14⟩, _, _, ⟨F15, PySem.W.mg_of X G a15, b15⟩, _, _, ⟨F16, ⟨a16, i16, k16⟩, b16⟩, _, _, ⟨F17, ⟨a17, i17, k17⟩, b17⟩, _, _, ⟨F18, ⟨a18, i18, k18⟩, b18⟩, _, _, ⟨F19, ⟨a19, i19, k19⟩, b19⟩, _, _, ⟨F20, ⟨a20, i20, k20⟩, b20⟩, _, _, ⟨F21, ⟨a21, i21, k21⟩, b21⟩, _, _, ⟨F22, PySem.W.mg_of X G a22, b22⟩, _, _, ⟨F23, PySem.W.mg_of X G a23, b23⟩, _, _, ⟨F24, PySem.W.mg_of X G a24, b24⟩, _, _, ⟨F25, PySem.W.mg_of X G a25, b25⟩, _, _, ⟨F26, PySem.W.mg_of X G a26, b26⟩, _, _, ⟨F27, PySem.W.mg_of X G a27, b27⟩, _, _, ⟨F28, PySem.W.mg_of X G a28, b28⟩, _, _, ⟨F29, PySem.W.mg_of X G a29, b29⟩, _, _, ⟨F30, PySem.W.mg_of X G a30, b30⟩, _, _, ⟨F31, PySem.W.mg_of X G a31, b31⟩, _, _, ⟨F32, PySem.W.mg_of X G a32, b32⟩, _, _, ⟨F33, PySem.W.mg_of X G a33, b33⟩, _, _, ⟨F34, PySem.W.mg_of X G a34, b34⟩, _, _, ⟨F35, PySem.W.mg_of X G a35, b35⟩, _, _, ⟨F36, PySem.W.mg_of X G a36, b36⟩, _, _, ⟨F37, PySem.W.mg_of X G a37, b37⟩, _, _, ⟨F38, PySem.W.mg_of X G a38, b38⟩, _, _, ⟨F39, PySem.W.mg_of X G a39, b39⟩, _, _, ⟨F40, PySem.W.mg_of X G a40, b40⟩, _, _, ⟨F41, PySem.W.mg_of X G a41, b41⟩, _, _, ⟨F42, PySem.W.mg_of X G a42, b42⟩, _, _, ⟨F43, PySem.W.mg_of X G a43, b43⟩, _, _, ⟨F44, PySem.W.mg_of X G a44, b44⟩, _, _, ⟨F45, PySem.W.mg_of X G a45, b45⟩, ⟨⟨pg_Writer, hd_Writer, po_Writer, sa_Writer⟩, PySem.W.mg_of X G g_Writer, ⟨mk_Writer, a16, i16, kc_Writer⟩⟩, n_Writer_rows, n_Writer_steps, n_Writer_made, n_Writer_numbers, PySem.W.mg_none_of X G z0, PySem.W.mg_none_of X G z1, PySem.W.mg_none_of X G z2, PySem.W.mg_none_of X G z3, PySem.W.mg_none_of X G z4, PySem.W.mg_none_of X G z5, PySem.W.mg_none_of X G z6, PySem.W.mg_none_of X G z7, PySem.W.mg_none_of X G z8, PySem.W.mg_none_of X G z9, PySem.W.mg_none_of X G z10, PySem.W.mg_none_of X G z11, PySem.W.mg_none_of X G z12, PySem.W.mg_none_of X G z13, PySem.W.mg_none_of X G z14⟩
  exact ⟨PySem.W.fnOf "law" "law" (defArgs s_law) (defBody s_law) (defScope s_law) .none kV45 dc45 pm45 an45 cd45 ct45, fun s v => .of_eq rfl, fun base _ _ => ok_law ⟨_, _, _, ⟨F0, PySem.W.mg_of X G a0, b0⟩, _, _, ⟨F1, PySem.W.mg_of X G a1, b1⟩, _, _, ⟨F2, PySem.W.mg_of X G a2, b2⟩, _, _, ⟨F3, PySem.W.mg_of X G a3, b3⟩, _, _, ⟨F4, PySem.W.mg_of X G a4, b4⟩, _, _, ⟨F5, PySem.W.mg_of X G a5, b5⟩, _, _, ⟨F6, PySem.W.mg_of X G a6, b6⟩, _, _, ⟨F7, PySem.W.mg_of X G a7, b7⟩, _, _, ⟨F8, PySem.W.mg_of X G a8, b8⟩, _, _, ⟨F9, PySem.W.mg_of X G a9, b9⟩, _, _, ⟨F10, PySem.W.mg_of X G a10, b10⟩, _, _, ⟨F11, PySem.W.mg_of X G a11, b11⟩, _, _, ⟨F12, PySem.W.mg_of X G a12, b12⟩, _, _, ⟨F13, PySem.W.mg_of X G a13, b13⟩, _, _, ⟨F14, PySem.W.mg_of X G a14, b14⟩, _, _, ⟨F15, PySem.W.mg_of X G a15, b15⟩, _, _, ⟨F16, ⟨a16, i16, k16⟩, b16⟩, _, _, ⟨F17, ⟨a17, i17, k17⟩, b17⟩, _, _, ⟨F18, ⟨a18, i18, k18⟩, b18⟩, _, _, ⟨F19, ⟨a19, i19, k19⟩, b19⟩, _, _, ⟨F20, ⟨a20, i20, k20⟩, b20⟩, _, _, ⟨F21, ⟨a21, i21, k21⟩, b21⟩, _, _, ⟨F22, PySem.W.mg_of X G a22, b22⟩, _, _, ⟨F23, PySem.W.mg_of X G a23, b23⟩, _, _, ⟨F24, PySem.W.mg_of X G a24, b24⟩, _, _, ⟨F25, PySem.W.mg_of X G a25, b25⟩, _, _, ⟨F26, PySem.W.mg_of X G a26, b26⟩, _, _, ⟨F27, PySem.W.mg_of X G a27, b27⟩, _, _, ⟨F28, PySem.W.mg_of X G a28, b28⟩, _, _, ⟨F29, PySem.W.mg_of X G a29, b29⟩, _, _, ⟨F30, PySem.W.mg_of X G a30, b30⟩, _, _, ⟨F31, PySem.W.mg_of X G a31, b31⟩, _, _, ⟨F32, PySem.W.mg_of X G a32, b32⟩, _, _, ⟨F33, PySem.W.mg_of X G a33, b33⟩, _, _, ⟨F34, PySem.W.mg_of X G a34, b34⟩, _, _, ⟨F35, PySem.W.mg_of X G a35, b35⟩, _, _, ⟨F36, PySem.W.mg_of X G a36, b36⟩, _, _, ⟨F37, PySem.W.mg_of X G a37, b37⟩, _, _, ⟨F38, PySem.W.mg_of X G a38, b38⟩, _, _, ⟨F39, PySem.W.mg_of X G a39, b39⟩, _, _, ⟨F40, PySem.W.mg_of X G a40, b40⟩, _, _, ⟨F41, PySem.W.mg_of X G a41, b41⟩, _, _, ⟨F42, PySem.W.mg_of X G a42, b42⟩, _, _, ⟨F43, PySem.W.mg_of X G a43, b43⟩, _, _, ⟨F44, PySem.W.mg_of X G a44, b44⟩, _, _, ⟨F45, PySem.W.mg_of X G a45, b45⟩, ⟨⟨pg_Writer, hd_Writer, po_Writer, sa_Writer⟩, PySem.W.mg_of X G g_Writer, ⟨mk_Writer, a16, i16, kc_Writer⟩⟩, n_Writer_rows, n_Writer_steps, n_Writer_made, n_Writer_numbers, PySem.W.mg_none_of X G z0, PySem.W.mg_none_of X G z1, PySem.W.mg_none_of X G z2, PySem.W.mg_none_of X G z3, PySem.W.mg_none_of X G z4, PySem.W.mg_none_of X G z5, PySem.W.mg_none_of X G z6, PySem.W.mg_none_of X G z7, PySem.W.mg_none_of X G z8, PySem.W.mg_none_of X G z9, PySem.W.mg_none_of X G z10, PySem.W.mg_none_of X G z11, PySem.W.mg_none_of X G z12, PySem.W.mg_none_of X G z13, PySem.W.mg_none_of X G z14⟩⟩
theorem walk {l : PySem.W.OpenLaw} {q : Program} {loose : List Str} {XP : (Str → Option Value) → Heap → Prop} {YP : World → Heap → Prop} {d : DefRec} {K : Params → PySem.W.Frag} (hn : l.most = some 63) (hdf : d.params.defaults = [])
    (hY : ∀ (w : World) (h : Heap), YP w h → (K w.params).In h)
    (F : ∀ (w : World) (mg : Str → Option Value) (fa : Addr) (h : Heap), (K w.params).In h → h.Ns mainGlobals mg → mg d.name = some (.ref fa) →
      ∃ fd : FuncData, (∀ (s : Shared) (u : Value), BindsTo s fd ⟨[u], []⟩ [("script", u)]) ∧ ∀ base : Heap, (K w.params).In base → base.Ns mainGlobals mg → FnOk l.prog w (K w.params) mg base CX0 26 fa fd ["script"] (sp_law (K w.params))) :
    PySem.W.WalkO q loose XP YP l.row.toRowW d [] (fun f vs => PySem.call f vs) :=
  L2.walk_of (n := 63) (k := 26) (x := "script") (CX := fun _ => CX0) (sp := fun w => sp_law (K w.params)) hn (by decide) hdf ⟨rfl, by decide, by decide⟩ hY F (fun _ _ a ns hl _ hS => ⟨a, ns, rfl, hS, hl, fun _ => rfl⟩) fun _ _ _ _ _ z => z
end Cp
open PySem PySem.W PyProof.Rows
set_option maxRecDepth 100000 in
set_option maxHeartbeats 0 in
theorem PySem.Challenge.cw_cutpaper_k13_whole_the_best_and_its_pape_holds : PySem.Challenge.rw_cutpaper_k13_whole_the_best_and_its_pape.Holds := by
  w_on; o_law; k_head; (case hw => w_witness2)
  k_fill
  refine Cp.walk (l := PySem.Challenge.rw_cutpaper_k13_whole_the_best_and_its_pape) rfl rfl (fun w h Y => PySem.W.kIn_of Y) ?F
  case F =>
    intro w mg fa h KX G hmg
    refine' Cp.all_mk KX G hmg ?g_Writer ?a0 ?l0 ?c0 ?k0 ?a1 ?l1 ?c1 ?k1 ?a2 ?l2 ?c2 ?k2 ?a3 ?l3 ?c3 ?k3 ?a4 ?l4 ?c4 ?k4 ?a5 ?l5 ?c5 ?k5 ?a6 ?l6 ?c6 ?k6 ?a7 ?l7 ?c7 ?k7 ?a8 ?l8 ?c8 ?k8 ?a9 ?l9 ?c9 ?k9 ?a10 ?l10 ?c10 ?k10 ?a11 ?l11 ?c11 ?k11 ?a12 ?l12 ?c12 ?k12 ?a13 ?l13 ?c13 ?k13 ?a14 ?l14 ?c14 ?k14 ?a15 ?l15 ?c15 ?k15 ?a16 ?i16 ?l16 ?c16 ?k16 ?a17 ?i17 ?l17 ?c17 ?k17 ?a18 ?i18 ?l18 ?c18 ?k18 ?a19 ?i19 ?l19 ?c19 ?k19 ?a20 ?i20 ?l20 ?c20 ?k20 ?a21 ?i21 ?l21 ?c21 ?k21 ?a22 ?l22 ?c22 ?k22 ?a23 ?l23 ?c23 ?k23 ?a24 ?l24 ?c24 ?k24 ?a25 ?l25 ?c25 ?k25 ?a26 ?l26 ?c26 ?k26 ?a27 ?l27 ?c27 ?k27 ?a28 ?l28 ?c28 ?k28 ?a29 ?l29 ?c29 ?k29 ?a30 ?l30 ?c30 ?k30 ?a31 ?l31 ?c31 ?k31 ?a32 ?l32 ?c32 ?k32 ?a33 ?l33 ?c33 ?k33 ?a34 ?l34 ?c34 ?k34 ?a35 ?l35 ?c35 ?k35 ?a36 ?l36 ?c36 ?k36 ?a37 ?l37 ?c37 ?k37 ?a38 ?l38 ?c38 ?k38 ?a39 ?l39 ?c39 ?k39 ?a40 ?l40 ?c40 ?k40 ?a41 ?l41 ?c41 ?k41 ?a42 ?l42 ?c42 ?k42 ?a43 ?l43 ?c43 ?k43 ?a44 ?l44 ?c44 ?k44 ?a45 ?l45 ?c45 ?k45 ?pg_Writer ?hd_Writer ?po_Writer ?sa_Writer ?mk_Writer ?kc_Writer ?n_Writer_rows ?n_Writer_steps ?n_Writer_made ?n_Writer_numbers ?z0 ?z1 ?z2 ?z3 ?z4 ?z5 ?z6 ?z7 ?z8 ?z9 ?z10 ?z11 ?z12 ?z13 ?z14
    (case g_Writer => k_is)
    (case a0 => k_is)
    (case l0 => k_is)
    (case c0 => k_is)
    (case k0 => k_is)
    (case a1 => k_is)
    (case l1 => k_is)
    (case c1 => k_is)
    (case k1 => k_is)
    (case a2 => k_is)
    (case l2 => k_is)
    (case c2 => k_is)
    (case k2 => k_is)
    (case a3 => k_is)
    (case l3 => k_is)
    (case c3 => k_is)
    (case k3 => k_is)
    (case a4 => k_is)
    (case l4 => k_is)
    (case c4 => k_is)
    (case k4 => k_is)
    (case a5 => k_is)
    (case l5 => k_is)
    (case c5 => k_is)
    (case k5 => k_is)
    (case a6 => k_is)
    (case l6 => k_is)
    (case c6 => k_is)
    (case k6 => k_is)
    (case a7 => k_is)
    (case l7 => k_is)
    (case c7 => k_is)
    (case k7 => k_is)
    (case a8 => k_is)
    (case l8 => k_is)
    (case c8 => k_is)
    (case k8 => k_is)
    (case a9 => k_is)
    (case l9 => k_is)
    (case c9 => k_is)
    (case k9 => k_is)
    (case a10 => k_is)
    (case l10 => k_is)
    (case c10 => k_is)
    (case k10 => k_is)
    (case a11 => k_is)
    (case l11 => k_is)
    (case c11 => k_is)
    (case k11 => k_is)
    (case a12 => k_is)
    (case l12 => k_is)
    (case c12 => k_is)
    (case k12 => k_is)
    (case a13 => k_is)
    (case l13 => k_is)
    (case c13 => k_is)
    (case k13 => k_is)
    (case a14 => k_is)
    (case l14 => k_is)
    (case c14 => k_is)
    (case k14 => k_is)
    (case a15 => k_is)
    (case l15 => k_is)
    (case c15 => k_is)
    (case k15 => k_is)
    (case a16 => k_is)
    (case i16 => k_is)
    (case l16 => k_is)
    (case c16 => k_is)
    (case k16 => k_is)
    (case a17 => k_is)
    (case i17 => k_is)
    (case l17 => k_is)
    (case c17 => k_is)
    (case k17 => k_is)
    (case a18 => k_is)
    (case i18 => k_is)
    (case l18 => k_is)
    (case c18 => k_is)
    (case k18 => k_is)
    (case a19 => k_is)
    (case i19 => k_is)
    (case l19 => k_is)
    (case c19 => k_is)
    (case k19 => k_is)
    (case a20 => k_is)
    (case i20 => k_is)
    (case l20 => k_is)
    (case c20 => k_is)
    (case k20 => k_is)
    (case a21 => k_is)
    (case i21 => k_is)
    (case l21 => k_is)
    (case c21 => k_is)
    (case k21 => k_is)
    (case a22 => k_is)
    (case l22 => k_is)
    (case c22 => k_is)
    (case k22 => k_is)
    (case a23 => k_is)
    (case l23 => k_is)
    (case c23 => k_is)
    (case k23 => k_is)
    (case a24 => k_is)
    (case l24 => k_is)
    (case c24 => k_is)
    (case k24 => k_is)
    (case a25 => k_is)
    (case l25 => k_is)
    (case c25 => k_is)
    (case k25 => k_is)
    (case a26 => k_is)
    (case l26 => k_is)
    (case c26 => k_is)
    (case k26 => k_is)
    (case a27 => k_is)
    (case l27 => k_is)
    (case c27 => k_is)
    (case k27 => k_is)
    (case a28 => k_is)
    (case l28 => k_is)
    (case c28 => k_is)
    (case k28 => k_is)
    (case a29 => k_is)
    (case l29 => k_is)
    (case c29 => k_is)
    (case k29 => k_is)
    (case a30 => k_is)
    (case l30 => k_is)
    (case c30 => k_is)
    (case k30 => k_is)
    (case a31 => k_is)
    (case l31 => k_is)
    (case c31 => k_is)
    (case k31 => k_is)
    (case a32 => k_is)
    (case l32 => k_is)
    (case c32 => k_is)
    (case k32 => k_is)
    (case a33 => k_is)
    (case l33 => k_is)
    (case c33 => k_is)
    (case k33 => k_is)
    (case a34 => k_is)
    (case l34 => k_is)
    (case c34 => k_is)
    (case k34 => k_is)
    (case a35 => k_is)
    (case l35 => k_is)
    (case c35 => k_is)
    (case k35 => k_is)
    (case a36 => k_is)
    (case l36 => k_is)
    (case c36 => k_is)
    (case k36 => k_is)
    (case a37 => k_is)
    (case l37 => k_is)
    (case c37 => k_is)
    (case k37 => k_is)
    (case a38 => k_is)
    (case l38 => k_is)
    (case c38 => k_is)
    (case k38 => k_is)
    (case a39 => k_is)
    (case l39 => k_is)
    (case c39 => k_is)
    (case k39 => k_is)
    (case a40 => k_is)
    (case l40 => k_is)
    (case c40 => k_is)
    (case k40 => k_is)
    (case a41 => k_is)
    (case l41 => k_is)
    (case c41 => k_is)
    (case k41 => k_is)
    (case a42 => k_is)
    (case l42 => k_is)
    (case c42 => k_is)
    (case k42 => k_is)
    (case a43 => k_is)
    (case l43 => k_is)
    (case c43 => k_is)
    (case k43 => k_is)
    (case a44 => k_is)
    (case l44 => k_is)
    (case c44 => k_is)
    (case k44 => k_is)
    (case a45 => k_is)
    (case l45 => k_is)
    (case c45 => k_is)
    (case k45 => k_is)
    (case pg_Writer => k_is)
    (case hd_Writer => k_is)
    (case po_Writer => k_is)
    (case sa_Writer => k_is)
    (case mk_Writer => k_is)
    (case kc_Writer => k_is)
    (case n_Writer_rows => k_is)
    (case n_Writer_steps => k_is)
    (case n_Writer_made => k_is)
    (case n_Writer_numbers => k_is)
    (case z0 => k_is)
    (case z1 => k_is)
    (case z2 => k_is)
    (case z3 => k_is)
    (case z4 => k_is)
    (case z5 => k_is)
    (case z6 => k_is)
    (case z7 => k_is)
    (case z8 => k_is)
    (case z9 => k_is)
    (case z10 => k_is)
    (case z11 => k_is)
    (case z12 => k_is)
    (case z13 => k_is)
    (case z14 => k_is)
