import PyProof.Rows.All
import Wide.All
import OpenK.AllK
import Wide.FinOn
import Lean
import PyProof.EqAt
import PyProof.EqKinds
import PyProof.TupleCall
import PyProof.NeKinds
import PyProof.Draws
import PyProof.SumWalkG
import PyProof.ListRange
import PyProof.ZipIter
import PyProof.Rows.SortRev
import KE.IntBitsLaws
import PyProof.ListMulRoad
import PyProof.TupleKey
import PyProof.StationsW
import PyProof.RulesAs
import PyProof.NsDelKeeps
import PyProof.Rows.Own
import PyProof.Rows.Catch
import KE.KTryMore
import KE.KIsNot
import OpenK.KDescr
import PyProof.ExcAttrAll.ValueError
import PyProof.FString
import KE.KItemsList
import KE.KPairComp
import PyProof.DictWalks
import PyProof.Rows.SortShellK
import KE.KSortTup
import KE.KDictSum
import PyProof.ReprRoads
import PyProof.ReprLen
import PyProof.CallStr
import PyProof.Rows.RuleIs
import PyProof.Rows.SeqMore2
import KE.KRevIter
import PyProof.Rows.TupAdd
import PyProof.Rows.StrJoin2
import PySem.Challenge.RW_fewreels_k30_readings_of_layings
set_option Elab.async false
set_option linter.all false
set_option maxRecDepth 100000
/-! THE HAND LAYER, for ints, bools, texts, own classes, LISTS and tuples (index, slices, in, append, pop ..), calls, loops. Paste it whole ahead of your own text; what your proof does not reach may be deleted. -/
namespace L2
open PySem PySem.Spec PyProof.Rows

/-- a key: an int or a str -/
abbrev Key := Sum Int Str
def keyIs : Key → Value → Bool
  | .inl k, v => Value.isInt k v
  | .inr x, v => Value.isStrOf x v
def keyH (w : World) : Key → Int
  | .inl k => hashInt k
  | .inr x => hashStr w x
theorem keyIs_shape : ∀ {k : Key} {v : Value}, keyIs k v = true → (∃ i t, k = Sum.inl i ∧ v = Value.int i t) ∨ (∃ x t, k = Sum.inr x ∧ v = Value.str x t)
  | .inl i, v, h => by
    obtain ⟨t, e⟩ := Value.isInt_shape (k := i) (v := v) h
    exact .inl ⟨i, t, rfl, e⟩
  | .inr x, v, h => by
    obtain ⟨t, e⟩ := Value.isStrOf_shape (x := x) (v := v) h
    exact .inr ⟨x, t, rfl, e⟩
theorem keyIs_int (i : Int) (t : Tok) : keyIs (.inl i) (.int i t) = true := by simp [keyIs, Value.isInt]
theorem keyIs_str (x : Str) (t : Tok) : keyIs (.inr x) (.str x t) = true := by simp [keyIs, Value.isStrOf]
theorem key_ll (a b : Int) : decide ((Sum.inl a : Key) = Sum.inl b) = (a == b) := by
  by_cases e : a = b
  · subst e; simp
  · have h : ¬ (Sum.inl a : Key) = Sum.inl b := fun q => e (Sum.inl.inj q)
    rw [decide_eq_false h]
    exact (beq_eq_false_iff_ne.mpr e).symm
theorem key_rr (a b : Str) : decide ((Sum.inr a : Key) = Sum.inr b) = decide (a = b) := by
  by_cases e : a = b
  · subst e; simp
  · have h : ¬ (Sum.inr a : Key) = Sum.inr b := fun q => e (Sum.inr.inj q)
    rw [decide_eq_false h, decide_eq_false e]
theorem key_lr (a : Int) (b : Str) : decide ((Sum.inl a : Key) = Sum.inr b) = false := decide_eq_false (fun q => nomatch q)
theorem key_rl (a : Str) (b : Int) : decide ((Sum.inr a : Key) = Sum.inl b) = false := decide_eq_false (fun q => nomatch q)

def mixKind (prog : Program) (w : World) : PySem.KeyKind prog w Key where
  is := keyIs
  hash := keyH w
  inj := fun v a b ha hb => by
    rcases keyIs_shape ha with ⟨i, t, rfl, rfl⟩ | ⟨x, t, rfl, rfl⟩
    · rcases keyIs_shape hb with ⟨j, u, rfl, e⟩ | ⟨y, u, rfl, e⟩
      · injection e with e1 _; rw [e1]
      · exact nomatch e
    · rcases keyIs_shape hb with ⟨j, u, rfl, e⟩ | ⟨y, u, rfl, e⟩
      · exact nomatch e
      · injection e with e1 _; rw [e1]
  byValue := fun k v h => by
    rcases keyIs_shape h with ⟨i, t, rfl, rfl⟩ | ⟨x, t, rfl, rfl⟩ <;> rfl
  pyHash := fun hv h => by
    rcases keyIs_shape hv with ⟨i, t, rfl, rfl⟩ | ⟨x, t, rfl, rfl⟩
    · exact wpAny_pyHash_int h
    · exact wpAny_pyHash_str h
  eqBool := fun hu hv h => by
    rcases keyIs_shape hu with ⟨i, t, rfl, rfl⟩ | ⟨x, t, rfl, rfl⟩
    · rcases keyIs_shape hv with ⟨j, u, rfl, rfl⟩ | ⟨y, u, rfl, rfl⟩
      · rw [key_ll] at h; exact wpAny_eqBool_int h
      · rw [key_lr] at h; exact SeqAt.EqAt.int_str i t y u _ _ _ _ h
    · rcases keyIs_shape hv with ⟨j, u, rfl, rfl⟩ | ⟨y, u, rfl, rfl⟩
      · rw [key_rl] at h; exact SeqAt.EqAt.str_int x t j u _ _ _ _ h
      · rw [key_rr] at h; exact wpAny_eqBool_str h
  «strs» := fun k x t v h => by
    rcases keyIs_shape h with ⟨i, u, rfl, e⟩ | ⟨y, u, rfl, e⟩
    · exact nomatch e
    · injection e with e1 _
      subst e1
      cases v <;> rfl

theorem mixKind_int (prog : Program) (w : World) (i : Int) (t : Tok) : (mixKind prog w).is (.inl i) (.int i t) = true := keyIs_int i t
theorem mixKind_str (prog : Program) (w : World) (x : Str) (t : Tok) : (mixKind prog w).is (.inr x) (.str x t) = true := keyIs_str x t
end L2

namespace L2
open PySem PySem.Spec PyProof.Rows

/-- a value, without the heap -/
inductive V where
  | non | bl (b : Bool) | int (i : Int) | str (x : Str) | byt (b : Array UInt8) | flt (b : UInt64) | ref (a : Addr) | ty (n : String)
  deriving DecidableEq

def RelV : V → Value → Prop
  | .non, u => u = Value.none
  | .bl b, u => u = Value.bool b
  | .int i, u => ∃ t, u = Value.int i t
  | .str x, u => ∃ t, u = Value.str x t
  | .byt b, u => ∃ t, u = Value.bytes b t
  | .flt b, u => ∃ t, u = Value.float b t
  | .ref a, u => u = Value.ref a
  | .ty n, u => u = Value.type n

abbrev Vals : List V → List Value → Prop := Paired RelV
theorem Vals.length {xs : List V} {us : List Value} (r : Vals xs us) : xs.length = us.length := Paired.length r
theorem Vals.get : ∀ {xs : List V} {us : List Value} {i : Nat} {x : V}, Vals xs us → xs[i]? = some x → ∃ u, us[i]? = some u ∧ RelV x u
  | _, _, _, _, .nil, e => by simp at e
  | _, _, 0, _, .cons r _, e => by simp at e; subst e; exact ⟨_, rfl, r⟩
  | _, _, i + 1, x, .cons _ t, e => by
    obtain ⟨u, h1, h2⟩ := Vals.get (i := i) (x := x) t (by simpa using e)
    exact ⟨u, by simpa using h1, h2⟩
theorem Vals.set {x : V} {u : Value} (r : RelV x u) : ∀ {xs : List V} {us : List Value} (i : Nat), Vals xs us → Vals (xs.set i x) (us.set i u)
  | _, _, _, .nil => .nil
  | _, _, 0, .cons _ t => .cons r t
  | _, _, i + 1, .cons q t => .cons q (Vals.set r i t)
theorem Vals.append : ∀ {xs ys : List V} {us ws : List Value}, Vals xs us → Vals ys ws → Vals (xs ++ ys) (us ++ ws)
  | _, _, _, _, .nil, s => s
  | _, _, _, _, .cons r t, s => .cons r (Vals.append t s)
theorem Vals.take : ∀ {xs : List V} {us : List Value} (n : Nat), Vals xs us → Vals (xs.take n) (us.take n)
  | _, _, 0, _ => .nil
  | _, _, _ + 1, .nil => .nil
  | _, _, n + 1, .cons r t => .cons r (Vals.take n t)
theorem Vals.drop : ∀ {xs : List V} {us : List Value} (n : Nat), Vals xs us → Vals (xs.drop n) (us.drop n)
  | _, _, 0, r => r
  | _, _, _ + 1, .nil => .nil
  | _, _, n + 1, .cons _ t => Vals.drop n t
theorem Vals.none_of : ∀ {xs : List V} {us : List Value} {i : Nat}, Vals xs us → xs[i]? = none → us[i]? = none := fun {xs us i} r e => by
  have h1 := r.length
  have h2 : xs.length ≤ i := List.getElem?_eq_none_iff.mp e
  exact List.getElem?_eq_none_iff.mpr (by omega)

def RelO : Option V → Option Value → Prop
  | some v, some u => RelV v u
  | none, none => True
  | _, _ => False
def KV {κ : Type} : List (κ × V) → List (κ × Value) → Prop := Paired fun (p : κ × V) (q : κ × Value) => p.1 = q.1 ∧ RelV p.2 q.2

/-- a key of a dict (00_mix): an int or a text -/
def kV : Key → V
  | .inl i => .int i
  | .inr x => .str x

/-- what stands at a tracked address -/
inductive HO where
  /-- a list -/
  | lst (xs : List V)
  /-- a tuple (never changes) -/
  | tup (xs : List V)
  /-- a dict whose keys are ints and texts; one whose keys are tuples of ints and texts (the empty one is both) -/
  | dK (kvs : List (Key × V)) | dT (kvs : List (List Key × V))
  /-- a set of ints: its members, its size -/
  | set (S : Int → Bool) (n : Nat)
  /-- an instance of the class at C, its dict at dx, its attributes -/
  | ins (C dx : Addr) (fs : List (Str × V))
  /-- the dict of the instance at x -/
  | own (x : Addr)
  /-- the dict of an exception -/
  | xd (fs : List (Str × V))
  /-- a bound method, f of x -/
  | met (f x : Addr)
  /-- a range object lo, lo + 1, .. below hi -/
  | rng (lo hi : Int)
  /-- a thing that is known to the object (the script; a dict while a loop walks it): read, never written while it is so -/
  | frz (o : Obj) (u : HO)
  /-- a code object's table -/
  | tbl (ps : Array Value)
  /-- any other thing, by what is true of its one object (a def of one's own: SetO a S n := HO.ext fun h => ..) -/
  | ext (φ : Heap → Prop)

abbrev Hp := Addr → Option HO
def upd (H : Hp) (a : Addr) (o : HO) : Hp := fun b => if b = a then some o else H b
theorem upd_same {H : Hp} {a : Addr} {o : HO} : upd H a o a = some o := by unfold upd; rw [if_pos rfl]
theorem upd_ne {H : Hp} {a b : Addr} {o : HO} (h : b ≠ a) : upd H a o b = H b := by unfold upd; rw [if_neg h]
/-- two objects of different content stand apart -/
theorem ne_of {H : Hp} {a b : Addr} {o u : HO} (h : H a = some o) (h' : H b = some u) (d : o ≠ u) : a ≠ b := by
  intro e; subst e; rw [h] at h'; exact d (Option.some.inj h')
theorem ne_of_none {H : Hp} {a b : Addr} {o : HO} (h : H a = some o) (h' : H b = none) : a ≠ b := by
  intro e; subst e; rw [h] at h'; cases h'

/-- a tuple without a dict of its own -/
def IsTupD (h : Heap) (a : Addr) (items : Array Value) : Prop := ∃ o, h.get? a = some o ∧ o.cls = .type "tuple" ∧ o.dict = none ∧ ∃ n, o.data = .seq items n
theorem IsTupD.tup {h : Heap} {a : Addr} {items : Array Value} (x : IsTupD h a items) : IsTup h a items := let ⟨o, e, c, _, d⟩ := x; ⟨o, e, c, d⟩
theorem IsTupD.new (h : Heap) (items : Array Value) : IsTupD (h.push { cls := .type "tuple", data := .seq items }) h.objs.size items := ⟨_, Heap.get?_push_size _ rfl, rfl, rfl, _, rfl⟩
section
variable (P : Program) (w : World)
def ObjOk (H : Hp) (h : Heap) (a : Addr) : HO → Prop
  | .lst xs => xs.length ≤ sizeLine ∧ ∃ (its : List Value) (n : Nat), Vals xs its ∧ h.get? a = some { cls := .type "list", data := .seq its.toArray n }
  | .tup xs => xs.length ≤ sizeLine ∧ ∃ its : List Value, Vals xs its ∧ IsTupD h a its.toArray
  | .dK kvs => kvs.length ≤ sizeLine ∧ (a == sysModules) = false ∧ ∃ vs, KV kvs vs ∧ h.DictOf (mixKind P w) a vs
  | .dT kvs => kvs.length ≤ sizeLine ∧ (a == sysModules) = false ∧ ∃ xs : List (List Key × Addr × Value),
      Paired (fun (p : List Key × V) (q : List Key × Addr × Value) => p.1 = q.1 ∧ H q.2.1 = some (.tup (p.1.map kV)) ∧ RelV p.2 q.2.2) kvs xs ∧
      ∃ o es ep, h.get? a = some o ∧ o.ExactDict ∧ o.data = .dict es ep ∧ es.toList = xs.map (entryOfKey (tupleKind (mixKind P w))) ∧ (xs.map (·.1)).Nodup
  | .set S n => h.SetOf (intKind P w) a S n
  | .ins C dx fs => H dx = some (.own a) ∧ fs.length ≤ 1000 ∧ dx ≠ a ∧ h.get? a = some (PySem.W.instObj C dx) ∧
      ∃ mA, h.Ns1 dx mA ∧ (∀ f, RelO (fs.lookup f) (mA f)) ∧ PySem.Within mA (fs.map (·.1))
  | .own _ => ∃ o, h.get? a = some o
  | .xd fs => ∃ mA, h.Ns1 a mA ∧ ∀ f, RelO (fs.lookup f) (mA f)
  | .rng lo hi => ∃ t u v, h.get? a = some { cls := .type "range", data := .fields #[.int lo t, .int hi u, .int 1 v] }
  | .frz o u => h.get? a = some o ∧ ObjOk H h a u
  | .tbl ps => h.get? a = some { cls := .none, data := .fields ps }
  | .met f x => h.get? a = some (PySem.W.methodObj (.ref f) (.ref x))
  | .ext φ => φ h ∧ (∃ o, h.get? a = some o) ∧ ∀ h1 h2 : Heap, φ h1 → (∀ o, h1.get? a = some o → h2.get? a = some o) → φ h2
/-- the abstract heap is held -/
def HOk (H : Hp) (h : Heap) : Prop := ∀ a o, H a = some o → ObjOk P w H h a o
end

section
variable {P : Program} {w : World} {H H' : Hp} {h h' : Heap} {a : Addr} {o : HO}
theorem ObjOk.lt (x : ObjOk P w H h a o) : a < h.objs.size := by
  cases o with
  | lst xs => obtain ⟨_, _, _, _, e⟩ := x; exact Heap.lt_size e
  | tup xs => obtain ⟨_, _, _, p⟩ := x; exact p.tup.lt
  | dK kvs => obtain ⟨_, _, _, _, o, _, _, e, _⟩ := x; exact Heap.lt_size e
  | dT kvs => obtain ⟨_, _, _, _, o, _, _, e, _⟩ := x; exact Heap.lt_size e
  | set S n => obtain ⟨o, _, _, _, e, _⟩ := x; exact Heap.lt_size e
  | ins C dx fs => obtain ⟨_, _, _, e, _⟩ := x; exact Heap.lt_size e
  | own y => obtain ⟨_, e⟩ := x; exact Heap.lt_size e
  | xd fs => obtain ⟨_, ⟨_, _, _, e, _⟩, _⟩ := x; exact Heap.lt_size e
  | rng lo hi => obtain ⟨_, _, _, e⟩ := x; exact Heap.lt_size e
  | frz ob u => obtain ⟨e, _⟩ := x; exact Heap.lt_size e
  | tbl ps => exact Heap.lt_size (show h.get? a = some _ from x)
  | met f y => exact Heap.lt_size (show h.get? a = some _ from x)
  | ext φ => obtain ⟨_, ⟨_, e⟩, _⟩ := x; exact Heap.lt_size e
theorem Paired.mapP {α β : Type} {F G : α → β → Prop} : ∀ {l₁ : List α} {l₂ : List β}, Paired F l₁ l₂ → (∀ a b, F a b → G a b) → Paired G l₁ l₂
  | _, _, .nil, _ => .nil
  | _, _, .cons r t, f => .cons (f _ _ r) (Paired.mapP t f)
/-- what an object's description leans on: its own object, its own dict, the tuples -/
theorem ObjOk.stay (x : ObjOk P w H h a o) (k : ∀ b u, (b = a ∨ H b = some (.own a)) → h.get? b = some u → h'.get? b = some u)
    (ho : ∀ b, H b = some (.own a) → H' b = some (.own a)) (ht : ∀ b xs, H b = some (.tup xs) → H' b = some (.tup xs)) : ObjOk P w H' h' a o := by
  induction o with
  | lst xs => obtain ⟨z, its, n, r, e⟩ := x; exact ⟨z, its, n, r, k _ _ (.inl rfl) e⟩
  | tup xs => obtain ⟨z, its, r, ob, e, c⟩ := x; exact ⟨z, its, r, ob, k _ _ (.inl rfl) e, c⟩
  | dK kvs => obtain ⟨z, y, vs, r, ob, es, ep, e, c⟩ := x; exact ⟨z, y, vs, r, ob, es, ep, k _ _ (.inl rfl) e, c⟩
  | dT kvs =>
    obtain ⟨z, y, xs, r, ob, es, ep, e, c⟩ := x
    exact ⟨z, y, xs, Paired.mapP r fun p q z => ⟨z.1, ht _ _ z.2.1, z.2.2⟩, ob, es, ep, k _ _ (.inl rfl) e, c⟩
  | set S n => obtain ⟨ob, es, ep, t, e, c⟩ := x; exact ⟨ob, es, ep, t, k _ _ (.inl rfl) e, c⟩
  | ins C dx fs =>
    obtain ⟨d, z, ne, e, mA, ⟨od, es, ep, e2, c⟩, r⟩ := x
    exact ⟨ho _ d, z, ne, k _ _ (.inl rfl) e, mA, ⟨od, es, ep, k _ _ (.inr d) e2, c⟩, r⟩
  | own y => obtain ⟨ob, e⟩ := x; exact ⟨ob, k _ _ (.inl rfl) e⟩
  | xd fs => obtain ⟨mA, ⟨od, es, ep, e, c⟩, r⟩ := x; exact ⟨mA, ⟨od, es, ep, k _ _ (.inl rfl) e, c⟩, r⟩
  | rng lo hi => obtain ⟨t, u, v, e⟩ := x; exact ⟨t, u, v, k _ _ (.inl rfl) e⟩
  | frz ob u ih => obtain ⟨e, q⟩ := x; exact ⟨k _ _ (.inl rfl) e, ih q⟩
  | tbl ps =>
    have e : h.get? a = some { cls := .none, data := .fields ps } := x
    show h'.get? a = some { cls := .none, data := .fields ps }
    exact k a _ (.inl rfl) e
  | met f y =>
    have e : h.get? a = some (PySem.W.methodObj (.ref f) (.ref y)) := x
    show h'.get? a = some (PySem.W.methodObj (.ref f) (.ref y))
    exact k a _ (.inl rfl) e
  | ext φ => obtain ⟨p, ⟨o, e⟩, st⟩ := x; exact ⟨st _ _ p fun o q => k _ _ (.inl rfl) q, ⟨o, k _ _ (.inl rfl) e⟩, st⟩
theorem HOk.lt (x : HOk P w H h) (e : H a = some o) : a < h.objs.size := (x a o e).lt
theorem HOk.fresh (x : HOk P w H h) (e : h.objs.size ≤ a) : H a = none := by
  cases q : H a with
  | none => rfl
  | some u => exact absurd (Nat.lt_of_lt_of_le (x.lt q) e) (Nat.lt_irrefl _)
/-- every object of the heap is kept -/
theorem HOk.kept (x : HOk P w H h) (k : ∀ b u, h.get? b = some u → h'.get? b = some u) : HOk P w H h' := fun a o e =>
  (x a o e).stay (fun b u _ q => k b u q) (fun _ q => q) fun _ _ q => q
/-- a new object is laid and tracked -/
theorem HOk.laid (x : HOk P w H h) (k : ∀ b u, h.get? b = some u → h'.get? b = some u) (hp : h.objs.size ≤ a) (new : ObjOk P w (upd H a o) h' a o) : HOk P w (upd H a o) h' := fun b u e => by
  have hn := x.fresh hp
  by_cases hb : b = a
  · subst hb; rw [upd_same] at e; cases e; exact new
  · rw [upd_ne hb] at e
    exact (x b u e).stay (fun c v _ q => k c v q) (fun c q => by rw [upd_ne (ne_of_none q hn)]; exact q) fun c xs q => by rw [upd_ne (ne_of_none q hn)]; exact q
end

/-- what may be read as u: it is u, or a known u -/
def Rd (H : Hp) (a : Addr) (u : HO) : Prop := H a = some u ∨ ∃ o, H a = some (.frz o u)
theorem Rd.ok {P : Program} {w : World} {H : Hp} {h : Heap} {a : Addr} {u : HO} (r : Rd H a u) (x : HOk P w H h) : ObjOk P w H h a u := by
  rcases r with r | ⟨o, r⟩
  · exact x a u r
  · obtain ⟨_, q⟩ := x a _ r
    exact q
/-- what may be written -/
def Mut : Option HO → Prop
  | some (.lst _) => True
  | some (.dK _) => True
  | some (.dT _) => True
  | some (.set _ _) => True
  | some (.ins _ _ _) => True
  | some (.ext _) => True
  | _ => False
section
variable {P : Program} {w : World} {H : Hp} {h h' : Heap} {x e : Addr} {o' : HO}
/-- the object at e is changed: x itself, or the dict of the instance x -/
theorem HOk.write (ok : HOk P w H h) (mu : Mut (H x)) (he : e = x ∨ H e = some (.own x)) (k : ∀ b u, b ≠ e → h.get? b = some u → h'.get? b = some u) (heo : ∃ u, h'.get? e = some u)
    (new : ObjOk P w (upd H x o') h' x o') : HOk P w (upd H x o') h' := fun b u q => by
  have nown : ∀ c y, H c = some (.own y) → c ≠ x := fun c y r z => by subst z; rw [r] at mu; exact mu
  have ntup : ∀ c xs, H c = some (.tup xs) → c ≠ x := fun c xs r z => by subst z; rw [r] at mu; exact mu
  by_cases hb : b = x
  · subst hb; rw [upd_same] at q; cases q; exact new
  · rw [upd_ne hb] at q
    by_cases hbe : b = e
    · have q' : H b = some (.own x) := by
        rcases he with z | z
        · exact absurd (hbe.trans z) hb
        · rw [hbe]; exact z
      rw [q] at q'; cases q'
      obtain ⟨v, hv⟩ := heo
      exact ⟨v, by rw [hbe]; exact hv⟩
    · refine (ok b u q).stay (fun c v hc r => k c v ?_ r) (fun c r => by rw [upd_ne (nown c b r)]; exact r) fun c xs r => by rw [upd_ne (ntup c xs r)]; exact r
      rcases hc with rfl | hc
      · exact hbe
      · rintro rfl
        rcases he with z | z
        · exact nown c b hc z
        · rw [hc] at z; cases z; exact hb rfl
end

/-! ### kept unless tracked; of the frames at fs (the callers') the slots may change (an exception that passes writes there); of the records at ex (iterators) nothing is said -/
structure Un (fs ex : List Addr) (H H' : Hp) (h h' : Heap) : Prop where
  keep : ∀ b o, h.get? b = some o → H b = none → b ∉ fs → b ∉ ex → h'.get? b = some o
  slot : ∀ b o, h.get? b = some o → H b = none → b ∈ fs → b ∉ ex → ∃ sl, h'.get? b = some { o with slots := sl }
  free : ∀ b o, h.get? b = some o → H b = none → b ∉ ex → H' b = none
  there : ∀ b o, h.get? b = some o → b ∉ ex → ∃ o', h'.get? b = some o'
  tups : ∀ b xs, H b = some (.tup xs) → H' b = some (.tup xs)
  frzs : ∀ b o u, H b = some (.frz o u) → H' b = some (.frz o u)
  tbls : ∀ b ps, H b = some (.tbl ps) → ∃ more, H' b = some (.tbl (ps ++ more))
section
variable {fs fs' ex ex' : List Addr} {H H1 H2 : Hp} {h h1 h2 h' : Heap} {a x e : Addr} {o : HO}
theorem Un.any (u : Un fs ex H H1 h h1) {b : Addr} {ob : Obj} (q : h.get? b = some ob) (n : H b = none) (hx : b ∉ ex) : ∃ sl, h1.get? b = some { ob with slots := sl } := by
  by_cases hb : b ∈ fs
  · exact u.slot b ob q n hb hx
  · exact ⟨ob.slots, u.keep b ob q n hb hx⟩
theorem Un.kept (k : ∀ b u, h.get? b = some u → h'.get? b = some u) : Un fs ex H H h h' :=
  ⟨fun b ob q _ _ _ => k b ob q, fun b ob q _ _ _ => ⟨ob.slots, k b ob q⟩, fun _ _ _ n _ => n, fun b ob q _ => ⟨ob, k b ob q⟩, fun _ _ q => q, fun _ _ _ q => q, fun _ ps q => ⟨#[], by rw [q]; simp⟩⟩
theorem Un.refl : Un fs ex H H h h := Un.kept fun _ _ q => q
theorem Un.laid (k : ∀ b u, h.get? b = some u → h'.get? b = some u) (hp : h.objs.size ≤ a) (hn : H a = none) : Un fs ex H (upd H a o) h h' where
  keep := fun b u q _ _ _ => k b u q
  slot := fun b u q _ _ _ => ⟨u.slots, k b u q⟩
  free := fun b u q n _ => by rw [upd_ne (Nat.ne_of_lt (Nat.lt_of_lt_of_le (Heap.lt_size q) hp))]; exact n
  there := fun b u q _ => ⟨u, k b u q⟩
  tups := fun b xs q => by rw [upd_ne (ne_of_none q hn)]; exact q
  frzs := fun b u xs q => by rw [upd_ne (ne_of_none q hn)]; exact q
  tbls := fun b ps q => ⟨#[], by rw [upd_ne (ne_of_none q hn), q]; simp⟩
theorem Un.write (mu : Mut (H x)) (he : e = x ∨ H e = some (.own x)) (k : ∀ b u, b ≠ e → h.get? b = some u → h'.get? b = some u) (heo : ∃ u, h'.get? e = some u) : Un fs ex H (upd H x o) h h' := by
  have hx : ∀ b, H b = none → b ≠ x := fun b n z => by subst z; rw [n] at mu; exact mu
  have hb : ∀ b, H b = none → b ≠ e := fun b n z => by
    subst z
    rcases he with r | r
    · exact hx b n r
    · rw [n] at r; cases r
  have hm : ∀ b u, H b = some u → ¬ Mut (some u) → b ≠ x := fun b u q nm z => by subst z; rw [q] at mu; exact nm mu
  refine ⟨fun b u q n _ _ => k b u (hb b n) q, fun b u q n _ _ => ⟨u.slots, k b u (hb b n) q⟩, fun b u q n _ => by rw [upd_ne (hx b n)]; exact n, fun b u q _ => ?_,
    fun b xs q => by rw [upd_ne (hm b _ q fun z => z)]; exact q, fun b u xs q => by rw [upd_ne (hm b _ q fun z => z)]; exact q, fun b ps q => ⟨#[], by rw [upd_ne (hm b _ q fun z => z), q]; simp⟩⟩
  by_cases hbe : b = e
  · subst hbe; exact heo
  · exact ⟨u, k b u hbe q⟩
end

/-! ### the heap without what is tracked -/
def trk (h : Heap) (H : Hp) : List Addr := (List.range h.objs.size).filter fun a => (H a).isSome
def hidT (h : Heap) (H : Hp) : Heap := PySem.W.hideAll h (trk h H)
theorem hidT_size (h : Heap) (H : Hp) : (hidT h H).objs.size = h.objs.size := PySem.W.hideAll_size _ _
theorem hidT_get {h : Heap} {H : Hp} {b : Addr} {o : Obj} (e : h.get? b = some o) (n : H b = none) : (hidT h H).get? b = some o :=
  PySem.W.hideAll_get _ e fun hm => by
    have q : (H b).isSome = true := (List.mem_filter.mp hm).2
    rw [n] at q; simp at q
theorem of_hidT {h : Heap} {H : Hp} {b : Addr} {o : Obj} (e : (hidT h H).get? b = some o) : h.get? b = some o ∧ H b = none := by
  have e' : h.get? b = some o := PySem.W.of_hideAll (trk h H) e
  refine ⟨e', ?_⟩
  cases q : H b with
  | none => rfl
  | some x =>
    have hm : b ∈ trk h H := List.mem_filter.mpr ⟨List.mem_range.mpr (Heap.lt_size e'), by simp [q]⟩
    have z : (hidT h H).get? b = none := PySem.W.hideAll_none (trk h H) hm
    rw [z] at e; cases e

/-! ### OpenK's ledger, filled with every new object but one -/
def allNews (g h : Heap) (L : Addr) : List (Addr × Obj) := (List.range h.objs.size).filterMap fun a => if a = L ∨ (g.get? a).isSome = true then none else (h.get? a).map fun o => (a, o)
def rest (g h : Heap) (L d : Addr) : List (Addr × Obj) := (allNews g h L).filter fun p => decide (p.1 ≠ d)
end L2

namespace L2
open PySem PySem.Spec PyProof.Rows

/-- the module's facts, over the base: the heap at the law's entry without what is tracked there -/
structure Mod (K : PySem.W.Frag) (mg : Str → Option Value) (base : Heap) : Prop where
  kin : K.In base
  glob : base.Ns mainGlobals mg
  blt : ∃ mb, base.Ns builtinsNs mb ∧ ∀ x : Str, x ≠ "__name__" → mb x = bootBuiltins x
  nolimit : base.NoLimit

/-- the context: a def's body (or a comprehension's block) running. base: fixed through the whole law; s₀, H₀: the entry; outer: the frames whose slots others may change (a def's callers); stack: all frames that run;
   ex: iterators that were made ahead of the entry and are walked here (a comprehension's); fn: the names whose cells were made at the entry (a def: all; a comprehension's block: its own); calm: not within an except suite; pn: pins that every state bears; xe: what is wanted of an exception that leaves the code -/
structure Cx where
  prog : Program
  w : World
  K : PySem.W.Frag
  mg : Str → Option Value
  base : Heap
  A : Around
  N : List Str
  s₀ : Shared
  H₀ : Hp
  env : Env
  outer : List Env
  stack : List Env
  ex : List Addr
  fn : Str → Bool
  calm : Bool
  pn : List (Addr × Obj)
  xe : Value → Shared → Prop
/-- the callers' frames -/
def frs (l : List Env) : List Addr := l.filterMap (·.frame)
abbrev Cx.fs (X : Cx) : List Addr := frs X.outer

def Vis (sc : Scope) (x : Str) : Prop := sc.names.lookup x = some .local ∨ sc.names.lookup x = some .cell ∨ sc.names.lookup x = some .free
def Loc (sc : Scope) (x : Str) : Prop := sc.names.lookup x = some .local ∨ sc.names.lookup x = some .cell
def Look (env : Env) (h : Heap) (m : Str → Option Value) (x : Str) (u : Value) : Prop :=
  (env.kindOf x = some .local ∧ m x = some u) ∨ ((env.kindOf x = some .cell ∨ env.kindOf x = some .free) ∧ ∃ c, env.cells.lookup x = some c ∧ h.IsCell c (some u))

structure Cx.Ok (X : Cx) : Prop where
  mod : Mod X.K X.mg X.base
  kind : X.env.scope.kind = .function
  glob : X.env.globals = mainGlobals
  blt : X.env.builtins = builtinsNs
  above : X.s₀.heap.objs.size ≤ X.env.locals
  inj : ∀ x y c, X.env.cells.lookup x = some c → X.env.cells.lookup y = some c → x = y
  has : ∀ x, (X.env.kindOf x = some .cell ∨ X.env.kindOf x = some .free) → ∃ c, X.env.cells.lookup x = some c
  cab : ∀ x c, X.fn x = true → X.env.cells.lookup x = some c → X.s₀.heap.objs.size ≤ c
  hd : X.calm = true → X.A.handled = none
  frames : X.A.frames = some X.stack
  stk : X.stack = X.outer ∨ (X.stack = X.env :: X.outer ∧ X.env.frame = some X.env.locals)
  exf : ∀ b ∈ X.ex, b ≠ X.env.locals ∧ ∀ x c, X.env.cells.lookup x = some c → c ≠ b
  bs : ∀ b o, X.base.get? b = some o → X.s₀.heap.get? b = some o ∧ X.H₀ b = none
  bsz : X.base.objs.size ≤ X.s₀.heap.objs.size
  noex : ∀ b o, X.base.get? b = some o → b ∉ X.ex
  exfs : ∀ b ∈ X.ex, b ∉ X.fs
  funs : X.s₀.heap.FunFrames X.base X.outer
  frf : ∀ b ∈ X.fs, X.H₀ b = none

structure Inv (X : Cx) (pins : List (Addr × Obj)) (σ : List (Option V)) (H : Hp) (s : Shared) : Prop where
  ok : X.Ok
  os : s.os = X.s₀.os
  bare : AllBare s.gens
  base : Un X.fs X.ex X.H₀ H X.s₀.heap s.heap
  loc : ∃ m, s.heap.Ns X.env.locals m ∧ ∀ (i : Nat) (x : Str) (v : V), X.N[i]? = some x → σ[i]? = some (some v) → Vis X.env.scope x → ∃ u, RelV v u ∧ Look X.env s.heap m x u
  cell : ∀ x c, X.env.cells.lookup x = some c → ∃ v, s.heap.IsCell c v
  free : H X.env.locals = none
  freeC : ∀ x c, X.env.cells.lookup x = some c → H c = none
  pin : ∀ p ∈ X.pn ++ pins, s.heap.get? p.1 = some p.2 ∧ H p.1 = none ∧ p.1 ≠ X.env.locals ∧ p.1 ∉ X.fs ∧ ∀ v, p.2.data ≠ .cell v
  hok : HOk X.prog X.w H s.heap
  len : σ.length = X.N.length

section
variable {X : Cx} {pins : List (Addr × Obj)} {σ : List (Option V)} {H H' : Hp} {s : Shared} {h' : Heap}

theorem Cx.Ok.nofr (ok : X.Ok) {b : Addr} {o : Obj} (e : X.base.get? b = some o) : b ∉ X.fs := fun hb => by
  have := (ok.funs.mem hb).1
  rw [e] at this; cases this
theorem Inv.bs (I : Inv X pins σ H s) : ∀ b o, X.base.get? b = some o → s.heap.get? b = some o ∧ H b = none := fun b o e =>
  ⟨I.base.keep b o (I.ok.bs b o e).1 (I.ok.bs b o e).2 (I.ok.nofr e) (I.ok.noex b o e), I.base.free b o (I.ok.bs b o e).1 (I.ok.bs b o e).2 (I.ok.noex b o e)⟩
theorem Inv.bk (I : Inv X pins σ H s) : ∀ b o, X.base.get? b = some o → s.heap.get? b = some o := fun b o e => (I.bs b o e).1
theorem Inv.mod (I : Inv X pins σ H s) : Mod X.K X.mg X.base := I.ok.mod
theorem Inv.kIn (I : Inv X pins σ H s) : X.K.In s.heap := I.ok.mod.kin.keeps I.bk
theorem Inv.lt (I : Inv X pins σ H s) : X.env.locals < s.heap.objs.size := let ⟨_, hn, _⟩ := I.loc; hn.lt
theorem Inv.sz (I : Inv X pins σ H s) : X.s₀.heap.objs.size ≤ s.heap.objs.size := Nat.le_trans I.ok.above (Nat.le_of_lt I.lt)
theorem Inv.nofs (I : Inv X pins σ H s) {a : Addr} (h : s.heap.objs.size ≤ a) : a ∉ X.fs := fun hb => by
  obtain ⟨_, o, ho, _⟩ := I.ok.funs.mem hb
  exact absurd (Nat.lt_of_lt_of_le (Heap.lt_size ho) (Nat.le_trans I.sz h)) (Nat.lt_irrefl _)
theorem Inv.cne (I : Inv X pins σ H s) : ∀ x c, X.env.cells.lookup x = some c → c ≠ X.env.locals := fun x c e z => by
  obtain ⟨v, o, ho, hd⟩ := I.cell x c e
  obtain ⟨m, ⟨o', es, ep, ho', hd', _⟩, _⟩ := I.loc
  rw [z, ho'] at ho; cases ho; rw [hd'] at hd; cases hd
theorem Inv.funs (I : Inv X pins σ H s) : s.heap.FunFrames X.base X.outer := by
  have all : ∀ (l : List Env), (∀ b ∈ frs l, b ∈ X.fs) → X.s₀.heap.FunFrames X.base l → s.heap.FunFrames X.base l := by
    intro l
    induction l with
    | nil => intro _ _; trivial
    | cons env r ih =>
      intro hs hl
      obtain ⟨hk, ⟨L, o, hf, hn, ho, hd⟩, hr⟩ := hl
      have hL : L ∈ X.fs := hs L (by unfold frs; rw [List.filterMap_cons, hf]; exact List.mem_cons_self)
      obtain ⟨sl, e⟩ := I.base.slot L o ho (I.ok.frf L hL) hL fun z => I.ok.exfs L z hL
      exact ⟨hk, ⟨L, _, hf, hn, e, hd⟩, ih (fun b hb => hs b (by unfold frs; rw [List.filterMap_cons, hf]; exact List.mem_cons_of_mem _ hb)) hr⟩
  exact all X.outer (fun _ hb => hb) I.ok.funs

/-- the frames that run, for a call -/
theorem Inv.stack (I : Inv X pins σ H s) : s.heap.FunFrames X.base X.stack := by
  rcases I.ok.stk with e | ⟨e, hf⟩
  · rw [e]; exact I.funs
  · rw [e]
    obtain ⟨m, hn, _⟩ := I.loc
    refine .cons (by rw [I.ok.kind]; decide) hf hn ?_ I.funs
    exact Heap.get?_none_of_le (Nat.le_trans I.ok.bsz I.ok.above)
theorem Inv.stkSub (I : Inv X pins σ H s) : ∀ b ∈ frs X.stack, b ∈ X.env.locals :: X.fs := fun b hb => by
  rcases I.ok.stk with e | ⟨e, hf⟩
  · rw [e] at hb; exact List.mem_cons_of_mem _ hb
  · rw [e] at hb
    unfold frs at hb
    rw [List.filterMap_cons, hf] at hb
    exact hb
theorem Inv.stkFree (I : Inv X pins σ H s) : ∀ b ∈ frs X.stack, H b = none := fun b hb => by
  rcases List.mem_cons.mp (I.stkSub b hb) with e | hb
  · rw [e]; exact I.free
  · obtain ⟨_, o, ho, _⟩ := I.ok.funs.mem hb
    exact I.base.free b o ho (I.ok.frf b hb) fun z => I.ok.exfs b z hb

/-- THE STEP: the untracked objects but the frame and the records at ch are kept (the callers' frames up to slots), the frame's map is kept, the new abstract heap is held -/
theorem Inv.step {g' : Array GenState} {t' : Nat} {d' : Drawn} {ch : List Addr} (I : Inv X pins σ H s)
    (hch : ∀ b ∈ ch, (b ∈ X.ex ∨ X.s₀.heap.objs.size ≤ b) ∧ b ≠ X.env.locals ∧ (∀ x c, X.env.cells.lookup x = some c → c ≠ b) ∧ ∀ p ∈ X.pn ++ pins, p.1 ≠ b)
    (keep : ∀ b o, b ≠ X.env.locals → b ∉ X.fs → b ∉ ch → s.heap.get? b = some o → H b = none → h'.get? b = some o)
    (slot : ∀ b o, b ≠ X.env.locals → b ∈ X.fs → b ∉ ch → s.heap.get? b = some o → H b = none → ∃ sl, h'.get? b = some { o with slots := sl }) (free : ∀ b o, b ∉ ch → s.heap.get? b = some o → H b = none → H' b = none)
    (there : ∀ b o, b ∉ ch → s.heap.get? b = some o → ∃ o', h'.get? b = some o')
    (tups : ∀ b xs, H b = some (.tup xs) → H' b = some (.tup xs)) (frzs : ∀ b o u, H b = some (.frz o u) → H' b = some (.frz o u)) (tbls : ∀ b ps, H b = some (.tbl ps) → ∃ more, H' b = some (.tbl (ps ++ more)))
    (ns : ∀ m, s.heap.Ns X.env.locals m → h'.Ns X.env.locals m) (hok : HOk X.prog X.w H' h') (hg : AllBare g') :
    Inv X pins σ H' { s with heap := h', gens := g', drawn := d', toks := t' } := by
  have neL : ∀ b o, X.s₀.heap.get? b = some o → b ≠ X.env.locals := fun b o e => Nat.ne_of_lt (Nat.lt_of_lt_of_le (Heap.lt_size e) I.ok.above)
  have neC : ∀ b o, X.s₀.heap.get? b = some o → b ∉ X.ex → b ∉ ch := fun b o e hx hb => by
    rcases (hch b hb).1 with z | z
    · exact hx z
    · exact absurd (Nat.lt_of_lt_of_le (Heap.lt_size e) z) (Nat.lt_irrefl _)
  have cellK : ∀ x c, X.env.cells.lookup x = some c → ∀ v, s.heap.IsCell c v → h'.IsCell c v := fun x c e v ⟨o, ho, hd⟩ => by
    have nch : c ∉ ch := fun z => (hch c z).2.2.1 x c e rfl
    by_cases hc : c ∈ X.fs
    · obtain ⟨sl, q⟩ := slot c o (I.cne x c e) hc nch ho (I.freeC x c e)
      exact ⟨_, q, hd⟩
    · exact ⟨o, keep c o (I.cne x c e) hc nch ho (I.freeC x c e), hd⟩
  refine ⟨I.ok, I.os, hg, ⟨fun b o e n hb hx => ?_, fun b o e n hb hx => ?_, fun b o e n hx => ?_, fun b o e hx => ?_, fun b xs e => tups b xs (I.base.tups b xs e), fun b o xs e => frzs b o xs (I.base.frzs b o xs e), fun b ps e => ?_⟩, ?_, fun x c e => ?_, ?_, fun x c e => ?_, fun p hp => ?_, hok, I.len⟩
  · exact keep b o (neL b o e) hb (neC b o e hx) (I.base.keep b o e n hb hx) (I.base.free b o e n hx)
  · obtain ⟨sl, e1⟩ := I.base.slot b o e n hb hx
    obtain ⟨sl', e2⟩ := slot b _ (neL b o e) hb (neC b o e hx) e1 (I.base.free b o e n hx)
    exact ⟨sl', e2⟩
  · obtain ⟨o', e1⟩ := I.base.there b o e hx
    exact free b o' (neC b o e hx) e1 (I.base.free b o e n hx)
  · obtain ⟨o', e1⟩ := I.base.there b o e hx
    exact there b o' (neC b o e hx) e1
  · obtain ⟨m1, e1⟩ := I.base.tbls b ps e
    obtain ⟨m2, e2⟩ := tbls b _ e1
    exact ⟨m1 ++ m2, by rw [e2, Array.append_assoc]⟩
  · obtain ⟨m, hn, hl⟩ := I.loc
    refine ⟨m, ns m hn, fun i x v e1 e2 e3 => ?_⟩
    obtain ⟨u, r, l⟩ := hl i x v e1 e2 e3
    refine ⟨u, r, ?_⟩
    rcases l with l | ⟨k, c, e, z⟩
    · exact .inl l
    · exact .inr ⟨k, c, e, cellK x c e _ z⟩
  · obtain ⟨v, z⟩ := I.cell x c e
    exact ⟨v, cellK x c e v z⟩
  · obtain ⟨m, ⟨o, _, _, ho, _⟩, _⟩ := I.loc
    exact free _ o (fun z => (hch _ z).2.1 rfl) ho I.free
  · obtain ⟨v, o, ho, hd⟩ := I.cell x c e
    exact free c o (fun z => (hch c z).2.2.1 x c e rfl) ho (I.freeC x c e)
  · obtain ⟨e, n, ne, nf, d⟩ := I.pin p hp
    have nch : p.1 ∉ ch := fun z => (hch p.1 z).2.2.2 p hp rfl
    exact ⟨keep p.1 p.2 ne nf nch e n, free p.1 p.2 nch e n, ne, nf, d⟩
/-- .. where the frame's own object is kept too -/
theorem Inv.un {t' : Nat} (I : Inv X pins σ H s) (u : Un X.fs [] H H' s.heap h') (hok : HOk X.prog X.w H' h') : Inv X pins σ H' { s with heap := h', toks := t' } := by
  obtain ⟨m, ⟨o, es, ep, ho, r⟩, _⟩ := id I.loc
  obtain ⟨sl, hL⟩ := u.any ho I.free (by simp)
  exact I.step (g' := s.gens) (d' := s.drawn) (ch := []) (fun _ z => nomatch z) (fun b o _ hb _ e n => u.keep b o e n hb (by simp)) (fun b o _ hb _ e n => u.slot b o e n hb (by simp)) (fun b o _ e n => u.free b o e n (by simp)) (fun b o _ e => u.there b o e (by simp)) u.tups u.frzs u.tbls (fun m' hm => by
    obtain ⟨o', es', ep', ho', r'⟩ := hm
    rw [ho] at ho'; cases ho'
    exact ⟨_, es', ep', hL, r'⟩) hok I.bare
/-- behind a call (or a comprehension's block): the slots of this frame may have changed too, the records at ch may have turned -/
theorem Inv.call {g' : Array GenState} {t' : Nat} {d' : Drawn} {ch : List Addr} (I : Inv X pins σ H s) (u : Un (frs X.stack) ch H H' s.heap h') (hok : HOk X.prog X.w H' h') (hg : AllBare g')
    (hch : ∀ b ∈ ch, (b ∈ X.ex ∨ X.s₀.heap.objs.size ≤ b) ∧ b ≠ X.env.locals ∧ (∀ x c, X.env.cells.lookup x = some c → c ≠ b) ∧ ∀ p ∈ X.pn ++ pins, p.1 ≠ b) :
    Inv X pins σ H' { s with heap := h', gens := g', drawn := d', toks := t' } := by
  obtain ⟨m, ⟨o, es, ep, ho, r⟩, _⟩ := id I.loc
  obtain ⟨sl, hL⟩ := u.any ho I.free fun z => (hch _ z).2.1 rfl
  exact I.step (ch := ch) hch (fun b o hL hb hc e n => u.keep b o e n (fun z => (List.mem_cons.mp (I.stkSub b z)).elim hL hb) hc) (fun b o _ _ hc e n => u.any e n hc) (fun b o hc e n => u.free b o e n hc) (fun b o hc e => u.there b o e hc) u.tups u.frzs u.tbls (fun m' hm => by
    obtain ⟨o', es', ep', ho', r'⟩ := hm
    rw [ho] at ho'; cases ho'
    exact ⟨_, es', ep', hL, r'⟩) hok hg
/-- an untracked record of ours (an iterator) has turned -/
theorem Inv.turned {t' : Nat} {it : Addr} (I : Inv X pins σ H s) (k : ∀ b o, b ≠ it → s.heap.get? b = some o → h'.get? b = some o) (hn : H it = none) (hL : it ≠ X.env.locals)
    (h1 : it ∈ X.ex ∨ X.s₀.heap.objs.size ≤ it) (h2 : ∀ x c, X.env.cells.lookup x = some c → c ≠ it) (h3 : ∀ p ∈ X.pn ++ pins, p.1 ≠ it) : Inv X pins σ H { s with heap := h', toks := t' } := by
  have nit : ∀ b u, H b = some u → b ≠ it := fun b u e z => by rw [z, hn] at e; cases e
  refine I.step (g' := s.gens) (d' := s.drawn) (ch := [it]) (fun b hb => ?_) (fun b o _ _ hc e _ => k b o (fun z => hc (by simp [z])) e) (fun b o _ _ hc e _ => ⟨o.slots, k b o (fun z => hc (by simp [z])) e⟩) (fun _ _ _ _ n => n)
    (fun b o hc e => ⟨o, k b o (fun z => hc (by simp [z])) e⟩) (fun _ _ e => e) (fun _ _ _ e => e) (fun b ps e => ⟨#[], by rw [e]; simp⟩) (fun m hm => ?_) (fun b u e => ?_) I.bare
  · have e : b = it := by simpa using hb
    subst e
    exact ⟨h1, hL, h2, h3⟩
  · obtain ⟨o, es, ep, ho, r⟩ := hm
    exact ⟨o, es, ep, k _ o (Ne.symm hL) ho, r⟩
  · refine (I.hok b u e).stay (fun c v hc q => k c v ?_ q) (fun _ q => q) fun _ _ q => q
    rcases hc with z | z
    · rw [z]; exact nit b u e
    · exact nit c _ z
theorem Inv.tok (I : Inv X pins σ H s) (t : Nat) : Inv X pins σ H { s with toks := t } := I.un (h' := s.heap) (t' := t) Un.refl I.hok
/-- all objects kept -/
theorem Inv.kept {t' : Nat} (I : Inv X pins σ H s) (k : ∀ b u, s.heap.get? b = some u → h'.get? b = some u) : Inv X pins σ H { s with heap := h', toks := t' } := I.un (Un.kept k) (I.hok.kept k)
/-- a new object laid and tracked -/
theorem Inv.laid {a : Addr} {o : HO} {t' : Nat} (I : Inv X pins σ H s) (k : ∀ b u, s.heap.get? b = some u → h'.get? b = some u) (hp : s.heap.objs.size ≤ a) (new : ObjOk X.prog X.w (upd H a o) h' a o) :
    Inv X pins σ (upd H a o) { s with heap := h', toks := t' } := I.un (Un.laid k hp (I.hok.fresh hp)) (I.hok.laid k hp new)
/-- an object written -/
theorem Inv.write {x e : Addr} {o : HO} {t' : Nat} (I : Inv X pins σ H s) (mu : Mut (H x)) (he : e = x ∨ H e = some (.own x)) (k : ∀ b u, b ≠ e → s.heap.get? b = some u → h'.get? b = some u) (heo : ∃ u, h'.get? e = some u)
    (new : ObjOk X.prog X.w (upd H x o) h' x o) : Inv X pins σ (upd H x o) { s with heap := h', toks := t' } := I.un (Un.write mu he k heo) (I.hok.write mu he k heo new)
/-- forgetting slots, pins -/
theorem Inv.weak {σ' : List (Option V)} (I : Inv X pins σ H s) (hl : σ'.length = σ.length) (w : ∀ (i : Nat) v, σ'[i]? = some (some v) → σ[i]? = some (some v)) : Inv X pins σ' H s :=
  ⟨I.ok, I.os, I.bare, I.base, let ⟨m, hn, hl'⟩ := I.loc; ⟨m, hn, fun i x v e1 e2 e3 => hl' i x v e1 (w i v e2) e3⟩, I.cell, I.free, I.freeC, I.pin, I.hok, hl.trans I.len⟩
theorem Inv.pins_of {pins' : List (Addr × Obj)} (I : Inv X pins σ H s) (h : ∀ p ∈ pins', s.heap.get? p.1 = some p.2 ∧ H p.1 = none ∧ p.1 ≠ X.env.locals ∧ p.1 ∉ X.fs ∧ ∀ v, p.2.data ≠ .cell v) : Inv X pins' σ H s :=
  ⟨I.ok, I.os, I.bare, I.base, I.loc, I.cell, I.free, I.freeC, fun p hp => (List.mem_append.mp hp).elim (fun z => I.pin p (List.mem_append_left _ z)) (h p), I.hok, I.len⟩

theorem nodup_ix {N : List Str} (hN : N.Nodup) {i j : Nat} {x : Str} (a : N[i]? = some x) (b : N[j]? = some x) : i = j := by
  obtain ⟨h1, e1⟩ := List.getElem?_eq_some_iff.mp a
  obtain ⟨h2, e2⟩ := List.getElem?_eq_some_iff.mp b
  exact (List.getElem_inj hN).mp (e1.trans e2.symm)

/-- a name is stored; what changed -/
theorem store_ok2 {M : Model} {A : Around} {E : Value → Shared → Prop} {i : Nat} {x : Str} {v : V} {u : Value} {Q : Unit → Shared → Prop} (I : Inv X pins σ H s) (hN : X.N.Nodup) (hi : X.N[i]? = some x) (hx : Loc X.env.scope x) (r : RelV v u)
    (h : ∀ s', Inv X pins (σ.set i (some v)) H s' → (∃ a, Heap.SameBut a s.heap s'.heap ∧ (a = X.env.locals ∨ X.env.cells.lookup x = some a)) → Q () s') (hf : X.fn x = true ∨ X.env.scope.names.lookup x = some .local := by first | exact .inl rfl | exact .inr rfl | assumption) : wpAny M A (storeName X.env x u) Q E s := by
  obtain ⟨m, hn, hl⟩ := id I.loc
  have hcls : (X.env.scope.kind == .class || (X.env.scope.kind == .module && X.env.locals != X.env.globals)) = false := by rw [I.ok.kind]; rfl
  have hiσ : i < σ.length := by rw [I.len]; exact (List.getElem?_eq_some_iff.mp hi).1
  have cne := I.cne
  have tracked : ∀ {a : Addr} {h' : Heap}, (∃ o, s.heap.get? a = some o ∧ H a = none) → Heap.SameBut a s.heap h' → HOk X.prog X.w H h' := fun {a h'} ha hs b ob e => by
    obtain ⟨_, _, hfree⟩ := ha
    refine (I.hok b ob e).stay (fun c w' hc q => (hs.2 c ?_).trans q) (fun _ q => q) fun _ _ q => q
    rintro rfl
    rcases hc with rfl | hc
    · rw [hfree] at e; cases e
    · rw [hfree] at hc; cases hc
  rcases hx with hk | hk
  · refine wpAny_storeName_local hk hn (fun h' hn' hs => ?_) hcls
    obtain ⟨oL, _, _, hoL, _⟩ := id hn
    refine h _ ⟨I.ok, I.os, I.bare, ⟨fun b o e n hb hx => ?_, fun b o e n hb hx => ?_, I.base.free, fun b o e hx => ?_, I.base.tups, I.base.frzs, I.base.tbls⟩, ⟨_, hn', fun j y v' e1 e2 e3 => ?_⟩, fun y c e => ?_, I.free, I.freeC, fun p hp => ?_, tracked ⟨oL, hoL, I.free⟩ hs, by simpa using I.len⟩ ⟨_, hs, .inl rfl⟩
    · exact (hs.2 b (Nat.ne_of_lt (Nat.lt_of_lt_of_le (Heap.lt_size e) I.ok.above))).trans (I.base.keep b o e n hb hx)
    · obtain ⟨sl, e1⟩ := I.base.slot b o e n hb hx
      exact ⟨sl, (hs.2 b (Nat.ne_of_lt (Nat.lt_of_lt_of_le (Heap.lt_size e) I.ok.above))).trans e1⟩
    · obtain ⟨o', e1⟩ := I.base.there b o e hx
      exact ⟨o', (hs.2 b (Nat.ne_of_lt (Nat.lt_of_lt_of_le (Heap.lt_size e) I.ok.above))).trans e1⟩
    · by_cases hj : j = i
      · subst hj
        rw [hi] at e1; cases e1
        rw [List.getElem?_set_self hiσ] at e2
        cases e2
        exact ⟨u, r, .inl ⟨hk, by simp⟩⟩
      · rw [List.getElem?_set_ne (Ne.symm hj)] at e2
        obtain ⟨u', r', q⟩ := hl j y v' e1 e2 e3
        refine ⟨u', r', ?_⟩
        rcases q with ⟨k, e⟩ | ⟨k, c, e, z⟩
        · refine .inl ⟨k, ?_⟩
          have : y ≠ x := fun e => hj (nodup_ix hN e1 (e ▸ hi))
          simp [this, e]
        · exact .inr ⟨k, c, e, z.sameBut hs (cne y c e)⟩
    · obtain ⟨w', z⟩ := I.cell y c e
      exact ⟨w', z.sameBut hs (cne y c e)⟩
    · obtain ⟨e, n, ne, nf, d⟩ := I.pin p hp
      exact ⟨(hs.2 p.1 ne).trans e, n, ne, nf, d⟩
  · have hfn : X.fn x = true := by
      rcases hf with z | z
      · exact z
      · rw [z] at hk; cases hk
    obtain ⟨c, hc⟩ := I.ok.has x (.inl hk)
    obtain ⟨w', z⟩ := I.cell x c hc
    refine wpAny_storeName_cell I.ok.kind hk hc z (fun h' hc' hs => ?_)
    obtain ⟨oc, hoc, hocd⟩ := id z
    refine h { s with heap := h' } ⟨I.ok, I.os, I.bare, ⟨fun b o e n hb hx => ?_, fun b o e n hb hx => ?_, I.base.free, fun b o e hx => ?_, I.base.tups, I.base.frzs, I.base.tbls⟩, ⟨m, hn.sameBut hs (Ne.symm (cne x c hc)), fun j y v' e1 e2 e3 => ?_⟩, fun y c' e => ?_, I.free, I.freeC, fun p hp => ?_, tracked ⟨oc, hoc, I.freeC x c hc⟩ hs, by simpa using I.len⟩ ⟨c, hs, .inr hc⟩
    · exact (hs.2 b (Nat.ne_of_lt (Nat.lt_of_lt_of_le (Heap.lt_size e) (I.ok.cab x c hfn hc)))).trans (I.base.keep b o e n hb hx)
    · obtain ⟨sl, e1⟩ := I.base.slot b o e n hb hx
      exact ⟨sl, (hs.2 b (Nat.ne_of_lt (Nat.lt_of_lt_of_le (Heap.lt_size e) (I.ok.cab x c hfn hc)))).trans e1⟩
    · obtain ⟨o', e1⟩ := I.base.there b o e hx
      exact ⟨o', (hs.2 b (Nat.ne_of_lt (Nat.lt_of_lt_of_le (Heap.lt_size e) (I.ok.cab x c hfn hc)))).trans e1⟩
    · by_cases hj : j = i
      · subst hj
        rw [hi] at e1; cases e1
        rw [List.getElem?_set_self hiσ] at e2
        cases e2
        exact ⟨u, r, .inr ⟨.inl hk, c, hc, hc'⟩⟩
      · rw [List.getElem?_set_ne (Ne.symm hj)] at e2
        obtain ⟨u', r', q⟩ := hl j y v' e1 e2 e3
        refine ⟨u', r', ?_⟩
        rcases q with q | ⟨k, c', e, z'⟩
        · exact .inl q
        · refine .inr ⟨k, c', e, z'.sameBut hs ?_⟩
          rintro rfl
          exact hj (nodup_ix hN e1 (I.ok.inj _ _ _ e hc ▸ hi))
    · by_cases hcc : c' = c
      · subst hcc; exact ⟨_, hc'⟩
      · obtain ⟨w2, z2⟩ := I.cell y c' e
        exact ⟨w2, z2.sameBut hs hcc⟩
    · obtain ⟨e, n, ne, nf, d⟩ := I.pin p hp
      refine ⟨(hs.2 p.1 ?_).trans e, n, ne, nf, d⟩
      intro q
      rw [q, hoc] at e
      have q' : oc = p.2 := Option.some.inj e
      exact d w' (by rw [← q']; exact hocd)
theorem store_ok {M : Model} {A : Around} {E : Value → Shared → Prop} {i : Nat} {x : Str} {v : V} {u : Value} {Q : Unit → Shared → Prop} (I : Inv X pins σ H s) (hN : X.N.Nodup) (hi : X.N[i]? = some x) (hx : Loc X.env.scope x) (r : RelV v u)
    (h : ∀ s', Inv X pins (σ.set i (some v)) H s' → Q () s') (hf : X.fn x = true ∨ X.env.scope.names.lookup x = some .local := by first | exact .inl rfl | exact .inr rfl | assumption) : wpAny M A (storeName X.env x u) Q E s :=
  store_ok2 I hN hi hx r (fun s' I' _ => h s' I') hf
/-- behind a call or a block, the state as it is -/
theorem Inv.call' {s' : Shared} {ch : List Addr} (I : Inv X pins σ H s) (ho : s'.os = s.os) (u : Un (frs X.stack) ch H H' s.heap s'.heap) (hok : HOk X.prog X.w H' s'.heap) (hg : AllBare s'.gens)
    (hch : ∀ b ∈ ch, (b ∈ X.ex ∨ X.s₀.heap.objs.size ≤ b) ∧ b ≠ X.env.locals ∧ (∀ x c, X.env.cells.lookup x = some c → c ≠ b) ∧ ∀ p ∈ X.pn ++ pins, p.1 ≠ b) : Inv X pins σ H' s' := by
  obtain ⟨h', g', d', t', o'⟩ := s'
  have e : o' = s.os := ho
  subst e
  exact I.call (g' := g') (t' := t') (d' := d') u hok hg hch
end

/-! ### the judgements -/
/-- an exception: its class, its own dict's address (where it has one), the abstract heap behind it -/
abbrev XK := Value → Option Addr → Hp → Prop
abbrev St := List (Option V)
abbrev VK := V → Hp → Prop
/-- an expression's reading; a test's; an argument list's -/
abbrev TE := St → Hp → VK → Prop
abbrev TT := St → Hp → (Bool → Hp → Prop) → Prop
abbrev TA := St → Hp → (List V → Hp → Prop) → Prop
/-- what is wanted behind a statement -/
structure Ends where
  nx : St → Hp → Prop
  rt : VK
  bk : St → Hp → Prop := fun _ _ => False
  ct : St → Hp → Prop := fun _ _ => False
abbrev TS := Ends → St → Hp → Prop

def EP (X : Cx) (pins : List (Addr × Obj)) (σ : St) (Q : VK) (u : Value) (s' : Shared) : Prop := ∃ v H', Inv X pins σ H' s' ∧ RelV v u ∧ Q v H'
def TP (X : Cx) (pins : List (Addr × Obj)) (σ : St) (Q : Bool → Hp → Prop) (b : Bool) (s' : Shared) : Prop := ∃ H', Inv X pins σ H' s' ∧ Q b H'
def AP (X : Cx) (pins : List (Addr × Obj)) (σ : St) (Q : List V → Hp → Prop) (us : List Value) (s' : Shared) : Prop := ∃ vs H', Inv X pins σ H' s' ∧ Vals vs us ∧ Q vs H'
def SP (X : Cx) (pins : List (Addr × Obj)) (D : Ends) (f : Flow) (s' : Shared) : Prop :=
  match f with
  | .next => ∃ σ' H', Inv X pins σ' H' s' ∧ D.nx σ' H'
  | .brk => ∃ σ' H', Inv X pins σ' H' s' ∧ D.bk σ' H'
  | .cont => ∃ σ' H', Inv X pins σ' H' s' ∧ D.ct σ' H'
  | .ret u => ∃ v σ' H', Inv X pins σ' H' s' ∧ RelV v u ∧ D.rt v H'

def PE (X : Cx) (e : Expr) (t : TE) : Prop :=
  ∀ (pins : List (Addr × Obj)) (s : Shared) (σ : St) (H : Hp) (Q : VK), Inv X pins σ H s → t σ H Q → wpAny (model X.prog X.w) X.A (eval e X.env) (EP X pins σ Q) X.xe s
def PT (X : Cx) (e : Expr) (t : TT) : Prop :=
  ∀ (pins : List (Addr × Obj)) (s : Shared) (σ : St) (H : Hp) (Q : Bool → Hp → Prop), Inv X pins σ H s → t σ H Q → wpAny (model X.prog X.w) X.A (isTrue e X.env (eval e X.env)) (TP X pins σ Q) X.xe s
/-- a test whatever its 'whole' is (and, or) -/
def PW (X : Cx) (e : Expr) (t : TT) : Prop :=
  ∀ (whole : Sem Value) (pins : List (Addr × Obj)) (s : Shared) (σ : St) (H : Hp) (Q : Bool → Hp → Prop), Inv X pins σ H s → t σ H Q → wpAny (model X.prog X.w) X.A (isTrue e X.env whole) (TP X pins σ Q) X.xe s
theorem PW.pt {X : Cx} {e : Expr} {t : TT} (h : PW X e t) : PT X e t := h _
/-- an argument list (no star), from the left -/
def PA (X : Cx) (es : List Expr) (t : TA) : Prop :=
  ∀ (pos : Pos) (pins : List (Addr × Obj)) (s : Shared) (σ : St) (H : Hp) (Q : List V → Hp → Prop), Inv X pins σ H s → t σ H Q → wpAny (model X.prog X.w) X.A (spliced (backTo pos (starEach es X.env))) (AP X pins σ Q) X.xe s
def PS (X : Cx) (st : Stmt) (t : TS) : Prop :=
  ∀ (pins : List (Addr × Obj)) (s : Shared) (σ : St) (H : Hp) (D : Ends), Inv X pins σ H s → t D σ H → wpAny (model X.prog X.w) X.A (exec st X.env) (SP X pins D) X.xe s
def PSs (X : Cx) (st : List Stmt) (t : TS) : Prop :=
  ∀ (pins : List (Addr × Obj)) (s : Shared) (σ : St) (H : Hp) (D : Ends), Inv X pins σ H s → t D σ H → wpAny (model X.prog X.w) X.A (execs st X.env) (SP X pins D) X.xe s
/-- weaken the end -/
theorem thn {α : Type} {t : Sem α} {Q Q' : α → Shared → Prop} {M : Model} {A : Around} {E : Value → Shared → Prop} {s : Shared} (h : wpAny M A t Q E s) (hQ : ∀ a s, Q a s → Q' a s) : wpAny M A t Q' E s := wpAny_mono h hQ fun _ _ x => x
end L2

namespace L2
open PySem PySem.Spec PyProof.Rows
section
variable {X : Cx}

/-! ### names and constants -/
def tVar (i : Nat) : TE := fun σ H Q => ∃ v, σ[i]? = some (some v) ∧ Q v H
def tC (v : V) : TE := fun _ H Q => Q v H
theorem pe_var {i : Nat} {x : Str} {pos : Pos} (hN : X.N[i]? = some x) (hv : Vis X.env.scope x) (hd : (x == ("__debug__" : Str)) = false := by decide) (hcd : (x == ("__classdict__" : Str)) = false := by decide) : PE X (.Name x pos) (tVar i) := by
  intro pins s σ H Q I h
  obtain ⟨v, e, h⟩ := h
  obtain ⟨m, hn, hl⟩ := I.loc
  obtain ⟨u, r, l⟩ := hl i x v hN e hv
  have fin : EP X pins σ Q u s := ⟨v, H, I, r, h⟩
  rcases l with ⟨hk, hm⟩ | ⟨hk, c, hc, hcell⟩
  · exact wpAny_Name (wpAny_loadName_local I.ok.kind hk hn hm fin) hd
  · rcases hk with hk | hk
    · exact wpAny_Name (wpAny_loadName_cell I.ok.kind hk hc hcell fin) hd
    · exact wpAny_Name (wpAny_loadName_free I.ok.kind hk hc hcell fin hcd) hd
theorem pe_int {i j pos} : PE X (.Constant (.int i) j pos) (tC (.int i)) := fun _ _ _ H _ I h => wpAny_Constant_int ⟨.int i, H, I.tok _, ⟨_, rfl⟩, h⟩
theorem pe_bl {b j pos} : PE X (.Constant (.bool b) j pos) (tC (.bl b)) := fun _ _ _ H _ I h => Constant_bool ⟨.bl b, H, I, rfl, h⟩
theorem pe_non {j pos} : PE X (.Constant .none j pos) (tC .non) := fun _ _ _ H _ I h => Constant_none ⟨.non, H, I, rfl, h⟩
theorem pe_str {x j pos} : PE X (.Constant (.str x) j pos) (tC (.str x)) := fun _ _ _ H _ I h => Calls.Constant_str ⟨.str x, H, I.tok _, ⟨_, rfl⟩, h⟩

/-- a global name of the def -/
def Gl (X : Cx) (x : Str) : Prop := X.env.kindOf x = some .globalImplicit
theorem ld_glob {E : Value → Shared → Prop} {pins : List (Addr × Obj)} {s : Shared} {σ : St} {H : Hp} {x : Str} {u : Value} {pos : Pos} {Q : Value → Shared → Prop} (I : Inv X pins σ H s) (hg : Gl X x) (hm : X.mg x = some u) (h : Q u s)
    (hd : (x == ("__debug__" : Str)) = false := by decide) : wpAny (model X.prog X.w) X.A (eval (.Name x pos) X.env) Q E s :=
  Calls.Name_function_global I.ok.kind hg (Calls.loadGlobal_global (by rw [I.ok.glob]; exact I.mod.glob.keeps I.bk) hm h) hd
theorem ld_blt {E : Value → Shared → Prop} {pins : List (Addr × Obj)} {s : Shared} {σ : St} {H : Hp} {x : Str} {u : Value} {pos : Pos} {Q : Value → Shared → Prop} (I : Inv X pins σ H s) (hg : Gl X x) (hm : X.mg x = none) (hv : bootBuiltins x = some u) (h : Q u s)
    (hn : x ≠ "__name__" := by decide) (hd : (x == ("__debug__" : Str)) = false := by decide) : wpAny (model X.prog X.w) X.A (eval (.Name x pos) X.env) Q E s := by
  obtain ⟨mb, h1, h2⟩ := I.mod.blt
  exact Calls.Name_function_global I.ok.kind hg (Calls.loadGlobal_builtin (by rw [I.ok.glob]; exact I.mod.glob.keeps I.bk) hm (by rw [I.ok.blt]; exact h1.keeps I.bk) ((h2 x hn).trans hv) h) hd
/-- a module's constant, a class, a function, as a value -/
theorem pe_glob {x : Str} {v : V} {u : Value} {pos : Pos} (hg : Gl X x) (hm : X.mg x = some u) (r : RelV v u) (hd : (x == ("__debug__" : Str)) = false := by decide) : PE X (.Name x pos) (tC v) :=
  fun _ _ _ H _ I h => ld_glob I hg hm ⟨v, H, I, r, h⟩ hd
theorem pe_bltn {x : Str} {v : V} {u : Value} {pos : Pos} (hg : Gl X x) (hm : X.mg x = none) (hv : bootBuiltins x = some u) (r : RelV v u) (hn : x ≠ "__name__" := by decide) (hd : (x == ("__debug__" : Str)) = false := by decide) : PE X (.Name x pos) (tC v) :=
  fun _ _ _ H _ I h => ld_blt I hg hm hv ⟨v, H, I, r, h⟩ hn hd

/-! ### arithmetic -/
variable {a b : Expr} {ta tb : TE} {pos : Pos}
/-! ### comparisons -/
def PC (X : Cx) (op : CmpOp) (a b : Expr) (t : TE) : Prop :=
  ∀ (pins : List (Addr × Obj)) (s : Shared) (σ : St) (H : Hp) (Q : VK), Inv X pins σ H s → t σ H Q →
    wpAny (model X.prog X.w) X.A (eval a X.env) (fun v s₁ => wpAny (model X.prog X.w) X.A (eval b X.env) (fun u s₂ => wpAny (model X.prog X.w) X.A (compareOp op v u) (EP X pins σ Q) X.xe s₂) X.xe s₁) X.xe s
/-- a comparison as a value, as a test -/
def tB (t : TE) : TT := fun σ H Q => t σ H fun x H1 => ∃ c, x = .bl c ∧ Q c H1
theorem pe_cmp {op : CmpOp} {t : TE} (h : PC X op a b t) (h1 : behindInMarks op b = false := by first | exact nobehind _ (by decide) (by decide) | rfl) : PE X (.Compare a [op] [b] pos) t := fun pins s σ H Q I hw => wpAny_Compare1 (h pins s σ H Q I hw) h1
/-- an expression whose value is a bool, as a test -/
theorem pt_val {e : Expr} {t : TE} (h : PE X e t) (he : ∀ whole, isTrue e X.env whole = (do let v ← whole; standAt e.pos; holding [v] (truthy v)) := by intro _; rfl) : PT X e (tB t) := by
  intro pins s σ H Q I hw
  refine isTrue_plain (thn (h pins s σ H _ I hw) fun v s1 ⟨x, H1, I1, r1, q1⟩ => ?_) (he _)
  obtain ⟨d, rfl, q⟩ := q1
  cases r1
  exact wpAny_truthy_bool ⟨H1, I1, q⟩

/-! ### and, or, not -/
variable {tA tB' : TT} {rest : List Expr}
def tOr (t u : TT) : TT := fun σ H Q => t σ H fun c H1 => if c = true then Q true H1 else u σ H1 Q
def tNot (t : TT) : TT := fun σ H Q => t σ H fun c H1 => Q (!c) H1
theorem pw_or1 (ha : PT X a tA) : PW X (.BoolOp .Or [a] pos) tA := by
  intro wh pins s σ H Q I h
  refine isTrue_or (thn (ha pins s σ H Q I h) fun c s1 e => ?_)
  cases c with
  | false => exact isTrue_or_nil e
  | true => exact e
theorem pw_or (ha : PT X a tA) (hb : PW X (.BoolOp .Or (b :: rest) pos) tB') : PW X (.BoolOp .Or (a :: b :: rest) pos) (tOr tA tB') := by
  intro wh pins s σ H Q I h
  refine isTrue_or (thn (ha pins s σ H _ I h) fun c s1 ⟨H1, I1, q1⟩ => ?_)
  cases c with
  | true => exact ⟨H1, I1, q1⟩
  | false => exact hb wh pins s1 σ H1 Q I1 q1
theorem pt_not (ha : PT X a tA) : PT X (.UnaryOp .Not a pos) (tNot tA) := by
  intro pins s σ H Q I h
  exact isTrue_not (ha pins s σ H (fun c H1 => Q (!c) H1) I h)
/-- .. as values (bools) -/
def tAndV (ta tb : TE) : TE := fun σ H Q => ta σ H fun x H1 => ∃ c, x = .bl c ∧ if c = true then tb σ H1 Q else Q (.bl false) H1
def tNotV (ta : TE) : TE := fun σ H Q => ta σ H fun x H1 => ∃ c, x = .bl c ∧ Q (.bl (!c)) H1
theorem pe_one {op} {t : TE} (h : PE X a t) : PE X (.BoolOp op [a] pos) t := fun pins s σ H Q I hw => BoolOp_one (h pins s σ H Q I hw)
theorem pe_and (ha : PE X a ta) (hb : PE X (.BoolOp .And (b :: rest) pos) tb) : PE X (.BoolOp .And (a :: b :: rest) pos) (tAndV ta tb) := by
  intro pins s σ H Q I h
  refine BoolOp_and (thn (ha pins s σ H _ I h) fun v s1 ⟨x, H1, I1, r1, q1⟩ => ?_)
  obtain ⟨c, rfl, q1⟩ := q1
  cases r1
  refine wpAny_truthy_bool ?_
  cases c with
  | true => exact hb pins s1 σ H1 Q I1 q1
  | false => exact ⟨.bl false, H1, I1, rfl, q1⟩
theorem pe_not (ha : PE X a ta) : PE X (.UnaryOp .Not a pos) (tNotV ta) := by
  intro pins s σ H Q I h
  refine UnaryOp_ (thn (ha pins s σ H _ I h) fun v s1 ⟨x, H1, I1, r1, q1⟩ => ?_)
  obtain ⟨c, rfl, q1⟩ := q1
  cases r1
  exact not_of (wpAny_truthy_bool ⟨.bl (!c), H1, I1, rfl, q1⟩)
end
end L2

namespace L2
open PySem PySem.Spec PyProof.Rows

/-! ### a list, a tuple that is read: tracked, frozen, or an object of the module -/
def SqL (K : PySem.W.Frag) (H : Hp) (a : Addr) (xs : List V) : Prop :=
  Rd H a (.lst xs) ∨
    ∃ (o : Obj) (its : Array Value) (n : Nat), K.lookup a = some o ∧ o.cls = .type "list" ∧ o.dict = none ∧ o.data = .seq its n ∧ its.size ≤ sizeLine ∧ Vals xs its.toList
def SqT (K : PySem.W.Frag) (H : Hp) (a : Addr) (xs : List V) : Prop :=
  Rd H a (.tup xs) ∨
    ∃ (o : Obj) (its : Array Value) (n : Nat), K.lookup a = some o ∧ o.cls = .type "tuple" ∧ o.data = .seq its n ∧ its.size ≤ sizeLine ∧ Vals xs its.toList
def absV : Value → Option V
  | .none => some .non
  | .bool b => some (.bl b)
  | .int i _ => some (.int i)
  | .str x _ => some (.str x)
  | .bytes b _ => some (.byt b)
  | .float b _ => some (.flt b)
  | .ref a => some (.ref a)
  | .type n => some (.ty n)
  | _ => none
theorem RelV.abs {x : V} {u : Value} (r : RelV x u) : absV u = some x := by
  cases x with
  | non => cases r; rfl
  | bl _ => cases r; rfl
  | int _ => obtain ⟨t, rfl⟩ := r; rfl
  | str _ => obtain ⟨t, rfl⟩ := r; rfl
  | byt _ => obtain ⟨t, rfl⟩ := r; rfl
  | flt _ => obtain ⟨t, rfl⟩ := r; rfl
  | ref _ => cases r; rfl
  | ty _ => cases r; rfl
theorem RelV.inj {x y : V} {u : Value} (r : RelV x u) (q : RelV y u) : x = y := Option.some.inj (r.abs.symm.trans q.abs)
theorem Vals.inj : ∀ {xs ys : List V} {us : List Value}, Vals xs us → Vals ys us → xs = ys
  | _, _, _, .nil, .nil => rfl
  | _, _, _, .cons r t, .cons r' t' => by rw [r.inj r', Vals.inj t t']
section
variable {X : Cx} {pins : List (Addr × Obj)} {σ : St} {H : Hp} {s : Shared} {a : Addr} {xs ys : List V}
theorem SqL.of {K : PySem.W.Frag} (h : H a = some (.lst xs)) : SqL K H a xs := .inl (.inl h)
theorem SqT.of {K : PySem.W.Frag} (h : H a = some (.tup xs)) : SqT K H a xs := .inl (.inl h)
theorem Inv.list (I : Inv X pins σ H s) (h : SqL X.K H a xs) : ∃ its : List Value, Vals xs its ∧ PlainL s.heap a its.toArray ∧ xs.length ≤ sizeLine := by
  rcases h with h | ⟨o, its, n, hk, hc, hd, hs, hz, r⟩
  · obtain ⟨z, its, n, r, e⟩ := h.ok I.hok
    exact ⟨its, r, ⟨_, n, e, rfl, rfl, rfl⟩, z⟩
  · refine ⟨its.toList, r, ⟨o, n, I.kIn a o hk, hc, hd, by simpa using hs⟩, ?_⟩
    have e := r.length
    simp only [Array.length_toList] at e
    omega
theorem Inv.tuple (I : Inv X pins σ H s) (h : SqT X.K H a xs) : ∃ its : List Value, Vals xs its ∧ IsTup s.heap a its.toArray ∧ xs.length ≤ sizeLine := by
  rcases h with h | ⟨o, its, n, hk, hc, hs, hz, r⟩
  · obtain ⟨z, its, r, p⟩ := h.ok I.hok
    exact ⟨its, r, p.tup, z⟩
  · refine ⟨its.toList, r, ⟨o, I.kIn a o hk, hc, n, by simpa using hs⟩, ?_⟩
    have e := r.length
    simp only [Array.length_toList] at e
    omega
theorem Inv.list_inj (I : Inv X pins σ H s) (h : SqL X.K H a xs) (h' : SqL X.K H a ys) : xs = ys := by
  obtain ⟨its, r, ⟨o, n, e, _, _, d⟩, _⟩ := I.list h
  obtain ⟨its', r', ⟨o', n', e', _, _, d'⟩, _⟩ := I.list h'
  rw [e] at e'; cases e'
  rw [d] at d'
  injection d' with d1 _
  have : its = its' := by simpa using congrArg Array.toList d1
  subst this
  exact r.inj r'
theorem Inv.tuple_inj (I : Inv X pins σ H s) (h : SqT X.K H a xs) (h' : SqT X.K H a ys) : xs = ys := by
  obtain ⟨its, r, ⟨o, e, _, n, d⟩, _⟩ := I.tuple h
  obtain ⟨its', r', ⟨o', e', _, n', d'⟩, _⟩ := I.tuple h'
  rw [e] at e'; cases e'
  rw [d] at d'
  injection d' with d1 _
  have : its = its' := by simpa using congrArg Array.toList d1
  subst this
  exact r.inj r'
end

/-! ### another wish about exceptions -/
abbrev Cx.wish (X : Cx) (E : Value → Shared → Prop) : Cx := { X with xe := E }
/-- no exception leaves -/
abbrev Cx.nox (X : Cx) : Cx := X.wish fun _ _ => False
theorem Cx.Ok.wish {X : Cx} (ok : X.Ok) (E : Value → Shared → Prop) : (X.wish E).Ok :=
  ⟨ok.mod, ok.kind, ok.glob, ok.blt, ok.above, ok.inj, ok.has, ok.cab, ok.hd, ok.frames, ok.stk, ok.exf, ok.bs, ok.bsz, ok.noex, ok.exfs, ok.funs, ok.frf⟩
theorem Cx.Ok.unwish {X : Cx} {E : Value → Shared → Prop} (ok : (X.wish E).Ok) : X.Ok :=
  ⟨ok.mod, ok.kind, ok.glob, ok.blt, ok.above, ok.inj, ok.has, ok.cab, ok.hd, ok.frames, ok.stk, ok.exf, ok.bs, ok.bsz, ok.noex, ok.exfs, ok.funs, ok.frf⟩
section
variable {X : Cx} {pins : List (Addr × Obj)} {σ : St} {H : Hp} {s : Shared} {E : Value → Shared → Prop}
theorem Inv.wish (I : Inv X pins σ H s) (E : Value → Shared → Prop) : Inv (X.wish E) pins σ H s := ⟨I.ok.wish E, I.os, I.bare, I.base, I.loc, I.cell, I.free, I.freeC, I.pin, I.hok, I.len⟩
theorem Inv.unwish (I : Inv (X.wish E) pins σ H s) : Inv X pins σ H s := ⟨I.ok.unwish, I.os, I.bare, I.base, I.loc, I.cell, I.free, I.freeC, I.pin, I.hok, I.len⟩
theorem SP.unwish {D : Ends} {f : Flow} {s' : Shared} (h : SP (X.wish E) pins D f s') : SP X pins D f s' := by
  cases f with
  | next => obtain ⟨σ', H', I, q⟩ := h; exact ⟨σ', H', I.unwish, q⟩
  | brk => obtain ⟨σ', H', I, q⟩ := h; exact ⟨σ', H', I.unwish, q⟩
  | cont => obtain ⟨σ', H', I, q⟩ := h; exact ⟨σ', H', I.unwish, q⟩
  | ret u => obtain ⟨v, σ', H', I, r, q⟩ := h; exact ⟨v, σ', H', I.unwish, r, q⟩
theorem PSs.nox {st : List Stmt} {t : TS} (h : PSs X.nox st t) : PSs X st t := fun pins s σ H D I hw =>
  wpAny_mono (h pins s σ H D (I.wish _) hw) (fun _ _ q => q.unwish) fun _ _ z => False.elim z
end

/-! ### blocks and small statements -/
section
variable {X : Cx} {st : Stmt} {rest : List Stmt} {t u : TS} {e : Expr} {te : TE} {pos : Pos}
def tNext : TS := fun D σ H => D.nx σ H
def tSeq (t u : TS) : TS := fun D σ H => t { D with nx := u D } σ H
theorem pss_nil : PSs X [] tNext := fun _ _ σ H _ I h => wpAny_execs_nil ⟨σ, H, I, h⟩
theorem pss_cons (h1 : PS X st t) (h2 : PSs X rest u) : PSs X (st :: rest) (tSeq t u) := by
  intro pins s σ H D I h
  refine wpAny_execs_cons (thn (h1 pins s σ H { D with nx := u D } I h) fun f s1 q => ?_)
  cases f with
  | next =>
    obtain ⟨σ', H', I', q⟩ := q
    exact h2 pins s1 σ' H' D I' q
  | ret v => exact q
  | brk => exact q
  | cont => exact q
theorem pss_one (h1 : PS X st t) : PSs X [st] t := by
  intro pins s σ H D I h
  refine wpAny_execs_cons (thn (h1 pins s σ H D I h) fun f s1 q => ?_)
  cases f with
  | next => exact wpAny_execs_nil q
  | ret v => exact q
  | brk => exact q
  | cont => exact q
/-- in a def's body nothing is shown -/
theorem Inv.quiet {pins : List (Addr × Obj)} {σ : St} {H : Hp} {s : Shared} (I : Inv X pins σ H s) : interactive X.env = false := by simp [interactive, I.ok.kind]
/-- an expression whose value is dropped -/
def tDrop (te : TE) : TS := fun D σ H => te σ H fun _ H1 => D.nx σ H1
theorem ps_expr (he : PE X e te) (hs : swapsWith e none pos.line X.env = pure false := by rfl) : PS X (.Expr e pos) (tDrop te) := by
  intro pins s σ H D I h
  exact wpAny_Expr_any (thn (he pins s σ H _ I h) fun v s1 ⟨x, H1, I1, r1, q1⟩ => ⟨σ, H1, I1, q1⟩) I.quiet hs
def tRet (te : TE) : TS := fun D σ H => te σ H D.rt
theorem ps_ret (he : PE X e te) : PS X (.Return (some e) pos) (tRet te) := by
  intro pins s σ H D I h
  exact wpAny_Return_some (thn (he pins s σ H _ I h) fun v s1 ⟨x, H1, I1, r1, q1⟩ => ⟨x, σ, H1, I1, r1, q1⟩)
def tIfS (c : TT) (t u : TS) : TS := fun D σ H => c σ H fun b H1 => if b = true then t D σ H1 else u D σ H1
theorem ps_if {c : Expr} {a b : List Stmt} {tc : TT} (hc : PT X c tc) (ha : PSs X a t) (hb : PSs X b u) : PS X (.If c a b pos) (tIfS tc t u) := by
  intro pins s σ H D I h
  refine wpAny_If (thn (hc pins s σ H _ I h) fun d s1 ⟨H1, I1, q1⟩ => ?_)
  cases d with
  | true => exact ha pins s1 σ H1 D I1 q1
  | false => exact hb pins s1 σ H1 D I1 q1
/-- code that the proof never comes to -/
def tNever : TS := fun _ _ _ => False
theorem pss_never {sts : List Stmt} : PSs X sts tNever := fun _ _ _ _ _ _ h => h.elim
end

/-! ### targets -/
abbrev TG := V → St → Hp → (St → Hp → Prop) → Prop
abbrev TGs := List V → St → Hp → (St → Hp → Prop) → Prop
def PG (X : Cx) (target : Expr) (t : TG) : Prop :=
  ∀ (pins : List (Addr × Obj)) (s : Shared) (σ : St) (H : Hp) (v : V) (u : Value) (Q : St → Hp → Prop), Inv X pins σ H s → RelV v u → t v σ H Q →
    wpAny (model X.prog X.w) X.A (assign target X.env u) (fun _ s' => ∃ σ' H', Inv X pins σ' H' s' ∧ Q σ' H') X.xe s
/-- several targets, one after another -/
def PGs (X : Cx) (ts : List Expr) (t : TGs) : Prop :=
  ∀ (pins : List (Addr × Obj)) (s : Shared) (σ : St) (H : Hp) (vs : List V) (us : List Value) (Q : St → Hp → Prop), Inv X pins σ H s → Vals vs us → t vs σ H Q →
    wpAny (model X.prog X.w) X.A (assignInOrder ((assignEach ts X.env).map (·.2)) us) (fun _ s' => ∃ σ' H', Inv X pins σ' H' s' ∧ Q σ' H') X.xe s
/-- o[i] = v, by values -/
abbrev TSet := V → V → V → Hp → (Hp → Prop) → Prop
def PSet (X : Cx) (t : TSet) : Prop :=
  ∀ (pins : List (Addr × Obj)) (s : Shared) (σ : St) (H : Hp) (o i v : V) (ov iv u : Value) (Q : Hp → Prop), Inv X pins σ H s → RelV o ov → RelV i iv → RelV v u → t o i v H Q →
    wpAny (model X.prog X.w) X.A (setItem ov iv u) (fun _ s' => ∃ H', Inv X pins σ H' s' ∧ Q H') X.xe s
section
variable {X : Cx} {pos : Pos}
def gName (i : Nat) : TG := fun v σ H Q => Q (σ.set i (some v)) H
theorem pg_name {i : Nat} {x : Str} (hN : X.N.Nodup) (hi : X.N[i]? = some x) (hx : Loc X.env.scope x) (hf : X.fn x = true ∨ X.env.scope.names.lookup x = some .local := by first | exact .inl rfl | exact .inr rfl | assumption) : PG X (.Name x pos) (gName i) := by
  intro pins s σ H v u Q I r h
  exact wpAny_assign_Name (store_ok I hN hi hx r (fun s' I' => ⟨_, H, I', h⟩) hf)
def gNil : TGs := fun vs σ H Q => vs = [] ∧ Q σ H
def gCons (t : TG) (u : TGs) : TGs := fun vs σ H Q => ∃ v r, vs = v :: r ∧ t v σ H fun σ' H' => u r σ' H' Q
theorem pgs_nil : PGs X [] gNil := by
  intro pins s σ H vs us Q I r h
  obtain ⟨e, h⟩ := h
  subst e
  cases r
  exact assignInOrder_nil ⟨σ, H, I, h⟩
theorem pgs_cons {e : Expr} {es : List Expr} {t : TG} {u : TGs} (h1 : PG X e t) (h2 : PGs X es u)
    (hs : (assignEach (e :: es) X.env).map (·.2) = assign e X.env :: (assignEach es X.env).map (·.2) := by rfl) : PGs X (e :: es) (gCons t u) := by
  intro pins s σ H vs us Q I r h
  obtain ⟨v, vr, e1, h⟩ := h
  subst e1
  cases r with
  | cons r rr =>
    rw [hs]
    refine assignInOrder_cons (thn (h1 pins s σ H _ _ _ I r h) fun _ s1 ⟨σ1, H1, I1, q1⟩ => ?_)
    exact h2 pins s1 σ1 H1 _ _ Q I1 rr q1
/-- (a, b, ..) = a tuple of that length -/
def gTup (K : PySem.W.Frag) (n : Nat) (t : TGs) : TG := fun v σ H Q => ∃ a xs, v = .ref a ∧ SqT K H a xs ∧ xs.length = n ∧ t xs σ H Q
theorem pg_tup {es : List Expr} {k : Nat} {t : TGs} {n : Nat} (hc : X.calm = true) (h : PGs X es t)
    (hn : (assignEach es X.env).length = n := by rfl) (hst : (assignEach es X.env).findIdx? (·.1) = none := by rfl) : PG X (.Tuple es k pos) (gTup X.K n t) := by
  intro pins s σ H v u Q I r hw
  obtain ⟨a, xs, e1, hq, hl, hw⟩ := hw
  subst e1
  cases r
  obtain ⟨its, rv, ht, hz⟩ := I.tuple hq
  refine assign_Tuple_tuple (I.ok.hd hc) ht (by simp [hn, ← hl, rv.length]) hst fun h' hx => ?_
  have I1 : Inv X pins σ H { s with heap := h' } := I.kept (t' := s.toks) fun b o e => hx b o (Nat.ne_of_lt (Heap.lt_size e)) e
  exact h pins _ σ H xs _ Q I1 (by simpa using rv) hw
/-- o[i] = .. -/
def gSub (to ti : TE) (t : TSet) : TG := fun v σ H Q => to σ H fun o H1 => ti σ H1 fun i H2 => t o i v H2 fun H3 => Q σ H3
theorem pg_sub {o i : Expr} {to ti : TE} {t : TSet} (ho : PE X o to) (hi : PE X i ti) (hs : PSet X t)
    (ha : ∀ v, assign (.Subscript o i pos) X.env v = (do
      let ov ← holding [v] (eval o X.env)
      let iv ← holding [v, ov] (eval i X.env)
      standAt pos
      holding [v, ov, iv] (setItem ov iv v)
      release [v, ov, iv] []) := by intro _; rfl) : PG X (.Subscript o i pos) (gSub to ti t) := by
  intro pins s σ H v u Q I r h
  rw [ha]
  refine wpAny_bind (wpAny_holding (thn (ho pins s σ H _ I h) fun ov s1 ⟨x, H1, I1, r1, q1⟩ => ?_))
  refine wpAny_bind (wpAny_holding (thn (hi pins s1 σ H1 _ I1 q1) fun iv s2 ⟨y, H2, I2, r2, q2⟩ => ?_))
  refine wpAny_bind (wpAny_standAt (wpAny_bind (wpAny_holding (thn (hs pins s2 σ H2 x y v ov iv u _ I2 r1 r2 r q2) fun _ s3 ⟨H3, I3, q3⟩ => ?_))))
  exact wpAny_release ⟨σ, H3, I3, q3⟩
/-- target = value -/
def tAsg (te : TE) (g : TG) : TS := fun D σ H => te σ H fun x H1 => g x σ H1 D.nx
theorem ps_asg {tg e : Expr} {te : TE} {g : TG} (he : PE X e te) (hg : PG X tg g) (hs : swapsWithSole [tg] e pos.line X.env = pure false := by rfl) (hw : swappedStores [tg] e X.env = pure none := by rfl)
    (h1 : (assignEach [tg] X.env).map (·.2) = [assign tg X.env] := by rfl) : PS X (.Assign [tg] e pos) (tAsg te g) := by
  intro pins s σ H D I h
  refine wpAny_Assign_stores (thn (he pins s σ H _ I h) fun v s1 ⟨x, H1, I1, r1, q1⟩ => ?_) hs hw
  rw [h1]
  exact thn (hg pins s1 σ H1 x v _ I1 r1 q1) fun _ s2 q => q
/-- name = value -/
theorem ps_set {i : Nat} {x : Str} {e : Expr} {te : TE} {pos' : Pos} (hN : X.N.Nodup) (hi : X.N[i]? = some x) (hx : Loc X.env.scope x) (he : PE X e te) (hs : swapsWith e (some (.Name x pos')) pos.line X.env = pure false := by rfl) (hf : X.fn x = true ∨ X.env.scope.names.lookup x = some .local := by first | exact .inl rfl | exact .inr rfl | assumption) :
    PS X (.Assign [.Name x pos'] e pos) (tAsg te (gName i)) := by
  intro pins s σ H D I h
  refine wpAny_Assign_Name (thn (he pins s σ H _ I h) fun v s1 ⟨y, H1, I1, r1, q1⟩ => ?_) hs
  exact store_ok I1 hN hi hx r1 (fun s2 I2 => ⟨_, H1, I2, q1⟩) hf
end

/-! ### while -/
section
variable {X : Cx} {pos : Pos}
/-- the invariant W with its measure -/
def tWhile (c : TT) (tb : TS) : TS := fun D σ H => ∃ W : Nat → St → Hp → Prop, (∃ m, W m σ H) ∧ ∀ m σ H, W m σ H →
  c σ H fun b H1 => if b = true then ∃ N : St → Hp → Prop, (∀ σ' H', N σ' H' → ∃ m', m' < m ∧ W m' σ' H') ∧ tb { D with nx := N, ct := N, bk := D.nx } σ H1 else D.nx σ H1
theorem ps_while {c : Expr} {body : List Stmt} {tc : TT} {tb : TS} (hp : PassesOwn (model X.prog X.w) X.A X.env X.xe) (hc : PT X c tc) (hb : PSs X body tb) : PS X (.While c body [] pos) (tWhile tc tb) := by
  intro pins s σ H D I h
  obtain ⟨W, ⟨m0, w0⟩, turn⟩ := h
  refine wpAny_While (codeAny_whileLoop (fun n s' => ∃ σ' H', Inv X pins σ' H' s' ∧ W n σ' H') ?_ m0 ⟨σ, H, I, w0⟩)
  rintro n s1 ⟨σ1, H1, I1, w1⟩
  refine wpAny_passesOwn hp (thn (hc pins s1 σ1 H1 _ I1 (turn n σ1 H1 w1)) fun b s2 ⟨H2, I2, q2⟩ => ?_)
  cases b with
  | true =>
    obtain ⟨N, hN, q2⟩ := q2
    rw [if_pos rfl]
    refine wpAny_passesOwn hp (thn (hb pins s2 σ1 H2 _ I2 q2) fun f s3 q3 => ?_)
    cases f with
    | next =>
      obtain ⟨σ3, H3, I3, n3⟩ := q3
      obtain ⟨m', hm, w3⟩ := hN σ3 H3 n3
      exact ⟨m', hm, σ3, H3, I3, w3⟩
    | cont =>
      obtain ⟨σ3, H3, I3, n3⟩ := q3
      obtain ⟨m', hm, w3⟩ := hN σ3 H3 n3
      exact ⟨m', hm, σ3, H3, I3, w3⟩
    | brk => exact q3
    | ret v => exact q3
  | false =>
    rw [if_neg Bool.false_ne_true]
    exact wpAny_execs_nil ⟨σ1, H2, I2, q2⟩
end

/-! ### what a loop or a comprehension walks -/
/-- at turn i: it yields x (the heap may grow), or it stops -/
structure It where
  go : Nat → Hp → Prop
  yld : Nat → Hp → V → Hp → Prop
  stop : Nat → Hp → Prop
/-- the iterator's own objects may turn: they are not the frame's, not pinned, younger than the entry (or a comprehension's own) -/
def FpOk (X : Cx) (pins : List (Addr × Obj)) (H : Hp) (b : Addr) : Prop :=
  H b = none ∧ b ≠ X.env.locals ∧ b ∉ X.fs ∧ (b ∈ X.ex ∨ X.s₀.heap.objs.size ≤ b) ∧ (∀ x c, X.env.cells.lookup x = some c → c ≠ b) ∧ ∀ p ∈ X.pn ++ pins, p.1 ≠ b
theorem Inv.fpOk {X : Cx} {pins : List (Addr × Obj)} {σ : St} {H H' : Hp} {s : Shared} {b : Addr} (I : Inv X pins σ H s) (hb : s.heap.objs.size ≤ b) (hn : H' b = none) : FpOk X pins H' b := by
  refine ⟨hn, Nat.ne_of_gt (Nat.lt_of_lt_of_le I.lt hb), I.nofs hb, .inr (Nat.le_trans I.sz hb), fun x c e z => ?_, fun p hp z => ?_⟩
  · obtain ⟨v, q⟩ := I.cell x c e
    exact absurd (Nat.lt_of_lt_of_le q.lt (by rw [z]; exact hb)) (Nat.lt_irrefl _)
  · exact absurd (Nat.lt_of_lt_of_le (Heap.lt_size (I.pin p hp).1) (by rw [z]; exact hb)) (Nat.lt_irrefl _)
structure Turn (P : Program) (w : World) (K : PySem.W.Frag) (tg : Expr) (J : It) (fp : List Addr) (it : Addr) (tn : Nat → Heap → Prop) : Prop where
  mem : it ∈ fp
  obj : ∀ i h, tn i h → ∀ b ∈ fp, ∃ o, h.get? b = some o ∧ ∀ v, o.data ≠ .cell v
  keep : ∀ i h h', tn i h → (∀ b ∈ fp, ∀ o, h.get? b = some o → h'.get? b = some o) → tn i h'
  item : ∀ (X : Cx), X.prog = P → X.w = w → X.K = K → X.calm = true → ∀ (i : Nat) (pins : List (Addr × Obj)) (s : Shared) (σ : St) (H : Hp) (E : Value → Shared → Prop), Inv X pins σ H s → (∀ b ∈ fp, FpOk X pins H b) → tn i s.heap → J.go i H →
    wpAny (model P w) X.A (pyNext (.ref it)) (fun r s1 => ∃ u, r = some u ∧
      wpAny (model P w) X.A (letOwnedTupleGo tg (.ref it) u) (fun _ s2 => ∃ x H', Inv X pins σ H' s2 ∧ RelV x u ∧ J.yld i H x H' ∧ tn (i + 1) s2.heap ∧ ∀ b ∈ fp, H' b = none) E s1) E s
  done : ∀ (X : Cx), X.prog = P → X.w = w → X.K = K → X.calm = true → ∀ (i : Nat) (pins : List (Addr × Obj)) (s : Shared) (σ : St) (H : Hp) (E : Value → Shared → Prop), Inv X pins σ H s → (∀ b ∈ fp, FpOk X pins H b) → tn i s.heap → J.stop i H →
    wpAny (model P w) X.A (pyNext (.ref it)) (fun r s1 => r = none ∧ Inv X pins σ H s1) E s
  self : ∀ (A : Around) (i : Nat) (s : Shared) (Q : Value → Shared → Prop) (E : Value → Shared → Prop), tn i s.heap → Q (.ref it) s → wpAny (model P w) A (pyIter (.ref it)) Q E s
abbrev TI := St → Hp → (It → Hp → Prop) → Prop
/-- an iterator has come -/
def PIE (X : Cx) (pins : List (Addr × Obj)) (σ : St) (tg : Expr) (R : It → Hp → Prop) (itv : Value) (s2 : Shared) : Prop :=
  ∃ (it : Addr) (fp : List Addr) (tn : Nat → Heap → Prop) (J : It) (H' : Hp), itv = .ref it ∧ Inv X pins σ H' s2 ∧ Turn X.prog X.w X.K tg J fp it tn ∧ tn 0 s2.heap ∧ (∀ b ∈ fp, FpOk X pins H' b) ∧ R J H'
def PI (X : Cx) (tg iter : Expr) (wi : TI) : Prop :=
  ∀ (pins : List (Addr × Obj)) (s : Shared) (σ : St) (H : Hp) (R : It → Hp → Prop), Inv X pins σ H s → wi σ H R →
    wpAny (model X.prog X.w) X.A (eval iter X.env) (fun v s1 => wpAny (model X.prog X.w) X.A (pyIter v) (PIE X pins σ tg R) X.xe s1) X.xe s

/-- the step ahead of the store is nothing for an iterator that keeps no tuple -/
theorem go_of {M : Model} {A : Around} {E : Value → Shared → Prop} {s : Shared} {tg : Expr} {it : Addr} {u : Value} {o : Obj} {n : String} {vs : Array Value} {Q : Unit → Shared → Prop} (ho : s.heap.get? it = some o) (hc : o.cls = .type n) (hd : o.data = .fields vs)
    (hn : ["enumerate", "zip", "dict_itemiterator", "dict_reverseitemiterator", "odict_iterator", "itertools.zip_longest", "itertools.pairwise"].contains n = false) (hQ : Q () s) : wpAny M A (letOwnedTupleGo tg (.ref it) u) Q E s := by
  unfold letOwnedTupleGo
  cases tg <;> first
    | exact wpAny_pure hQ
    | (cases u <;> first
        | exact wpAny_pure hQ
        | (refine wpAny_bind (wpAny_load ho ?_)
           rw [hc, hd]
           show wpAny M A (if (["enumerate", "zip", "dict_itemiterator", "dict_reverseitemiterator", "odict_iterator", "itertools.zip_longest", "itertools.pairwise"].contains n && vs[0]? == some (rawInt _)) = true then _ else _) Q E s
           rw [if_neg (by intro h; rw [hn, Bool.false_and] at h; cases h)]
           exact wpAny_pure hQ))

/-- the list at a, as it stands at each turn (a loop may append to it) -/
def Itl (K : PySem.W.Frag) (a : Addr) : It :=
  ⟨fun i H => ∃ xs x, SqL K H a xs ∧ xs[i]? = some x, fun i H x H' => H' = H ∧ ∀ xs, SqL K H a xs → xs[i]? = some x, fun i H => ∃ xs, SqL K H a xs ∧ xs.length ≤ i⟩
def Itt (K : PySem.W.Frag) (a : Addr) : It :=
  ⟨fun i H => ∃ xs x, SqT K H a xs ∧ xs[i]? = some x, fun i H x H' => H' = H ∧ ∀ xs, SqT K H a xs → xs[i]? = some x, fun i H => ∃ xs, SqT K H a xs ∧ xs.length ≤ i⟩
/-- lo, lo + 1, .. (n of them) -/
def Itr (lo : Int) (n : Nat) : It := ⟨fun i _ => i < n, fun i H x H' => H' = H ∧ x = .int (lo + i), fun i _ => n ≤ i⟩
theorem turn_list {P : Program} {w : World} {K : PySem.W.Frag} {tg : Expr} (a it : Addr) : Turn P w K tg (Itl K a) [it] it (fun i h => h.IsListIter it a i) where
  mem := by simp
  obj := fun i h st b hb => by
    have e : b = it := by simpa using hb
    subst e
    obtain ⟨o, e, c, d⟩ := st
    exact ⟨o, e, fun v z => by rw [d] at z; cases z⟩
  keep := fun i h h' st k => st.at fun o e => k it (by simp) o e
  item := by
    intro X hP hw hK hc i pins s σ H E I hf st hg
    subst hP hw hK
    obtain ⟨xs, x, hq, hx⟩ := hg
    obtain ⟨its, rv, p, hz⟩ := I.list hq
    obtain ⟨u, hu, ru⟩ := rv.get hx
    obtain ⟨f0, f1, f2, f3, f4, f5⟩ := hf it (by simp)
    refine wpAny_pyNext_list_item st p.isList (x := u) (by simpa using hu) fun h' st' sb => ?_
    have I1 : Inv X pins σ H { s with heap := h' } := I.turned (t' := s.toks) (fun b o hb e => (sb.2 b hb).trans e) f0 f1 f3 f4 f5
    obtain ⟨o, e, c, d⟩ := id st'
    exact ⟨u, rfl, go_of (s := { s with heap := h' }) e c d (by decide) ⟨x, H, I1, ru, ⟨rfl, fun ys hy => by rw [I.list_inj hy hq]; exact hx⟩, st', fun b hb => (hf b hb).1⟩⟩
  done := by
    intro X hP hw hK hc i pins s σ H E I hf st hg
    subst hP hw hK
    obtain ⟨xs, hq, hx⟩ := hg
    obtain ⟨its, rv, p, hz⟩ := I.list hq
    obtain ⟨f0, f1, f2, f3, f4, f5⟩ := hf it (by simp)
    have hl := rv.length
    exact wpAny_pyNext_list_end (I.ok.hd hc) st p.isList (by simp; omega) fun h' eb => ⟨rfl, I.turned (t' := s.toks) (fun b o hb e => eb b o hb e) f0 f1 f3 f4 f5⟩
  self := fun _ _ _ _ _ st h => wpAny_pyIter_listiter st h
theorem turn_tuple {P : Program} {w : World} {K : PySem.W.Frag} {tg : Expr} (a it : Addr) : Turn P w K tg (Itt K a) [it] it (fun i h => h.IsTupleIter it a i) where
  mem := by simp
  obj := fun i h st b hb => by
    have e : b = it := by simpa using hb
    subst e
    obtain ⟨o, e, c, d⟩ := st
    exact ⟨o, e, fun v z => by rw [d] at z; cases z⟩
  keep := fun i h h' st k => st.at fun o e => k it (by simp) o e
  item := by
    intro X hP hw hK hc i pins s σ H E I hf st hg
    subst hP hw hK
    obtain ⟨xs, x, hq, hx⟩ := hg
    obtain ⟨its, rv, p, hz⟩ := I.tuple hq
    obtain ⟨u, hu, ru⟩ := rv.get hx
    obtain ⟨f0, f1, f2, f3, f4, f5⟩ := hf it (by simp)
    refine wpAny_pyNext_tuple_item st (show s.heap.IsTuple a its.toArray from p) (x := u) (by simpa using hu) fun h' st' sb => ?_
    have I1 : Inv X pins σ H { s with heap := h' } := I.turned (t' := s.toks) (fun b o hb e => (sb.2 b hb).trans e) f0 f1 f3 f4 f5
    obtain ⟨o, e, c, d⟩ := id st'
    exact ⟨u, rfl, go_of (s := { s with heap := h' }) e c d (by decide) ⟨x, H, I1, ru, ⟨rfl, fun ys hy => by rw [I.tuple_inj hy hq]; exact hx⟩, st', fun b hb => (hf b hb).1⟩⟩
  done := by
    intro X hP hw hK hc i pins s σ H E I hf st hg
    subst hP hw hK
    obtain ⟨xs, hq, hx⟩ := hg
    obtain ⟨its, rv, p, hz⟩ := I.tuple hq
    obtain ⟨f0, f1, f2, f3, f4, f5⟩ := hf it (by simp)
    have hl := rv.length
    exact wpAny_pyNext_tuple_end (I.ok.hd hc) st (show s.heap.IsTuple a its.toArray from p) (by simp; omega) fun h' eb => ⟨rfl, I.turned (t' := s.toks) (fun b o hb e => eb b o hb e) f0 f1 f3 f4 f5⟩
  self := fun _ _ _ _ _ st h => wpAny_pyIter_tupleiter st h
theorem turn_range {P : Program} {w : World} {K : PySem.W.Frag} {tg : Expr} (it : Addr) (lo : Int) (n : Nat) : Turn P w K tg (Itr lo n) [it] it (fun i h => IsRangeIter h it (lo + (i : Nat) * 1) ((n : Int) - (i : Nat)) 1) where
  mem := by simp
  obj := fun i h st b hb => by
    have e : b = it := by simpa using hb
    subst e
    exact ⟨_, st, fun v z => by
      have z' : Data.fields _ = Data.cell v := z
      cases z'⟩
  keep := fun i h h' st k => k it (by simp) _ st
  item := by
    intro X hP hw hK hc i pins s σ H E I hf st hg
    subst hP hw hK
    obtain ⟨f0, f1, f2, f3, f4, f5⟩ := hf it (by simp)
    have W := Walks.range (prog := X.prog) (w := X.w) (I.ok.hd hc) it lo 1 n
    refine W.item i s _ _ hg st fun v h' tk hv st' kk => ?_
    obtain ⟨t, rfl⟩ := hv
    have I1 : Inv X pins σ H { s with heap := h', toks := tk } := I.turned (fun b o hb e => kk b o (by simpa using hb) e) f0 f1 f3 f4 f5
    refine ⟨_, rfl, go_of (s := { s with heap := h', toks := tk }) (n := "range_iterator") st' rfl rfl (by decide) ⟨.int (lo + i), H, I1, ⟨t, ?_⟩, ⟨rfl, rfl⟩, st', fun b hb => (hf b hb).1⟩⟩
    rw [Int.mul_one]
  done := by
    intro X hP hw hK hc i pins s σ H E I hf st hg
    subst hP hw hK
    obtain ⟨f0, f1, f2, f3, f4, f5⟩ := hf it (by simp)
    exact wpAny_pyNext_range_end (I.ok.hd hc) st (by have : n ≤ i := hg; omega) fun h' eb => ⟨rfl, I.turned (t' := s.toks) (fun b o hb e => eb b o hb e) f0 f1 f3 f4 f5⟩
  self := fun _ _ _ _ _ st h => wpAny_pyIter_rangeiter st h
end L2

namespace L2
open PySem PySem.Spec PyProof.Rows
section
variable {X : Cx} {tg : Expr}
def iList (K : PySem.W.Frag) (tl : TE) : TI := fun σ H R => tl σ H fun x H1 => ∃ a, x = .ref a ∧ (∃ xs, SqL K H1 a xs) ∧ R (Itl K a) H1
def iTup (K : PySem.W.Frag) (tl : TE) : TI := fun σ H R => tl σ H fun x H1 => ∃ a, x = .ref a ∧ (∃ xs, SqT K H1 a xs) ∧ R (Itt K a) H1
theorem pi_list {l : Expr} {tl : TE} (hl : PE X l tl) : PI X tg l (iList X.K tl) := by
  intro pins s σ H R I h
  refine thn (hl pins s σ H _ I h) fun v s1 ⟨x, H1, I1, r1, q1⟩ => ?_
  obtain ⟨a, e, ⟨xs, hq⟩, q⟩ := q1
  subst e
  cases r1
  obtain ⟨its, rv, p, hz⟩ := I1.list hq
  refine wpAny_pyIter_list p.isList ?_
  refine ⟨s1.heap.objs.size, [s1.heap.objs.size], _, _, H1, rfl, I1.kept (t' := s1.toks) fun b o e => Heap.get?_push_of_some _ e, turn_list a _, ⟨_, Heap.get?_push_size _ rfl, rfl, rfl⟩, fun b hb => ?_, q⟩
  have e : b = s1.heap.objs.size := by simpa using hb
  subst e
  exact I1.fpOk (Nat.le_refl _) (I1.hok.fresh (Nat.le_refl _))
theorem pi_tup {l : Expr} {tl : TE} (hl : PE X l tl) : PI X tg l (iTup X.K tl) := by
  intro pins s σ H R I h
  refine thn (hl pins s σ H _ I h) fun v s1 ⟨x, H1, I1, r1, q1⟩ => ?_
  obtain ⟨a, e, ⟨xs, hq⟩, q⟩ := q1
  subst e
  cases r1
  obtain ⟨its, rv, p, hz⟩ := I1.tuple hq
  refine wpAny_pyIter_tuple (show s1.heap.IsTuple a its.toArray from p) ?_
  refine ⟨s1.heap.objs.size, [s1.heap.objs.size], _, _, H1, rfl, I1.kept (t' := s1.toks) fun b o e => Heap.get?_push_of_some _ e, turn_tuple a _, ⟨_, Heap.get?_push_size _ rfl, rfl, rfl⟩, fun b hb => ?_, q⟩
  have e : b = s1.heap.objs.size := by simpa using hb
  subst e
  exact I1.fpOk (Nat.le_refl _) (I1.hok.fresh (Nat.le_refl _))
/-- a range object just made, walked -/
theorem range_it {pins : List (Addr × Obj)} {σ : St} {H : Hp} {s : Shared} {R : It → Hp → Prop} {E : Value → Shared → Prop} {lo hi : Int} {t u v : Tok} {tk : Nat} (I : Inv X pins σ H s) (h1 : -(2 ^ 62) ≤ lo) (h2 : lo < 2 ^ 62) (h3 : -(2 ^ 62) ≤ hi) (h4 : hi < 2 ^ 62)
    (q : R (Itr lo (hi - lo).toNat) H) : wpAny (model X.prog X.w) X.A (pyIter (.ref s.heap.objs.size)) (PIE X pins σ tg R) E { s with heap := s.heap.push { cls := .type "range", data := .fields #[.int lo t, .int hi u, .int 1 v] }, toks := tk } := by
  refine wpAny_pyIter_range (IsRange.new ..) (small_one h1 h2 h3 h4) ?_
  have I1 : Inv X pins σ H { s with heap := s.heap.push { cls := .type "range", data := .fields #[.int lo t, .int hi u, .int 1 v] }, toks := tk } := I.kept fun b o e => Heap.get?_push_of_some _ e
  refine ⟨(s.heap.push { cls := .type "range", data := .fields #[.int lo t, .int hi u, .int 1 v] }).objs.size, [(s.heap.push { cls := .type "range", data := .fields #[.int lo t, .int hi u, .int 1 v] }).objs.size], _, _, H, rfl,
    I1.kept (t' := tk) fun b o e => Heap.get?_push_of_some _ e, turn_range _ lo (hi - lo).toNat, ?_, fun b hb => ?_, q⟩
  · have e1 : lo + ((0 : Nat) : Int) * 1 = lo := by simp
    have e2 : (((hi - lo).toNat : Nat) : Int) - ((0 : Nat) : Int) = Builtin.Range.rangeSize lo hi 1 := by rw [rangeSize_one]; split <;> omega
    show IsRangeIter _ _ (lo + ((0 : Nat) : Int) * 1) ((((hi - lo).toNat : Nat) : Int) - ((0 : Nat) : Int)) 1
    rw [e1, e2]
    exact Heap.get?_push_size _ rfl
  · have e : b = (s.heap.push { cls := .type "range", data := .fields #[.int lo t, .int hi u, .int 1 v] }).objs.size := by simpa using hb
    subst e
    exact I1.fpOk (Nat.le_refl _) (I1.hok.fresh (Nat.le_refl _))
def iRng1 (ta : TA) : TI := fun σ H R => ta σ H fun vs H1 => ∃ j : Int, vs = [.int j] ∧ -(2 ^ 62) ≤ j ∧ j < 2 ^ 62 ∧ R (Itr 0 j.toNat) H1
def iRng2 (ta : TA) : TI := fun σ H R => ta σ H fun vs H1 => ∃ i j : Int, vs = [.int i, .int j] ∧ (-(2 ^ 62) ≤ i ∧ i < 2 ^ 62 ∧ -(2 ^ 62) ≤ j ∧ j < 2 ^ 62) ∧ R (Itr i (j - i).toNat) H1
theorem pi_range1 {a : Expr} {ta : TA} {p pos : Pos} (hg : Gl X "range") (hm : X.mg "range" = none) (ha : PA X [a] ta) (hs : starEach [a] X.env = [(false, eval a X.env)] := by rfl) : PI X tg (.Call (.Name "range" p) [a] [] pos) (iRng1 ta) := by
  intro pins s σ H R I h
  refine Call_ (ld_blt I hg hm boot_range (PyProof.Rows.callWith_type1 (thn (ha pos pins s σ H _ I h) fun us s1 ⟨vs, H1, I1, r1, q1⟩ => ?_) hs rfl))
  obtain ⟨j, e, q1, q2, q⟩ := q1
  subst e
  cases r1 with
  | cons r rr =>
    cases rr
    obtain ⟨t, rfl⟩ := r
    exact call_range_1 (range_it I1 (by omega) (by omega) q1 q2 (by simpa using q))
theorem pi_range2 {a b : Expr} {ta : TA} {p pos : Pos} (hg : Gl X "range") (hm : X.mg "range" = none) (ha : PA X [a, b] ta) (hs : starEach [a, b] X.env = [(false, eval a X.env), (false, eval b X.env)] := by rfl) (hs2 : starEach [b] X.env = [(false, eval b X.env)] := by rfl) :
    PI X tg (.Call (.Name "range" p) [a, b] [] pos) (iRng2 ta) := by
  intro pins s σ H R I h
  refine Call_ (ld_blt I hg hm boot_range (PyProof.Rows.callWith_type1 (thn (ha pos pins s σ H _ I h) fun us s1 ⟨vs, H1, I1, r1, q1⟩ => ?_) (by rw [hs, hs2]) (by rw [hs2]; rfl)))
  obtain ⟨i, j, e, ⟨q1, q2, q3, q4⟩, q⟩ := q1
  subst e
  cases r1 with
  | cons r rr =>
    cases rr with
    | cons r' rr =>
      cases rr
      obtain ⟨t, rfl⟩ := r
      obtain ⟨t', rfl⟩ := r'
      exact call_range_2 (range_it I1 q1 q2 q3 q4 q)

/-! ### for -/
/-- W: the invariant by the turn and a measure; N: what the body is to reach -/
def tFor (wi : TI) (g : TG) (tb : TS) : TS := fun D σ H => wi σ H fun J H1 => ∃ W : Nat → Nat → St → Hp → Prop, (∃ m, W 0 m σ H1) ∧ ∀ i m σ H, W i m σ H →
  (J.stop i H ∧ D.nx σ H) ∨ (J.go i H ∧ ∃ N : St → Hp → Prop, (∀ σ' H', N σ' H' → ∃ m', m' < m ∧ W (i + 1) m' σ' H') ∧ ∀ x H', J.yld i H x H' → g x σ H' fun σ2 H2 => tb { D with nx := N, ct := N, bk := D.nx } σ2 H2)
/-- the records at fp as they stand -/
def pinsAt (fp : List Addr) (h : Heap) : List (Addr × Obj) := fp.filterMap fun b => (h.get? b).map fun o => (b, o)
theorem mem_pinsAt {fp : List Addr} {h : Heap} {b : Addr} {o : Obj} (hb : b ∈ fp) (e : h.get? b = some o) : (b, o) ∈ pinsAt fp h := List.mem_filterMap.mpr ⟨b, hb, by rw [e]; rfl⟩
theorem of_pinsAt {fp : List Addr} {h : Heap} {p : Addr × Obj} (hp : p ∈ pinsAt fp h) : p.1 ∈ fp ∧ h.get? p.1 = some p.2 := by
  obtain ⟨b, hb, e⟩ := List.mem_filterMap.mp hp
  cases q : h.get? b with
  | none => rw [q] at e; cases e
  | some o =>
    rw [q] at e
    have e' : (b, o) = p := Option.some.inj e
    subst e'
    exact ⟨hb, q⟩
theorem Inv.pinned {pins : List (Addr × Obj)} {σ : St} {H : Hp} {s : Shared} {fp : List Addr} (I : Inv X pins σ H s) (hf : ∀ b ∈ fp, FpOk X pins H b) (ho : ∀ b ∈ fp, ∃ o, s.heap.get? b = some o ∧ ∀ v, o.data ≠ .cell v) : Inv X (pins ++ pinsAt fp s.heap) σ H s :=
  I.pins_of fun p hp => (List.mem_append.mp hp).elim (fun z => I.pin p (List.mem_append_right _ z)) fun z => by
    obtain ⟨hb, e⟩ := of_pinsAt z
    obtain ⟨f0, f1, f2, _⟩ := hf p.1 hb
    obtain ⟨o, e', d⟩ := ho p.1 hb
    rw [e] at e'; cases e'
    exact ⟨e, f0, f1, f2, d⟩
theorem Inv.unpinned {pins pl : List (Addr × Obj)} {σ : St} {H : Hp} {s : Shared} (I : Inv X (pins ++ pl) σ H s) : Inv X pins σ H s := I.pins_of fun p hp => I.pin p (List.mem_append_right _ (List.mem_append_left _ hp))
theorem ps_for {iter : Expr} {body : List Stmt} {wi : TI} {g : TG} {tb : TS} {pos : Pos} (hp : PassesOwn (model X.prog X.w) X.A X.env X.xe) (hc : X.calm = true) (hi : PI X tg iter wi) (hg : PG X tg g) (hb : PSs X body tb)
    (hs : ∀ x, foldedSetIterable iter X.env x = pure x := by intro _; rfl) : PS X (.For tg iter body [] pos) (tFor wi g tb) := by
  intro pins s σ H D I h
  refine wpAny_For (thn (hi pins s σ H _ I h) fun v s1 h1 => thn h1 fun itv s2 h2 => ?_) hs
  obtain ⟨it, fp, tn, J, H2, e, I2, T, st2, f2, W, ⟨m0, w0⟩, turn⟩ := h2
  subst e
  -- what stays true of the iterator's objects through the loop
  have stat : ∀ {H' : Hp}, (∀ b ∈ fp, H' b = none) → ∀ b ∈ fp, FpOk X pins H' b := fun hn b hb => ⟨hn b hb, (f2 b hb).2⟩
  refine codeAny_forLoop_any (fun n s' => ∃ i σ' H', Inv X pins σ' H' s' ∧ tn i s'.heap ∧ (∀ b ∈ fp, H' b = none) ∧ W i n σ' H') ?_ m0 ⟨0, σ, H2, I2, st2, fun b hb => (f2 b hb).1, w0⟩
  rintro n s3 ⟨i, σ3, H3, I3, st3, fr3, w3⟩
  rcases turn i n σ3 H3 w3 with ⟨stop, qn⟩ | ⟨go, N, hN, step⟩
  · refine wpAny_passesOwn hp (thn (T.done X rfl rfl rfl hc i pins s3 σ3 H3 X.xe I3 (stat fr3) st3 stop) fun r s4 ⟨hr, I4⟩ => ?_)
    subst hr
    exact wpAny_execs_nil ⟨σ3, H3, I4, qn⟩
  · refine wpAny_passesOwn hp (thn (T.item X rfl rfl rfl hc i pins s3 σ3 H3 X.xe I3 (stat fr3) st3 go) fun r s4 ⟨u, hr, h4⟩ => ?_)
    subst hr
    refine wpAny_passesOwn hp (thn h4 fun _ s5 ⟨x, H5, I5, r5, y5, st5, fr5⟩ => ?_)
    have I5' := I5.pinned (stat fr5) (T.obj _ _ st5)
    refine wpAny_passesOwn hp (thn (hg _ s5 σ3 H5 x u _ I5' r5 (step x H5 y5)) fun _ s6 ⟨σ6, H6, I6, q6⟩ => ?_)
    refine wpAny_passesOwn hp (thn (hb _ s6 σ6 H6 _ I6 q6) fun f s7 q7 => ?_)
    have again : ∀ {σ7 : St} {H7 : Hp}, Inv X (pins ++ pinsAt fp s5.heap) σ7 H7 s7 → N σ7 H7 → ∃ m, m < n ∧ ∃ i σ' H', Inv X pins σ' H' s7 ∧ tn i s7.heap ∧ (∀ b ∈ fp, H' b = none) ∧ W i m σ' H' := fun {σ7 H7} I7 n7 => by
      obtain ⟨m', hm, w7⟩ := hN σ7 H7 n7
      refine ⟨m', hm, i + 1, σ7, H7, I7.unpinned, T.keep _ _ _ st5 fun b hb o e => (I7.pin (b, o) (List.mem_append_right _ (List.mem_append_right _ (mem_pinsAt hb e)))).1, fun b hb => ?_, w7⟩
      obtain ⟨o, e, d⟩ := T.obj _ _ st5 b hb
      exact (I7.pin (b, o) (List.mem_append_right _ (List.mem_append_right _ (mem_pinsAt hb e)))).2.1
    cases f with
    | next => obtain ⟨σ7, H7, I7, n7⟩ := q7; exact again I7 n7
    | cont => obtain ⟨σ7, H7, I7, n7⟩ := q7; exact again I7 n7
    | brk => obtain ⟨σ7, H7, I7, q7⟩ := q7; exact ⟨σ7, H7, I7.unpinned, q7⟩
    | ret v => obtain ⟨x7, σ7, H7, I7, r7, q7⟩ := q7; exact ⟨x7, σ7, H7, I7.unpinned, r7, q7⟩
end

/-! ### the forms one uses -/
/-- over a list that the body leaves as it is -/
theorem for_list {K : PySem.W.Frag} {a : Addr} {xs : List V} {g : TG} {tb : TS} {D : Ends} {σ : St} {H : Hp} (Pv : Nat → St → Hp → Prop) (h0 : Pv 0 σ H) (hl : ∀ i σ H, i ≤ xs.length → Pv i σ H → SqL K H a xs)
    (hs : ∀ i x σ H, xs[i]? = some x → Pv i σ H → g x σ H fun σ2 H2 => tb { D with nx := Pv (i + 1), ct := Pv (i + 1), bk := D.nx } σ2 H2) (hd : ∀ σ H, Pv xs.length σ H → D.nx σ H) :
    ∃ W : Nat → Nat → St → Hp → Prop, (∃ m, W 0 m σ H) ∧ ∀ i m σ H, W i m σ H →
      ((Itl K a).stop i H ∧ D.nx σ H) ∨ ((Itl K a).go i H ∧ ∃ N : St → Hp → Prop, (∀ σ' H', N σ' H' → ∃ m', m' < m ∧ W (i + 1) m' σ' H') ∧ ∀ x H', (Itl K a).yld i H x H' → g x σ H' fun σ2 H2 => tb { D with nx := N, ct := N, bk := D.nx } σ2 H2) := by
  refine ⟨fun i m σ H => m = xs.length - i ∧ i ≤ xs.length ∧ Pv i σ H, ⟨xs.length, by simp, Nat.zero_le _, h0⟩, ?_⟩
  rintro i m σ H ⟨rfl, hi, p⟩
  have q := hl i σ H hi p
  by_cases hlt : i < xs.length
  · refine .inr ⟨⟨xs, xs[i], q, by simp [hlt]⟩, Pv (i + 1), fun σ' H' p' => ⟨xs.length - (i + 1), by omega, rfl, hlt, p'⟩, fun x H' y => ?_⟩
    obtain ⟨e, y⟩ := y
    subst e
    exact hs i x σ _ (y xs q) p
  · have e : i = xs.length := by omega
    subst e
    exact .inl ⟨⟨xs, q, Nat.le_refl _⟩, hd σ H p⟩
theorem for_range {lo : Int} {n : Nat} {g : TG} {tb : TS} {D : Ends} {σ : St} {H : Hp} (Pv : Nat → St → Hp → Prop) (h0 : Pv 0 σ H)
    (hs : ∀ i σ H, i < n → Pv i σ H → g (.int (lo + i)) σ H fun σ2 H2 => tb { D with nx := Pv (i + 1), ct := Pv (i + 1), bk := D.nx } σ2 H2) (hd : ∀ σ H, Pv n σ H → D.nx σ H) :
    ∃ W : Nat → Nat → St → Hp → Prop, (∃ m, W 0 m σ H) ∧ ∀ i m σ H, W i m σ H →
      ((Itr lo n).stop i H ∧ D.nx σ H) ∨ ((Itr lo n).go i H ∧ ∃ N : St → Hp → Prop, (∀ σ' H', N σ' H' → ∃ m', m' < m ∧ W (i + 1) m' σ' H') ∧ ∀ x H', (Itr lo n).yld i H x H' → g x σ H' fun σ2 H2 => tb { D with nx := N, ct := N, bk := D.nx } σ2 H2) := by
  refine ⟨fun i m σ H => m = n - i ∧ i ≤ n ∧ Pv i σ H, ⟨n, by simp, Nat.zero_le _, h0⟩, ?_⟩
  rintro i m σ H ⟨rfl, hi, p⟩
  by_cases hlt : i < n
  · refine .inr ⟨hlt, Pv (i + 1), fun σ' H' p' => ⟨n - (i + 1), by omega, rfl, hlt, p'⟩, fun x H' y => ?_⟩
    obtain ⟨e, y⟩ := y
    subst e y
    exact hs i σ _ hlt p
  · have e : i = n := by omega
    subst e
    exact .inl ⟨Nat.le_refl _, hd σ H p⟩
end L2

namespace L2
open PySem PySem.Spec PyProof.Rows

abbrev R2 := V → V → Hp → VK → Prop
/-- a two-place operation on values: f is binaryOp op, inplaceOp op or compareOp op -/
def OpR (X : Cx) (f : Value → Value → Sem Value) (r : R2) : Prop :=
  ∀ (pins : List (Addr × Obj)) (s : Shared) (σ : St) (H : Hp) (x y : V) (v u : Value) (Q : VK), Inv X pins σ H s → RelV x v → RelV y u → r x y H Q →
    wpAny (model X.prog X.w) X.A (f v u) (EP X pins σ Q) X.xe s
/-- a one-place operation -/
def UnR (X : Cx) (f : Value → Sem Value) (r : V → Hp → VK → Prop) : Prop :=
  ∀ (pins : List (Addr × Obj)) (s : Shared) (σ : St) (H : Hp) (x : V) (v : Value) (Q : VK), Inv X pins σ H s → RelV x v → r x H Q →
    wpAny (model X.prog X.w) X.A (f v) (EP X pins σ Q) X.xe s
/-- a call of a value that is known (a builtin, a type) with values -/
def CallR (X : Cx) (f : Value) (r : List V → Hp → VK → Prop) : Prop :=
  ∀ (pins : List (Addr × Obj)) (s : Shared) (σ : St) (H : Hp) (xs : List V) (us : List Value) (Q : VK), Inv X pins σ H s → Vals xs us → r xs H Q →
    wpAny (model X.prog X.w) X.A (call f us) (EP X pins σ Q) X.xe s
def tOp (r : R2) (ta tb : TE) : TE := fun σ H Q => ta σ H fun x H1 => tb σ H1 fun y H2 => r x y H2 Q
def tUn (r : V → Hp → VK → Prop) (ta : TE) : TE := fun σ H Q => ta σ H fun x H1 => r x H1 Q
/-- ints in, under C, and a value out -/
def rI (C : Int → Int → Prop) (g : Int → Int → V) : R2 := fun x y H Q => ∃ i j, x = .int i ∧ y = .int j ∧ C i j ∧ Q (g i j) H
def rI0 (g : Int → Int → V) : R2 := fun x y H Q => ∃ i j, x = .int i ∧ y = .int j ∧ Q (g i j) H
def rU (g : Int → V) : V → Hp → VK → Prop := fun x H Q => ∃ i, x = .int i ∧ Q (g i) H

section
variable {X : Cx} {a b c : Expr} {ta tb tc : TE} {pos : Pos}

theorem binT (ha : PE X a ta) (hb : PE X b tb) {pins : List (Addr × Obj)} {s : Shared} {σ : St} {H : Hp} {R : V → V → Hp → Prop} (I : Inv X pins σ H s)
    (h : ta σ H fun x H1 => tb σ H1 fun y H2 => R x y H2) {Q : Value → Shared → Prop} {f : Value → Value → Sem Value}
    (hf : ∀ v u s2 x y H2, Inv X pins σ H2 s2 → RelV x v → RelV y u → R x y H2 → wpAny (model X.prog X.w) X.A (f v u) Q X.xe s2) :
    wpAny (model X.prog X.w) X.A (eval a X.env) (fun v s₁ => wpAny (model X.prog X.w) X.A (eval b X.env) (fun u s₂ => wpAny (model X.prog X.w) X.A (f v u) Q X.xe s₂) X.xe s₁) X.xe s := by
  refine thn (ha pins s σ H _ I h) fun v s1 ⟨x, H1, I1, r1, q1⟩ => ?_
  refine thn (hb pins s1 σ H1 _ I1 q1) fun u s2 ⟨y, H2, I2, r2, q2⟩ => ?_
  exact hf v u s2 x y H2 I2 r1 r2 q2

theorem pe_op {op : Operator} {r : R2} (ho : OpR X (binaryOp op) r) (ha : PE X a ta) (hb : PE X b tb) : PE X (.BinOp a op b pos) (tOp r ta tb) := by
  intro pins s σ H Q I h
  exact wpAny_BinOp (binT ha hb I h fun v u s2 x y H2 I2 rx ry q => ho pins s2 σ H2 x y v u Q I2 rx ry q)
theorem pe_un {op : UnaryOp} {r : V → Hp → VK → Prop} (ho : UnR X (unaryOp op) r) (ha : PE X a ta) : PE X (.UnaryOp op a pos) (tUn r ta) := by
  intro pins s σ H Q I h
  exact UnaryOp_ (thn (ha pins s σ H _ I h) fun v s1 ⟨x, H1, I1, r1, q1⟩ => ho pins s1 σ H1 x v Q I1 r1 q1)
/-! ### ints -/
theorem opI {f : Value → Value → Sem Value} {C : Int → Int → Prop} {g : Int → Int → Int}
    (rule : ∀ (i j : Int) (t u : Tok) (s : Shared) (Q : Value → Shared → Prop) (E : Value → Shared → Prop), C i j → Q (.int (g i j) s.toks) { s with toks := s.toks + 1 } → wpAny (model X.prog X.w) X.A (f (.int i t) (.int j u)) Q E s) :
    OpR X f (rI C fun i j => .int (g i j)) := by
  intro pins s σ H x y v u Q I rx ry h
  obtain ⟨i, j, rfl, rfl, hc, q⟩ := h
  obtain ⟨t, rfl⟩ := rx
  obtain ⟨t', rfl⟩ := ry
  exact rule i j t t' s _ _ hc ⟨.int (g i j), H, I.tok _, ⟨_, rfl⟩, q⟩
theorem opI0 {f : Value → Value → Sem Value} {g : Int → Int → Int}
    (rule : ∀ (i j : Int) (t u : Tok) (s : Shared) (Q : Value → Shared → Prop) (E : Value → Shared → Prop), Q (.int (g i j) s.toks) { s with toks := s.toks + 1 } → wpAny (model X.prog X.w) X.A (f (.int i t) (.int j u)) Q E s) :
    OpR X f (rI0 fun i j => .int (g i j)) := by
  intro pins s σ H x y v u Q I rx ry h
  obtain ⟨i, j, rfl, rfl, q⟩ := h
  obtain ⟨t, rfl⟩ := rx
  obtain ⟨t', rfl⟩ := ry
  exact rule i j t t' s _ _ ⟨.int (g i j), H, I.tok _, ⟨_, rfl⟩, q⟩
theorem opB0 {f : Value → Value → Sem Value} {g : Int → Int → Bool}
    (rule : ∀ (i j : Int) (t u : Tok) (s : Shared) (Q : Value → Shared → Prop) (E : Value → Shared → Prop), Q (.bool (g i j)) s → wpAny (model X.prog X.w) X.A (f (.int i t) (.int j u)) Q E s) :
    OpR X f (rI0 fun i j => .bl (g i j)) := by
  intro pins s σ H x y v u Q I rx ry h
  obtain ⟨i, j, rfl, rfl, q⟩ := h
  obtain ⟨t, rfl⟩ := rx
  obtain ⟨t', rfl⟩ := ry
  exact rule i j t t' s _ _ ⟨.bl (g i j), H, I, rfl, q⟩

def CDiv (i j : Int) : Prop := 0 < j ∧ j < 1073741824
def CPow (i j : Int) : Prop := 0 ≤ j ∧ j ≤ 1000000 ∧ i.natAbs < 2 ^ 64
def CMul (i j : Int) : Prop := (-(2 ^ 64) < i ∧ i < 2 ^ 64) ∨ (-(2 ^ 64) < j ∧ j < 2 ^ 64)
theorem CMul.ok {i j : Int} (h : CMul i j) : IntMulOk i j := by
  rcases h with ⟨h1, h2⟩ | ⟨h1, h2⟩
  · exact .of_left (intBits_le_64 h1 h2)
  · exact .of_right (intBits_le_64 h1 h2)
theorem op_add : OpR X (binaryOp .Add) (rI0 fun i j => .int (i + j)) := opI0 fun _ _ _ _ _ _ _ q => add_int q
theorem op_sub : OpR X (binaryOp .Sub) (rI0 fun i j => .int (i - j)) := opI0 fun _ _ _ _ _ _ _ q => sub_int q
theorem op_mul : OpR X (binaryOp .Mult) (rI CMul fun i j => .int (i * j)) := opI fun _ _ _ _ _ _ _ hc q => mul_int q hc.ok
/-- // by a positive divisor -/
theorem op_fdiv : OpR X (binaryOp .FloorDiv) (rI CDiv fun i j => .int (i / j)) := opI fun i j _ _ _ _ _ hc q => by
  have h1 : (0 : Int) < j := hc.1
  have h2 : j < 1073741824 := hc.2
  exact floordiv_int (by omega) (by rw [Int.fdiv_eq_ediv_of_nonneg i (by omega)]; exact q) (.inl (PyProof.noPylong_small (by omega)))
/-- % by a positive divisor of any size -/
theorem op_mod : OpR X (binaryOp .Mod) (rI (fun _ j => 0 < j) fun i j => .int (i % j)) := opI fun i j _ _ _ _ _ hc q => by
  have h1 : (0 : Int) < j := hc
  exact mod_int' (by omega) (by rw [Int.fmod_eq_emod_of_nonneg i (by omega)]; exact q)
theorem op_pow : OpR X (binaryOp .Pow) (rI CPow fun i j => .int (i ^ j.toNat)) := opI fun _ _ _ _ _ _ _ hc q => pow_int_small hc.1 hc.2.1 hc.2.2 q
theorem unI {f : Value → Sem Value} {g : Int → Int}
    (rule : ∀ (i : Int) (t : Tok) (s : Shared) (Q : Value → Shared → Prop) (E : Value → Shared → Prop), Q (.int (g i) s.toks) { s with toks := s.toks + 1 } → wpAny (model X.prog X.w) X.A (f (.int i t)) Q E s) :
    UnR X f (rU fun i => .int (g i)) := by
  intro pins s σ H x v Q I rx h
  obtain ⟨i, rfl, q⟩ := h
  obtain ⟨t, rfl⟩ := rx
  exact rule i t s _ _ ⟨.int (g i), H, I.tok _, ⟨_, rfl⟩, q⟩
theorem un_neg : UnR X (unaryOp .USub) (rU fun i => .int (-i)) := unI fun _ _ _ _ _ q => neg_int q
/-! ### bools among ints: n += (a < b) -/
end

/-! ### comparisons -/
/-- the scalars that == tells apart as data does -/
def scal : V → V → Bool
  | .non, .non => true | .non, .int _ => true | .int _, .non => true | .non, .bl _ => true | .bl _, .non => true | .non, .str _ => true | .str _, .non => true
  | .int _, .int _ => true | .bl _, .bl _ => true | .str _, .str _ => true | .byt _, .byt _ => true
  | .int _, .str _ => true | .str _, .int _ => true | .bl _, .str _ => true | .str _, .bl _ => true
  | _, _ => false
def rEq : R2 := fun x y H Q => scal x y = true ∧ Q (.bl (decide (x = y))) H
def rNe : R2 := fun x y H Q => scal x y = true ∧ Q (.bl (!decide (x = y))) H

theorem dec_int {i j : Int} : decide (V.int i = V.int j) = (i == j) := by
  rw [Bool.eq_iff_iff]
  simp
theorem dec_bl {i j : Bool} : decide (V.bl i = V.bl j) = (i == j) := by
  rw [Bool.eq_iff_iff]
  simp
theorem dec_str {i j : Str} : decide (V.str i = V.str j) = (i == j) := by
  rw [Bool.eq_iff_iff]
  simp
theorem dec_byt {i j : Array UInt8} : decide (V.byt i = V.byt j) = (i.toList == j.toList) := by
  rw [Bool.eq_iff_iff]
  cases i
  cases j
  simp

section
variable {X : Cx} {a b c : Expr} {ta tb tc : TE} {pos : Pos}
theorem fin_bl {pins : List (Addr × Obj)} {σ : St} {H : Hp} {s : Shared} {Q : VK} {k k' : Bool} (I : Inv X pins σ H s) (q : Q (.bl k) H) (e : k = k') : EP X pins σ Q (.bool k') s := by
  subst e
  exact ⟨.bl k, H, I, rfl, q⟩
theorem op_eq : OpR X (compareOp .Eq) rEq := by
  intro pins s σ H x y v u Q I rx ry h
  obtain ⟨hs, q⟩ := h
  cases x with
  | non =>
    cases rx
    cases y with
    | non => cases ry; exact PySem.EqNone.eq_none_none (fin_bl I q (by simp))
    | bl j => cases ry; exact PySem.EqNone.eq_none_bool (fin_bl I q (by simp))
    | int j => obtain ⟨t', rfl⟩ := ry; exact PySem.EqNone.eq_none_int (fin_bl I q (by simp))
    | str j => obtain ⟨t', rfl⟩ := ry; exact PySem.EqNone.eq_none_str (fin_bl I q (by simp))
    | _ => exact absurd (show false = true from hs) Bool.false_ne_true
  | bl i =>
    cases rx
    cases y with
    | non => cases ry; exact PySem.EqNone.eq_bool_none (fin_bl I q (by simp))
    | bl j => cases ry; exact eq_bool (fin_bl I q dec_bl)
    | str j => obtain ⟨t', rfl⟩ := ry; exact PySem.EqMixed.eq_bool_str (fin_bl I q (by simp))
    | _ => exact absurd (show false = true from hs) Bool.false_ne_true
  | int i =>
    obtain ⟨t, rfl⟩ := rx
    cases y with
    | non => cases ry; exact PySem.EqNone.eq_int_none (fin_bl I q (by simp))
    | int j => obtain ⟨t', rfl⟩ := ry; exact eq_int (fin_bl I q dec_int)
    | str j => obtain ⟨t', rfl⟩ := ry; exact PySem.EqMixed.eq_int_str (fin_bl I q (by simp))
    | _ => exact absurd (show false = true from hs) Bool.false_ne_true
  | str i =>
    obtain ⟨t, rfl⟩ := rx
    cases y with
    | non => cases ry; exact PySem.EqNone.eq_str_none (fin_bl I q (by simp))
    | bl j => cases ry; exact PySem.EqMixed.eq_str_bool (fin_bl I q (by simp))
    | int j => obtain ⟨t', rfl⟩ := ry; exact PySem.EqMixed.eq_str_int (fin_bl I q (by simp))
    | str j => obtain ⟨t', rfl⟩ := ry; exact eq_str (fin_bl I q dec_str)
    | _ => exact absurd (show false = true from hs) Bool.false_ne_true
  | byt i =>
    obtain ⟨t, rfl⟩ := rx
    cases y with
    | byt j => obtain ⟨t', rfl⟩ := ry; exact PySem.W.eq_bytes (fin_bl I q dec_byt)
    | _ => exact absurd (show false = true from hs) Bool.false_ne_true
  | _ => cases y <;> exact absurd (show false = true from hs) Bool.false_ne_true
theorem op_ne : OpR X (compareOp .NotEq) rNe := by
  intro pins s σ H x y v u Q I rx ry h
  obtain ⟨hs, q⟩ := h
  cases x with
  | non =>
    cases rx
    cases y with
    | non => cases ry; exact PySem.EqNone.ne_none_none (fin_bl I q (by simp))
    | bl j => cases ry; exact PySem.EqNone.ne_none_bool (fin_bl I q (by simp))
    | int j => obtain ⟨t', rfl⟩ := ry; exact PySem.EqNone.ne_none_int (fin_bl I q (by simp))
    | str j => obtain ⟨t', rfl⟩ := ry; exact PySem.EqNone.ne_none_str (fin_bl I q (by simp))
    | _ => exact absurd (show false = true from hs) Bool.false_ne_true
  | bl i =>
    cases rx
    cases y with
    | non => cases ry; exact PySem.EqNone.ne_bool_none (fin_bl I q (by simp))
    | bl j => cases ry; exact ne_bool (fin_bl I q (congrArg not dec_bl))
    | str j => obtain ⟨t', rfl⟩ := ry; exact PySem.EqMixed.ne_bool_str (fin_bl I q (by simp))
    | _ => exact absurd (show false = true from hs) Bool.false_ne_true
  | int i =>
    obtain ⟨t, rfl⟩ := rx
    cases y with
    | non => cases ry; exact PySem.EqNone.ne_int_none (fin_bl I q (by simp))
    | int j => obtain ⟨t', rfl⟩ := ry; exact ne_int (fin_bl I q (congrArg not dec_int))
    | str j => obtain ⟨t', rfl⟩ := ry; exact PySem.EqMixed.ne_int_str (fin_bl I q (by simp))
    | _ => exact absurd (show false = true from hs) Bool.false_ne_true
  | str i =>
    obtain ⟨t, rfl⟩ := rx
    cases y with
    | non => cases ry; exact PySem.EqNone.ne_str_none (fin_bl I q (by simp))
    | bl j => cases ry; exact PySem.EqMixed.ne_str_bool (fin_bl I q (by simp))
    | int j => obtain ⟨t', rfl⟩ := ry; exact PySem.EqMixed.ne_str_int (fin_bl I q (by simp))
    | str j => obtain ⟨t', rfl⟩ := ry; exact ne_str (fin_bl I q (congrArg not dec_str))
    | _ => exact absurd (show false = true from hs) Bool.false_ne_true
  | byt i =>
    obtain ⟨t, rfl⟩ := rx
    cases y with
    | byt j => obtain ⟨t', rfl⟩ := ry; exact PySem.W.ne_bytes (fin_bl I q (congrArg not dec_byt))
    | _ => exact absurd (show false = true from hs) Bool.false_ne_true
  | _ => cases y <;> exact absurd (show false = true from hs) Bool.false_ne_true

theorem op_lt : OpR X (compareOp .Lt) (rI0 fun i j => .bl (decide (i < j))) := opB0 fun _ _ _ _ _ _ _ q => lt_int q
theorem op_le : OpR X (compareOp .LtE) (rI0 fun i j => .bl (decide (i ≤ j))) := opB0 fun _ _ _ _ _ _ _ q => le_int q
theorem op_gt : OpR X (compareOp .Gt) (rI0 fun i j => .bl (decide (j < i))) := opB0 fun _ _ _ _ _ _ _ q => gt_int q
theorem op_ge : OpR X (compareOp .GtE) (rI0 fun i j => .bl (decide (j ≤ i))) := opB0 fun _ _ _ _ _ _ _ q => ge_int q
/-- is None, is not None: the right side a value none -/
theorem op_isN : OpR X (compareOp .Is) (fun x y H Q => y = .non ∧ Q (.bl (decide (x = .non))) H) := by
  intro pins s σ H x y v u Q I rx ry h
  obtain ⟨rfl, q⟩ := h
  cases ry
  refine is_none_gen (fin_bl I q ?_)
  cases x <;> first
    | (cases rx; rfl)
    | (obtain ⟨t, rfl⟩ := rx; rfl)
theorem nomark (b : Expr) {op : CmpOp} (h : op ≠ .In := by decide) (h2 : op ≠ .NotIn := by decide) : behindInMarks op b = false := by
  have e1 : (op == CmpOp.In) = false := by cases op <;> first | rfl | exact absurd rfl h
  have e2 : (op == CmpOp.NotIn) = false := by cases op <;> first | rfl | exact absurd rfl h2
  cases b <;> simp [behindInMarks, e1, e2]
/-- a comparison as a value; hm: nomark b, or (for in, not in) by with_unfolding_all rfl -/
theorem pe_cmpR {op : CmpOp} {r : R2} (ho : OpR X (compareOp op) r) (ha : PE X a ta) (hb : PE X b tb) (hm : behindInMarks op b = false) : PE X (.Compare a [op] [b] pos) (tOp r ta tb) := by
  intro pins s σ H Q I h
  exact wpAny_Compare1 (binT ha hb I h fun v u s2 x y H2 I2 rx ry q => ho pins s2 σ H2 x y v u Q I2 rx ry q) hm
/-- a reading of a value as a test -/
def tTest (t : TE) : TT := fun σ H Q => t σ H fun x H' => ∃ k, x = .bl k ∧ Q k H'
theorem pt_cmpR {op : CmpOp} {r : R2} (ho : OpR X (compareOp op) r) (ha : PE X a ta) (hb : PE X b tb) (hm : behindInMarks op b = false) : PT X (.Compare a [op] [b] pos) (tTest (tOp r ta tb)) := by
  intro pins s σ H Q I h
  refine wpAny_isTrue_Compare1 (thn (ha pins s σ H _ I h) fun v s1 ⟨x, H1, I1, r1, q1⟩ => thn (hb pins s1 σ H1 _ I1 q1) fun u s2 ⟨y, H2, I2, r2, q2⟩ =>
    thn (ho pins s2 σ H2 x y v u _ I2 r1 r2 q2) fun c s3 ⟨z, H3, I3, r3, k, e, q3⟩ => ?_) hm
  subst e
  cases r3
  exact wpAny_truthy_bool ⟨H3, I3, q3⟩
/-- a op1 b op2 c -/
def tChain (r r' : R2) (ta tb tc : TE) : TE := fun σ H Q => ta σ H fun x H1 => tb σ H1 fun y H2 => r x y H2 fun z H3 => ∃ k, z = .bl k ∧
  (if k = true then tc σ H3 fun w' H4 => r' y w' H4 Q else Q (.bl false) H3)
theorem pt_chain {op op' : CmpOp} {r r' : R2} (ho : OpR X (compareOp op) r) (ho' : OpR X (compareOp op') r') (ha : PE X a ta) (hb : PE X b tb) (hc : PE X c tc)
    (hm : lastMarks [op, op'] [b, c] = false := by with_unfolding_all rfl) : PT X (.Compare a [op, op'] [b, c] pos) (tTest (tChain r r' ta tb tc)) := by
  intro pins s σ H Q I h
  refine isTrue_chain (thn (ha pins s σ H _ I h) fun v s1 ⟨x, H1, I1, r1, q1⟩ => test_link (thn (hb pins s1 σ H1 _ I1 q1) fun u s2 ⟨y, H2, I2, r2, q2⟩ =>
    thn (ho pins s2 σ H2 x y v u _ I2 r1 r2 q2) fun d s3 ⟨z, H3, I3, r3, k, e, q3⟩ => ?_)) hm
  subst e
  cases r3
  refine wpAny_truthy_bool ?_
  cases k with
  | false =>
    obtain ⟨k', e', q'⟩ := q3
    cases e'
    exact ite_ff ⟨H3, I3, q'⟩
  | true =>
    refine ite_tt (test_last (thn (hc pins s3 σ H3 _ I3 q3) fun w' s4 ⟨z', H4, I4, r4, q4⟩ => thn (ho' pins s4 σ H4 y z' u w' _ I4 r2 r4 q4) fun d' s5 ⟨z2, H5, I5, r5, k2, e2, q5⟩ => ?_))
    subst e2
    cases r5
    exact wpAny_truthy_bool ⟨H5, I5, q5⟩

/-! ### truth -/
theorem line63 : (sizeLine : Nat) < 2 ^ 63 := by rw [sizeLine_eq]; decide
/-! ### strs and bytes -/
/-! ### scalar builtins, by CallR -/
theorem vals1 {x : V} {us : List Value} (r : Vals [x] us) : ∃ u, us = [u] ∧ RelV x u := by
  cases r with
  | cons r1 r2 => cases r2; exact ⟨_, rfl, r1⟩
theorem vals2 {x y : V} {us : List Value} (r : Vals [x, y] us) : ∃ u w', us = [u, w'] ∧ RelV x u ∧ RelV y w' := by
  cases r with
  | cons r1 r2 =>
    cases r2 with
    | cons r3 r4 => cases r4; exact ⟨_, _, rfl, r1, r3⟩
theorem call_max2 (hc : X.calm = true) : CallR X (.builtin "max") (fun xs H Q => ∃ i j, xs = [.int i, .int j] ∧ Q (.int (if j > i then j else i)) H) := by
  intro pins s σ H xs us Q I r h
  obtain ⟨i, j, rfl, q⟩ := h
  obtain ⟨u, w', rfl, ⟨t, rfl⟩, ⟨t', rfl⟩⟩ := vals2 r
  refine max_two_ints (I.ok.hd hc) fun h' tk k => ⟨_, H, I.kept k, ?_, q⟩
  by_cases hj : j > i
  · rw [if_pos hj, if_pos hj]; exact ⟨_, rfl⟩
  · rw [if_neg hj, if_neg hj]; exact ⟨_, rfl⟩
theorem call_min2 (hc : X.calm = true) : CallR X (.builtin "min") (fun xs H Q => ∃ i j, xs = [.int i, .int j] ∧ Q (.int (if j < i then j else i)) H) := by
  intro pins s σ H xs us Q I r h
  obtain ⟨i, j, rfl, q⟩ := h
  obtain ⟨u, w', rfl, ⟨t, rfl⟩, ⟨t', rfl⟩⟩ := vals2 r
  refine min_two_ints (I.ok.hd hc) fun h' tk k => ⟨_, H, I.kept k, ?_, q⟩
  by_cases hj : j < i
  · rw [if_pos hj, if_pos hj]; exact ⟨_, rfl⟩
  · rw [if_neg hj, if_neg hj]; exact ⟨_, rfl⟩
theorem call_int1 : CallR X (.type "int") (fun xs H Q => (∃ i, xs = [.int i] ∧ Q (.int i) H) ∨ ∃ k, xs = [.bl k] ∧ Q (.int (if k then 1 else 0)) H) := by
  intro pins s σ H xs us Q I r h
  rcases h with ⟨i, rfl, q⟩ | ⟨k, rfl, q⟩
  · obtain ⟨u, rfl, t, rfl⟩ := vals1 r
    exact call_int_int ⟨.int i, H, I, ⟨_, rfl⟩, q⟩
  · obtain ⟨u, rfl, r1⟩ := vals1 r
    cases r1
    exact call_int_bool ⟨.int (if k then 1 else 0), H, I.tok _, ⟨_, rfl⟩, q⟩
end
end L2

namespace L2
open PySem PySem.Spec PyProof.Rows

/-! ### an instance, its attributes a map -/
structure ObjM (h : Heap) (x dx C : Addr) (mA : Str → Option Value) : Prop where
  obj : h.get? x = some (PySem.W.instObj C dx)
  ns : h.Ns1 dx mA
  ne : dx ≠ x

theorem lookIn_ns {h : Heap} {dx : Addr} {mA : Str → Option Value} (n : h.Ns1 dx mA) : ∃ od, h.get? dx = some od ∧ ∀ name, PySem.W.lookIn name od = some (mA name) := by
  obtain ⟨o, es, ep, ho, hd, hk, _, hm⟩ := n
  refine ⟨o, ho, fun name => ?_⟩
  have e := hm name
  unfold nsFind findBy at e
  rw [← Array.find?_toList] at e
  unfold PySem.W.lookIn
  rw [hd]
  dsimp only
  split
  · rename_i y q
    rw [q] at e
    exact congrArg some e
  · rename_i q
    rw [q] at e
    have a : es.toList.any (·.refKey) = false := by
      rw [List.any_eq_false]
      intro y hy
      obtain ⟨z, t, hkey⟩ := hk y (Array.mem_toList_iff.mp hy)
      simp [DictEntry.refKey, hkey]
    have a' : ¬ es.toList.any (·.refKey) = true := by rw [a]; exact Bool.false_ne_true
    rw [if_neg a']
    exact congrArg some e

theorem ObjM.look {h : Heap} {x dx C : Addr} {mA : Str → Option Value} (I : ObjM h x dx C mA) : ∃ od, PySem.W.InstAt h x (PySem.W.instObj C dx) C (some od) ∧ ∀ name, PySem.W.lookIn name od = some (mA name) :=
  let ⟨od, ho, hl⟩ := lookIn_ns I.ns
  ⟨od, ⟨I.obj, rfl, rfl, ho⟩, hl⟩

section
variable {prog : Program} {w : World} {A : Around} {E : Value → Shared → Prop} {s : Shared} {K : PySem.W.Frag} {x dx C f : Addr} {mA : Str → Option Value} {name : Str} {v : Value}

end

/-! ### the attributes as a list of pairs -/
section
variable {P : Program} {w : World} {H H' : Hp} {h h' : Heap} {a C dx : Addr} {fs fs' : List (Str × V)}
theorem ins_get (hok : HOk P w H h) (e : H a = some (.ins C dx fs)) : ∃ mA, ObjM h a dx C mA ∧ (∀ f, RelO (fs.lookup f) (mA f)) ∧ PySem.Within mA (fs.map (·.1)) ∧ fs.length ≤ 1000 ∧ H dx = some (.own a) := by
  obtain ⟨d, z, ne, ob, mA, n, r, q⟩ := (show ObjOk P w H h a (.ins C dx fs) from hok a _ e)
  exact ⟨mA, ⟨ob, n, ne⟩, r, q, z, d⟩
end

/-! ### what of the text a class must have -/
structure Cls (K : PySem.W.Frag) (C : Addr) : Prop where
  pg : PySem.W.plainGet K C Str.empty = true
  hd : PySem.W.hasDictIn K C = true
  po : PySem.W.plainOver K C = true
  sa : PySem.W.findIn K (.ref C) "__setattr__" = some (some (.builtin "object.__setattr__"))
theorem Cls.get {K : PySem.W.Frag} {C : Addr} (c : Cls K C) (f : Str) : PySem.W.plainGet K C f = true := c.pg
/-- a constant of the class -/
structure Con (K : PySem.W.Frag) (C : Addr) (f : Str) (v : V) (u : Value) : Prop where
  at_ : PySem.W.findIn K (.ref C) f = some (some u)
  rel : RelV v u
  get : PySem.W.specialIn K u "__get__" = some none
  cp : PySem.W.copiedNames.contains f = false
/-- a method: a plain def of the class or of one above it -/
structure Meth (K : PySem.W.Frag) (C : Addr) (m : Str) (f : Addr) : Prop where
  at_ : PySem.W.findIn K (.ref C) m = some (some (.ref f))
  fn : PySem.W.isFn K (.ref f) = true
  kp : PySem.W.keepIn K (.ref f) = true

section
variable {X : Cx} {pins : List (Addr × Obj)} {σ : St} {H : Hp} {s : Shared} {a C dx : Addr} {fs : List (Str × V)} {f : Str} {v : V} {A : Around} {E : Value → Shared → Prop}

end

/-! ### readings and rules -/
section
variable {X : Cx} {o e value : Expr} {f : Str} {pos pos' tpos : Pos} {ta tv : TE}
end

/-! ### isinstance -/
section
variable {X : Cx} {pins : List (Addr × Obj)} {σ : St} {H : Hp} {s : Shared} {A : Around} {E : Value → Shared → Prop} {Q : Value → Shared → Prop} {c : Value} {b : Bool}
/-- the type of a value, as the fragment's deciders take it; for an instance its class -/
inductive TyOf (K : PySem.W.Frag) (H : Hp) : V → Value → Prop where
  | non : TyOf K H .non (.type "NoneType")
  | bl (x : Bool) : TyOf K H (.bl x) (.type "bool")
  | int (i : Int) : TyOf K H (.int i) (.type "int")
  | str (x : Str) : TyOf K H (.str x) (.type "str")
  | flt (x : UInt64) : TyOf K H (.flt x) (.type "float")
  | lst {a : Addr} {xs : List V} (e : H a = some (.lst xs)) : TyOf K H (.ref a) (.type "list")
  | frz {a : Addr} {o : Obj} {xs : List V} (e : H a = some (.frz o (.lst xs))) : TyOf K H (.ref a) (.type "list")
  | tup {a : Addr} {xs : List V} (e : H a = some (.tup xs)) : TyOf K H (.ref a) (.type "tuple")
  | dK {a : Addr} {kvs : List (Key × V)} (e : H a = some (.dK kvs)) : TyOf K H (.ref a) (.type "dict")
  | dT {a : Addr} {kvs : List (List Key × V)} (e : H a = some (.dT kvs)) : TyOf K H (.ref a) (.type "dict")
  | ins {a C dx : Addr} {fs : List (Str × V)} (e : H a = some (.ins C dx fs)) (cl : Cls K C) (ha : PySem.W.findIn K (.ref C) "__class__" = some (some (.builtin "object.__class__")))
      (hn : PySem.W.specialIn K (.builtin "object.__class__") "__get__" = some (some (.builtin "getset_descriptor.__get__"))) (htk : PySem.W.takesIn K (.builtin "object.__class__") = some true)
      (hm : PySem.W.mroIn K C (.type "object") = some true) : TyOf K H (.ref a) (.ref C)
/-- isinstance(x, c) for one class c, a built-in or an own one: kitOne's answer -/
theorem isinst_ok {x : V} {u t : Value} (I : Inv X pins σ H s) (rx : RelV x u) (ty : TyOf X.K H x t) (e : PySem.W.kitOne X.K t c = some b) (h : ∀ tk, Q (.bool b) { s with toks := tk }) :
    wpAny (model X.prog X.w) A (call (.builtin "isinstance") [u, c]) Q E s := by
  cases ty with
  | non => cases (show u = Value.none from rx); exact PySem.W.kia_one PySem.W.kitx_none I.kIn True.intro e (fun z => nomatch z) h
  | bl y => cases (show u = Value.bool y from rx); exact PySem.W.kia_one PySem.W.kitx_bool I.kIn True.intro e (fun z => nomatch z) h
  | int i => obtain ⟨t, q⟩ := (show ∃ t, u = Value.int i t from rx); cases q; exact PySem.W.kia_one PySem.W.kitx_int I.kIn True.intro e (fun z => nomatch z) h
  | str y => obtain ⟨t, q⟩ := (show ∃ t, u = Value.str y t from rx); cases q; exact PySem.W.kia_one PySem.W.kitx_str I.kIn True.intro e (fun z => nomatch z) h
  | flt y => obtain ⟨t, q⟩ := (show ∃ t, u = Value.float y t from rx); cases q; exact PySem.W.kia_one PySem.W.kitx_float I.kIn True.intro e (fun z => nomatch z) h
  | @lst a xs ea =>
    cases (show u = Value.ref a from rx)
    obtain ⟨_, _, n, _, h1⟩ := (show ObjOk X.prog X.w H s.heap a (.lst xs) from I.hok a _ ea)
    exact PySem.W.kia_one PySem.W.kitx_list I.kIn ⟨_, h1, rfl⟩ e (fun z => nomatch z) h
  | @frz a ob xs ea =>
    cases (show u = Value.ref a from rx)
    obtain ⟨_, _, _, n, _, h1⟩ := (show ObjOk X.prog X.w H s.heap a (.frz ob (.lst xs)) from I.hok a _ ea)
    exact PySem.W.kia_one PySem.W.kitx_list I.kIn ⟨_, h1, rfl⟩ e (fun z => nomatch z) h
  | @tup a xs ea =>
    cases (show u = Value.ref a from rx)
    obtain ⟨_, _, _, p⟩ := (show ObjOk X.prog X.w H s.heap a (.tup xs) from I.hok a _ ea)
    obtain ⟨o, h1, h2, _⟩ := p
    exact PySem.W.kia_one PySem.W.kitx_tuple I.kIn ⟨o, h1, h2⟩ e (fun z => nomatch z) h
  | @dK a kvs ea =>
    cases (show u = Value.ref a from rx)
    obtain ⟨_, _, vs, _, p⟩ := (show ObjOk X.prog X.w H s.heap a (.dK kvs) from I.hok a _ ea)
    obtain ⟨o, es, ep, h1, h2, _⟩ := p
    exact PySem.W.kia_one PySem.W.kitx_dict I.kIn ⟨o, h1, h2.1⟩ e (fun z => nomatch z) h
  | @dT a kvs ea =>
    cases (show u = Value.ref a from rx)
    obtain ⟨_, _, xs, _, o, es, ep, h1, h2, _⟩ := (show ObjOk X.prog X.w H s.heap a (.dT kvs) from I.hok a _ ea)
    exact PySem.W.kia_one PySem.W.kitx_dict I.kIn ⟨o, h1, h2.1⟩ e (fun z => nomatch z) h
  | @ins a C dx fs ea cl ha hn htk hm =>
    cases (show u = Value.ref a from rx)
    obtain ⟨mA, O, _⟩ := ins_get I.hok ea
    obtain ⟨od, J, _⟩ := O.look
    exact PySem.W.kia_one (PySem.W.kitx_own (cl.get _) cl.hd ha hn htk hm) I.kIn J e (fun z => nomatch z) h
end
end L2

namespace L2
open PySem PySem.Spec PyProof.Rows

/-! ### room -/
structure Room (k : Nat) (A : Around) : Prop where
  hd : A.handled = none
  dp : A.depth + 3 * k + 5 < recursionLimit
  un : A.units + 16 * k + 200 < cLine
  gd : A.guards = some []
theorem Room.mono {j k : Nat} {A : Around} (r : Room k A) (h : j ≤ k) : Room j A := ⟨r.hd, by have := r.dp; omega, by have := r.un; omega, r.gd⟩
theorem Room.deeper {k : Nat} {A : Around} (r : Room (k + 1) A) (env : Env) : Room k (A.deeper env) :=
  ⟨r.hd, by have := r.dp; show A.depth + 1 + 3 * k + 5 < _; omega, by have := r.un; show A.units + 3 + 16 * k + 200 < _; omega, r.gd⟩
theorem Room.depth {k : Nat} {A : Around} (r : Room k A) : A.depth < recursionLimit := by have := r.dp; omega
theorem Room.units {k : Nat} {A : Around} (r : Room k A) : A.units + 64 < cLine := by have := r.un; omega
/-! ### argument lists and displays -/
def tNil : TA := fun _ H Q => Q [] H
def tCons (ta : TE) (tr : TA) : TA := fun σ H Q => ta σ H fun x H1 => tr σ H1 fun xs H2 => Q (x :: xs) H2
section
variable {X : Cx} {e : Expr} {es : List Expr} {te : TE} {t : TA} {pos : Pos}
theorem pa_nil : PA X [] tNil := fun _ _ _ _ H Q I h => Calls.spliced_nil ⟨[], H, I, .nil, h⟩
theorem pa_cons (ha : PE X e te) (hr : PA X es t) (hs : starEach (e :: es) X.env = (false, eval e X.env) :: starEach es X.env := by rfl) : PA X (e :: es) (tCons te t) := by
  intro pos pins s σ H Q I h
  rw [hs]
  show wpAny _ _ (spliced ((false, eval e X.env) :: backTo pos (starEach es X.env))) _ _ s
  refine Calls.spliced_cons (thn (ha pins s σ H _ I h) fun u s1 ⟨x, H1, I1, r1, q1⟩ => ?_)
  exact thn (hr pos pins s1 σ H1 _ I1 q1) fun us s2 ⟨xs, H2, I2, r2, q2⟩ => ⟨x :: xs, H2, I2, .cons r1 r2, q2⟩

/-- a tuple, a list of written items -/
def tTup (t : TA) : TE := fun σ H Q => t σ H fun xs H1 => xs.length ≤ sizeLine ∧ ∀ p, H1 p = none → Q (.ref p) (upd H1 p (.tup xs))
def tLst (t : TA) : TE := fun σ H Q => t σ H fun xs H1 => xs.length ≤ sizeLine ∧ ∀ p, H1 p = none → Q (.ref p) (upd H1 p (.lst xs))
theorem pe_tup {x1} (h : PA X es t) : PE X (.Tuple es x1 pos) (tTup t) := by
  intro pins s σ H Q I hq
  refine wpAny_Tuple_spliced (thn (h pos pins s σ H _ I hq) fun us s1 ⟨xs, H1, I1, r, z, q⟩ => ⟨by rw [← r.length]; exact z, ?_⟩)
  have hf : H1 s1.heap.objs.size = none := I1.hok.fresh (Nat.le_refl _)
  refine ⟨.ref s1.heap.objs.size, upd H1 s1.heap.objs.size (.tup xs), I1.laid (t' := s1.toks) (fun b u e => Heap.get?_push_of_some _ e) (Nat.le_refl _) ?_, rfl, q _ hf⟩
  exact ⟨z, us, r, ⟨_, Heap.get?_push_size _ rfl, rfl, rfl, _, rfl⟩⟩
theorem pe_lst (h : PA X es t) : PE X (.List es pos) (tLst t) := by
  intro pins s σ H Q I hq
  refine wpAny_List_spliced (thn (h pos pins s σ H _ I hq) fun us s1 ⟨xs, H1, I1, r, z, q⟩ => ⟨by rw [← r.length]; exact z, ?_⟩)
  have hf : H1 s1.heap.objs.size = none := I1.hok.fresh (Nat.le_refl _)
  refine ⟨.ref s1.heap.objs.size, upd H1 s1.heap.objs.size (.lst xs), I1.laid (t' := s1.toks) (fun b u e => Heap.get?_push_of_some _ e) (Nat.le_refl _) ?_, rfl, q _ hf⟩
  exact ⟨z, us, 0, r, Heap.get?_push_size _ rfl⟩
end

/-! ### what a def promises -/
/-- a def's promise: the bound arguments in the parameters' order, the heap, the wanted end, the wanted exception -/
abbrev Sp := List V → Hp → VK → XK → Prop
/-- how an exception lies behind a call (file 08 gives it): the callers' frames, abstract heap and state ahead of the call, the wish, the exception, the state -/
abbrev CXT := List Env → Hp → Shared → XK → Value → Shared → Prop

/-- the state at a call -/
structure Env0 (P : Program) (w : World) (K : PySem.W.Frag) (mg : Str → Option Value) (base : Heap) (A : Around) (outer : List Env) (s : Shared) (H : Hp) : Prop where
  frames : A.frames = some outer
  mod : Mod K mg base
  bs : ∀ b o, base.get? b = some o → s.heap.get? b = some o ∧ H b = none
  bsz : base.objs.size ≤ s.heap.objs.size
  funs : s.heap.FunFrames base outer
  frf : ∀ b ∈ frs outer, H b = none
  hok : HOk P w H s.heap
  bare : AllBare s.gens
/-- a call's end -/
def CE (outer : List Env) (P : Program) (w : World) (H : Hp) (s : Shared) (Q : VK) (u : Value) (s' : Shared) : Prop :=
  ∃ v H', s'.os = s.os ∧ AllBare s'.gens ∧ Un (frs outer) [] H H' s.heap s'.heap ∧ HOk P w H' s'.heap ∧ RelV v u ∧ Q v H'
def CR (CX : CXT) (outer : List Env) (P : Program) (w : World) (H : Hp) (s : Shared) (Q : VK) (E : XK) (r : Result) (s' : Shared) : Prop :=
  match r with
  | .ok (.ret u) => CE outer P w H s Q u s'
  | .ok _ => False
  | .error e => CX outer H s E e s'
structure FnOk (P : Program) (w : World) (K : PySem.W.Frag) (mg : Str → Option Value) (base : Heap) (CX : CXT) (k : Nat) (f : Addr) (fd : FuncData) (ps : List Str) (sp : Sp) : Prop where
  len : ∀ vs H Q E, sp vs H Q E → vs.length = ps.length
  run : ∀ (A : Around) (outer : List Env) (s : Shared) (H : Hp) (args : Args) (us : List Value) (vs : List V) (Q : VK) (E : XK), Room k A → Env0 P w K mg base A outer s H → BindsTo s fd args (ps.zip us) → Vals vs us → sp vs H Q E →
    codeAny (model P w) A (.call (.ref f) args) (CR CX outer P w H s Q E) s
/-- a weaker promise -/
theorem FnOk.imp {P : Program} {w : World} {K : PySem.W.Frag} {mg : Str → Option Value} {base : Heap} {CX : CXT} {k : Nat} {f : Addr} {fd : FuncData} {ps : List Str} {sp sp' : Sp} (F : FnOk P w K mg base CX k f fd ps sp)
    (h : ∀ vs H Q E, sp' vs H Q E → sp vs H Q E) : FnOk P w K mg base CX k f fd ps sp' :=
  ⟨fun vs H Q E q => F.len vs H Q E (h _ _ _ _ q), fun A outer s H args us vs Q E hr he hb hv hs => F.run A outer s H args us vs Q E hr he hb hv (h _ _ _ _ hs)⟩

section
variable {X : Cx} {pins : List (Addr × Obj)} {σ : St} {H : Hp} {s s' : Shared}
/-- from a body: what a callee wants -/
theorem Inv.env0 (I : Inv X pins σ H s) : Env0 X.prog X.w X.K X.mg X.base X.A X.stack s H :=
  ⟨I.ok.frames, I.ok.mod, I.bs, Nat.le_trans I.ok.bsz I.sz, I.stack, I.stkFree, I.hok, I.bare⟩
/-- behind a call -/
theorem Inv.after {Q : VK} {u : Value} (I : Inv X pins σ H s) (h : CE X.stack X.prog X.w H s Q u s') : EP X pins σ Q u s' := by
  obtain ⟨v, H', os, bare, un, hok, r, q⟩ := h
  obtain ⟨hh, g, d, t, os'⟩ := s'
  obtain rfl : os' = s.os := os
  exact ⟨v, H', I.call (h' := hh) (g' := g) (d' := d) (t' := t) (ch := []) un hok bare (fun b z => absurd z (by simp)), r, q⟩
end

/-! ### calls -/
/-- f(..): the written arguments, then the defaults dvs; E: what is wanted of an exception -/
def tCall (sp : Sp) (dvs : List V) (E : XK) (t : TA) : TE := fun σ H Q => t σ H fun vs H1 => sp (vs ++ dvs) H1 Q E
/-- how the parameters are bound: us the positional arguments, kw the keywords' values by name, ds the defaults that fill up -/
def Binds (K : PySem.W.Frag) (fd : FuncData) (ps : List Str) (ds : List Value) : Prop :=
  ∀ (s : Shared) (us : List Value), K.In s.heap → (us ++ ds).length = ps.length → BindsTo s fd ⟨us, []⟩ (ps.zip (us ++ ds))
/-- every parameter is given -/
theorem Binds.all {K : PySem.W.Frag} {fd : FuncData} {ps : List Str} (h : ∀ us : List Value, us.length = ps.length → bindArgs fd ⟨us, []⟩ = pure (ps.zip us)) : Binds K fd ps [] := fun s us _ hl => by
  rw [List.append_nil] at hl ⊢
  exact .of_eq (h us hl)

/-- an exception of a callee reaches what this body wants of exceptions -/
def Passes (CX : CXT) (X : Cx) (E : XK) : Prop := ∀ (pins : List (Addr × Obj)) (σ : St) (H : Hp) (s : Shared) (e : Value) (s' : Shared), Inv X pins σ H s → CX X.stack H s E e s' → X.xe e s'

section
variable {X : Cx} {CX : CXT} {k : Nat} {f C : Addr} {fd : FuncData} {ps : List Str} {sp : Sp} {dvs : List V} {ds : List Value} {E : XK} {x m : Str} {p pos apos : Pos} {e o : Expr} {es : List Expr} {ta : TE} {t : TA}

/-- the callee runs -/
theorem run_fn {pins : List (Addr × Obj)} {σ : St} {H : Hp} {s : Shared} {Q : VK} {us : List Value} {vs : List V} (F : FnOk X.prog X.w X.K X.mg X.base CX k f fd ps sp) (hr : Room k X.A) (hb : Binds X.K fd ps ds) (hd : Vals dvs ds) (hx : Passes CX X E)
    (I : Inv X pins σ H s) (r : Vals vs us) (h : sp (vs ++ dvs) H Q E) : wpAny (model X.prog X.w) X.A (call (.ref f) us) (EP X pins σ Q) X.xe s := by
  have r2 : Vals (vs ++ dvs) (us ++ ds) := r.append hd
  have hl : (us ++ ds).length = ps.length := by rw [← r2.length]; exact F.len _ _ _ _ h
  refine wpAny_call (codeAny_mono (F.run X.A X.stack s H ⟨us, []⟩ (us ++ ds) (vs ++ dvs) Q E hr I.env0 (hb s us I.kIn hl) r2 h) fun r s' hq => ?_)
  cases r with
  | error e => exact hx pins σ H s e s' I hq
  | ok fl =>
    cases fl with
    | ret u => exact I.after hq
    | next => exact False.elim hq
    | brk => exact False.elim hq
    | cont => exact False.elim hq

theorem pe_call (F : FnOk X.prog X.w X.K X.mg X.base CX k f fd ps sp) (hr : Room k X.A) (hg : Gl X x) (hm : X.mg x = some (.ref f)) (hk : PySem.W.keepIn X.K (.ref f) = true) (hb : Binds X.K fd ps ds) (hd : Vals dvs ds) (hx : Passes CX X E)
    (ha : PA X (e :: es) t) (hdb : (x == ("__debug__" : Str)) = false := by decide) (he : starEach (e :: es) X.env = (false, eval e X.env) :: starEach es X.env := by rfl) (hpl : (backTo pos (starEach es X.env)).any (·.1) = false := by rfl) :
    PE X (.Call (.Name x p) (e :: es) [] pos) (tCall sp dvs E t) := by
  intro pins s σ H Q I h
  refine wpAny_Call_Name_kw (ld_glob I hg hm ?_ hdb)
  refine PySem.W.callWith_K (h₀ := X.base) I.ok.mod.kin hk (thn (ha pos pins s σ H _ I h) fun us s1 ⟨vs, H1, I1, r, q⟩ => ⟨I1.kIn, ?_⟩) he hpl
  exact run_fn F hr hb hd hx I1 r q
/-- what a class must have to be made -/
structure Mk (K : PySem.W.Frag) (C f : Addr) : Prop where
  makes : PySem.W.makesIn K C = true
  init : PySem.W.findIn K (.ref C) "__init__" = some (some (.ref f))
  fn : PySem.W.isFn K (.ref f) = true
  kp : PySem.W.keepIn K (.ref C) = true

end

/-! ### keywords -/
section
variable {X : Cx} {CX : CXT} {k : Nat} {f C : Addr} {fd : FuncData} {ps ks : List Str} {sp : Sp} {E : XK} {x m : Str} {p pos apos kpos : Pos} {e o : Expr} {es : List Expr} {kws : List Keyword} {te ta : TE} {t tk : TA} {nm : Option Str}
/-- how a call with keywords binds: g puts the positional values us and the keywords' values ws (names ks) in the parameters' order, defaults among them -/
structure KBinds (K : PySem.W.Frag) (fd : FuncData) (ps ks : List Str) (g : List Value → List Value → List Value) (gV : List V → List V → List V) : Prop where
  to : ∀ (s : Shared) (us ws : List Value), K.In s.heap → (g us ws).length = ps.length → BindsTo s fd ⟨us, ks.zip ws⟩ (ps.zip (g us ws))
  rel : ∀ {vs : List V} {us : List Value} {zs : List V} {ws : List Value}, Vals vs us → Vals zs ws → Vals (gV vs zs) (g us ws)
variable {g : List Value → List Value → List Value} {gV : List V → List V → List V}
end

/-! ### a def's body keeps its promise -/
/-- names: the parameters first -/
structure FnScope (N P : List Str) (sc : Scope) : Prop where
  kind : sc.kind = .function
  co : sc.isCoroutine = false
  gen : sc.isGenerator = false
  nd : N.Nodup
  pre : N.take P.length = P
  par : ∀ x ∈ P, sc.names.lookup x = some .local ∨ sc.names.lookup x = some .cell
  nofree : ∀ y ∈ sc.names, y.2 ≠ .free

theorem bindL_out {kindOf : Str → Option NameKind} {x : Str} : ∀ {binds : List (Str × Value)} {m : Str → Option Value}, (∀ v, (x, v) ∉ binds) → bindL kindOf binds m x = m x
  | [], _, _ => rfl
  | (n, v) :: r, m, h => by
    unfold bindL
    rw [bindL_out fun w hw => h w (List.mem_cons_of_mem _ hw)]
    split
    · have : x ≠ n := by rintro rfl; exact h v List.mem_cons_self
      simp [this]
    · rfl
theorem bindC_out {kindOf : Str → Option NameKind} {x : Str} : ∀ {binds : List (Str × Value)} {m : Str → Option Value}, (∀ v, (x, v) ∉ binds) → bindC kindOf binds m x = m x
  | [], _, _ => rfl
  | (n, v) :: r, m, h => by
    unfold bindC
    rw [bindC_out fun w hw => h w (List.mem_cons_of_mem _ hw)]
    split
    · rfl
    · have : x ≠ n := by rintro rfl; exact h v List.mem_cons_self
      simp [this]
theorem bindL_get {kindOf : Str → Option NameKind} {x : Str} {v : Value} : ∀ {P : List Str} {vs : List Value} {i : Nat} {m : Str → Option Value}, P.Nodup → P[i]? = some x → vs[i]? = some v → kindOf x = some .local →
    bindL kindOf (P.zip vs) m x = some v
  | [], _, _, _, _, h, _, _ => by simp at h
  | _ :: _, [], _, _, _, _, h, _ => by simp at h
  | p :: P, w :: vs, 0, m, nd, h1, h2, hk => by
    simp at h1 h2; subst h1; subst h2
    show bindL kindOf ((p, w) :: P.zip vs) m p = _
    unfold bindL
    rw [bindL_out fun v hv => (List.nodup_cons.mp nd).1 (List.of_mem_zip hv).1, if_pos hk]
    simp
  | p :: P, w :: vs, i + 1, m, nd, h1, h2, hk => by
    show bindL kindOf ((p, w) :: P.zip vs) m x = _
    unfold bindL
    exact bindL_get (i := i) (List.nodup_cons.mp nd).2 (by simpa using h1) (by simpa using h2) hk
theorem bindC_get {kindOf : Str → Option NameKind} {x : Str} {v : Value} : ∀ {P : List Str} {vs : List Value} {i : Nat} {m : Str → Option Value}, P.Nodup → P[i]? = some x → vs[i]? = some v → kindOf x ≠ some .local →
    bindC kindOf (P.zip vs) m x = some v
  | [], _, _, _, _, h, _, _ => by simp at h
  | _ :: _, [], _, _, _, _, h, _ => by simp at h
  | p :: P, w :: vs, 0, m, nd, h1, h2, hk => by
    simp at h1 h2; subst h1; subst h2
    show bindC kindOf ((p, w) :: P.zip vs) m p = _
    unfold bindC
    rw [bindC_out fun v hv => (List.nodup_cons.mp nd).1 (List.of_mem_zip hv).1, if_neg hk]
    simp
  | p :: P, w :: vs, i + 1, m, nd, h1, h2, hk => by
    show bindC kindOf ((p, w) :: P.zip vs) m x = _
    unfold bindC
    exact bindC_get (i := i) (List.nodup_cons.mp nd).2 (by simpa using h1) (by simpa using h2) hk

/-- the names' values at the entry -/
def start (N : List Str) (vs : List V) : St := vs.map some ++ List.replicate (N.length - vs.length) none

/-- the context of a def's body, at its entry; an exception leaves the frame, then lies as CX says -/
def cxOf (CX : CXT) (P : Program) (w : World) (K : PySem.W.Frag) (mg : Str → Option Value) (base : Heap) (N : List Str) (qual : Str) (scope : Scope) (f : Addr) (cd : Value) (A : Around) (outer : List Env) (s : Shared) (H : Hp) (E : XK) : Cx where
  prog := P
  w := w
  K := K
  mg := mg
  base := base
  A := A.deeper (envOfC qual scope s.heap.objs.size f cd)
  N := N
  s₀ := s
  H₀ := H
  env := envOfC qual scope s.heap.objs.size f cd
  outer := outer
  stack := envOfC qual scope s.heap.objs.size f cd :: outer
  ex := []
  calm := true
  fn := fun _ => true
  pn := []
  xe := fun e s' => wpAny (model P w) (A.deeper (envOfC qual scope s.heap.objs.size f cd)) (leaving (envOfC qual scope s.heap.objs.size f cd) e) (fun _ s'' => CX outer H s E e s'') (fun e' s'' => CX outer H s E e' s'') s'

theorem cell_has {sc : Scope} {n : Nat} {x : Str} (h : sc.names.lookup x = some .cell) : ∃ c, (cellsFrom n sc.names []).lookup x = some c := by
  have q := PySem.W.cellsFrom_some sc.names n [] (.inl h)
  exact Option.isSome_iff_exists.mp q

theorem inv_start {CX : CXT} {P : Program} {w : World} {K : PySem.W.Frag} {mg : Str → Option Value} {base : Heap} {N ps : List Str} {qual : Str} {scope : Scope} {f : Addr} {cd : Value} {A : Around} {outer : List Env} {s s1 : Shared} {H : Hp} {E : XK} {us : List Value} {vs : List V}
    (S : FnScope N ps scope) (hd : A.handled = none) (e0 : Env0 P w K mg base A outer s H) (hl : vs.length = ps.length) (r : Vals vs us)
    (x : InCallC s s.heap.objs.size (bindL (envOfC qual scope s.heap.objs.size f cd).kindOf (ps.zip us) fun _ => none) (cellsFrom (s.heap.objs.size + 1) scope.names []) (bindC (envOfC qual scope s.heap.objs.size f cd).kindOf (ps.zip us) fun _ => none) s1) :
    Inv (cxOf CX P w K mg base N qual scope f cd A outer s H E) [] (start N vs) H s1 := by
  have hpl : ps.length ≤ N.length := by have := congrArg List.length S.pre; rw [List.length_take] at this; omega
  obtain ⟨h1, tk, rfl, hk⟩ := x.done
  have noA : ∀ b : Addr, b ∉ (cxOf CX P w K mg base N qual scope f cd A outer s H E).ex := fun b z => absurd (show b ∈ ([] : List Addr) from z) (by simp)
  refine ⟨⟨e0.mod, S.kind, rfl, rfl, Nat.le_refl _, fun y z c h1 h2 => ?_, fun y hy => ?_, fun y c _ h => ?_, fun _ => hd, Around.frames_deeper e0.frames, .inr ⟨rfl, rfl⟩, fun b z => absurd z (noA b), e0.bs, e0.bsz, fun b _ _ => noA b, fun b z => absurd z (noA b), e0.funs, e0.frf⟩,
    rfl, e0.bare, Un.kept hk, ⟨_, x.toInCall.ns, fun i y v h1 h2 h3 => ?_⟩, fun y c h => ⟨_, x.cell y c h⟩, e0.hok.fresh (Nat.le_refl _), fun y c h => ?_, fun p hp => absurd (show p ∈ ([] : List (Addr × Obj)) from hp) (by simp), e0.hok.kept hk, ?_⟩
  · exact name_of_addr x.apart (PySem.mem_of_lookup h1) (PySem.mem_of_lookup h2)
  · have hy : scope.names.lookup y = some .cell ∨ scope.names.lookup y = some .free := hy
    rcases hy with hy | hy
    · exact cell_has hy
    · exact absurd rfl (S.nofree _ (PySem.mem_of_lookup hy))
  · exact Nat.le_of_lt (x.above y c (PySem.mem_of_lookup h))
  · have hi : i < vs.length := by
      unfold start at h2
      by_cases hi : i < vs.length
      · exact hi
      · rw [List.getElem?_append_right (by simpa using hi)] at h2
        rw [List.getElem?_replicate] at h2
        split at h2 <;> cases h2
    have ha : vs[i]? = some v := by
      unfold start at h2
      rw [List.getElem?_append_left (by simpa using hi), List.getElem?_map] at h2
      cases e : vs[i]? with
      | none => rw [e] at h2; cases h2
      | some a => rw [e] at h2; cases h2; rfl
    obtain ⟨u, hu, rv⟩ := r.get ha
    have hp : ps[i]? = some y := by
      rw [← S.pre, List.getElem?_take_of_lt (by omega)]; exact h1
    have ndP : ps.Nodup := by rw [← S.pre]; exact S.nd.sublist (List.take_sublist _ _)
    refine ⟨u, rv, ?_⟩
    rcases S.par y (List.mem_of_getElem? hp) with k | k
    · exact .inl ⟨k, bindL_get ndP hp hu k⟩
    · obtain ⟨c, e⟩ := cell_has (n := s.heap.objs.size + 1) k
      refine .inr ⟨.inl k, c, e, ?_⟩
      have q := x.cell y c e
      rw [bindC_get ndP hp hu (by show scope.names.lookup y ≠ _; rw [k]; decide)] at q
      exact q
  · exact e0.hok.fresh (Nat.le_of_lt (x.above y c (PySem.mem_of_lookup h)))
  · unfold start
    show _ = N.length
    rw [List.length_append, List.length_map, List.length_replicate]
    omega

/-- THE RULE: a def (or a method) of the text, by its body. The body's reading t is chosen for each entry; it is run at the parameters' values -/
theorem fn_of {CX : CXT} {P : Program} {w : World} {K : PySem.W.Frag} {mg : Str → Option Value} {base : Heap} {k : Nat} {f : Addr} {name qual : Str} {params : Arguments} {body : List Stmt} {scope : Scope} {dV kV doc pm cdv ct oc : Value} {an od : Option Addr}
    {osl : Array (Option Value)} {N ps : List Str} {sp : Sp} (lk : K.lookup f = some ⟨oc, od, .func (PySem.W.fnOf name qual params body scope dV kV doc pm an cdv ct), osl⟩) (hcd : PySem.W.codeIn K cdv qual = true) (S : FnScope N ps scope)
    (len : ∀ vs H Q E, sp vs H Q E → vs.length = ps.length)
    (hbody : ∀ (A : Around) (outer : List Env) (s : Shared) (H : Hp) (vs : List V) (Q : VK) (E : XK), Room k (A.deeper (envOfC qual scope s.heap.objs.size f cdv)) → sp vs H Q E →
      ∃ t, PSs (cxOf CX P w K mg base N qual scope f cdv A outer s H E) body t ∧ t { nx := fun _ H' => Q .non H', rt := Q } (start N vs) H) :
    FnOk P w K mg base CX (k + 1) f (PySem.W.fnOf name qual params body scope dV kV doc pm an cdv ct) ps sp := by
  refine ⟨len, fun A outer s H args us vs Q E hr e0 hb r hsp => ?_⟩
  have hl := len _ _ _ _ hsp
  have KX : K.In s.heap := e0.mod.kin.keeps fun b o e => (e0.bs b o e).1
  have lim : s.heap.NoLimit := e0.mod.nolimit.keeps fun b o e => (e0.bs b o e).1
  have hkind : ∀ y ∈ ps.zip us, scope.names.lookup y.1 = some .local ∨ (scope.names.lookup y.1 = some .cell ∧ ((cellsFrom (s.heap.objs.size + 1) scope.names []).lookup y.1).isSome = true) := fun ⟨n, v⟩ hy => by
    rcases S.par n (List.of_mem_zip hy).1 with q | q
    · exact .inl q
    · exact .inr ⟨q, PySem.W.cellsFrom_some _ _ _ (.inl q)⟩
  refine codeAny_call_function hr.depth (KX _ _ lk) rfl S.co S.gen rfl (PySem.W.codeRec_of KX hcd) (hb _ _ _ _ ?_)
  refine wpAny_newFunctionEnv_cells S.kind hkind fun env he s1 x => ?_
  subst he
  refine ⟨lim.keeps x.toInCall.keep, codeAny_func ?_⟩
  obtain ⟨t, ht, hq⟩ := hbody A outer s H vs Q E (hr.deeper _) hsp
  have I : Inv (cxOf CX P w K mg base N qual scope f cdv A outer s H E) [] (start N vs) H s1 := inv_start S hr.hd e0 hl r x
  refine wpAny_mono (ht [] s1 (start N vs) H _ I hq) (fun fl s' hs => ?_) fun e s' hs => hs
  have fin : ∀ {σ' : St} {H' : Hp} {v : V} {u : Value}, Inv (cxOf CX P w K mg base N qual scope f cdv A outer s H E) [] σ' H' s' → RelV v u → Q v H' → CE outer P w H s Q u s' :=
    fun {σ' H' v u} J rv q => ⟨v, H', J.os, J.bare, J.base, J.hok, rv, q⟩
  cases fl with
  | ret u =>
    obtain ⟨v, σ', H', J, rv, q⟩ := hs
    exact fin J rv q
  | next =>
    obtain ⟨σ', H', J, q⟩ := hs
    exact fin (v := V.non) (u := Value.none) J rfl q
  | brk =>
    obtain ⟨_, _, _, q⟩ := hs
    exact False.elim q
  | cont =>
    obtain ⟨_, _, _, q⟩ := hs
    exact False.elim q
end L2

namespace L2
open PySem PySem.Spec PyProof.Rows
section
variable {X : Cx} {x : Str} {p pos : Pos} {e : Expr} {es : List Expr} {t : TA} {id T : String} {r : List V → Hp → VK → Prop}

def tCB (r : List V → Hp → VK → Prop) (t : TA) : TE := fun σ H Q => t σ H fun vs H1 => r vs H1 Q
/-- f(e, ..), f a built-in function -/
theorem pe_callB (hc : CallR X (.builtin id) r) (hg : Gl X x) (hm : X.mg x = none) (hv : bootBuiltins x = some (.builtin id)) (ha : PA X (e :: es) t) (hn : x ≠ "__name__" := by decide) (hdb : (x == ("__debug__" : Str)) = false := by decide)
    (he : starEach (e :: es) X.env = (false, eval e X.env) :: starEach es X.env := by rfl) (hpl : (backTo pos (starEach es X.env)).any (·.1) = false := by rfl) : PE X (.Call (.Name x p) (e :: es) [] pos) (tCB r t) := by
  intro pins s σ H Q I h
  refine wpAny_Call_Name_kw (ld_blt I hg hm hv ?_ hn hdb)
  exact PyProof.Rows.callWith_builtin1 (thn (ha pos pins s σ H _ I h) fun us s1 ⟨vs, H1, I1, r1, q1⟩ => hc pins s1 σ H1 vs us Q I1 r1 q1) he hpl
/-- T(e, ..), T a built-in type -/
theorem pe_callTy (hc : CallR X (.type T) r) (hg : Gl X x) (hm : X.mg x = none) (hv : bootBuiltins x = some (.type T)) (ha : PA X (e :: es) t) (hn : x ≠ "__name__" := by decide) (hdb : (x == ("__debug__" : Str)) = false := by decide)
    (he : starEach (e :: es) X.env = (false, eval e X.env) :: starEach es X.env := by rfl) (hpl : (backTo pos (starEach es X.env)).any (·.1) = false := by rfl) : PE X (.Call (.Name x p) (e :: es) [] pos) (tCB r t) := by
  intro pins s σ H Q I h
  refine wpAny_Call_Name_kw (ld_blt I hg hm hv ?_ hn hdb)
  exact PyProof.Rows.callWith_type1 (thn (ha pos pins s σ H _ I h) fun us s1 ⟨vs, H1, I1, r1, q1⟩ => hc pins s1 σ H1 vs us Q I1 r1 q1) he hpl
end
end L2

namespace HT
open PySem PyProof.Rows

section
open PySem.SeqAt
open PySem.AutoSeq1 (wpAny_loadPart')
open PySem.MeetsSeq PySem.MeetsSeq2 PySem.MeetsSeq3

end

section
variable {prog : Program} {w : World} {A : Around} {E : Value → Shared → Prop} {s : Shared}

/-- t + u, t not empty -/
theorem cat_tup {t b : Addr} {vs ws : List Value} {Q : Value → Shared → Prop} (ht : IsTup s.heap t vs.toArray) (hb : IsTup s.heap b ws.toArray) (hv : vs ≠ [])
    (h1 : ws = [] → Q (.ref t) s) (h2 : ws ≠ [] → Q (.ref s.heap.objs.size) { s with heap := s.heap.push { cls := .type "tuple", data := .seq (vs ++ ws).toArray } })
    (hsz : vs.length + ws.length ≤ sizeLine) : wpAny (model prog w) A (binaryOp .Add (.ref t) (.ref b)) Q E s := by
  obtain ⟨⟨cls, dd, data, sl⟩, ho, hc, n, hd⟩ := id ht
  obtain ⟨⟨cls2, dd2, data2, sl2⟩, ho2, hc2, n2, hd2⟩ := id hb
  simp only at hc hd hc2 hd2
  subst hc hd hc2 hd2
  have e : vs.toArray ++ ws.toArray = (vs ++ ws).toArray := by simp
  by_cases hw : ws = []
  · exact concat_meets ⟨_, ho, rfl⟩ ⟨_, ho2, rfl⟩ noFill_tuple_add seq_tuple_add PySem.F.slot_tuple_add PySem.F.entry_tuple_add (PySem.F.args_tuple_add_2 _ _)
      (tuple_addW1 t b vs.toArray ws.toArray n n2 dd dd2 sl sl2 (by simpa using hv) (by simp [hw])) ⟨ho, ho2, h1 hw⟩
  · refine concat_meets ⟨_, ho, rfl⟩ ⟨_, ho2, rfl⟩ noFill_tuple_add seq_tuple_add PySem.F.slot_tuple_add PySem.F.entry_tuple_add (PySem.F.args_tuple_add_2 _ _)
      (tuple_addW2 t b vs.toArray ws.toArray n n2 dd dd2 sl sl2 (by simpa using hv) (by simpa using hw) (by rw [List.size_toArray, List.size_toArray]; exact hsz)) ⟨ho, ho2, ?_⟩
    rw [e]
    exact h2 hw

/-! ### t[a:b], not the whole -/
/-- a slice's bound as a place among n (d where it is left out) -/
def sIx (n d : Nat) : Option Int → Nat
  | none => d
  | some v => if v < 0 then (v + (n : Int)).toNat else min v.toNat n
theorem sIx_nat (n d k : Nat) : sIx n d (some (k : Int)) = min k n := by
  show (if (k : Int) < 0 then ((k : Int) + (n : Int)).toNat else min (k : Int).toNat n) = min k n
  rw [if_neg (by omega), Int.toNat_natCast]
theorem sIx_le (n d : Nat) (hd : d ≤ n) (o : Option Int) : sIx n d o ≤ n := by
  cases o with
  | none => exact hd
  | some v =>
    show (if v < 0 then (v + (n : Int)).toNat else min v.toNat n) ≤ n
    by_cases hv : v < 0
    · rw [if_pos hv]; omega
    · rw [if_neg hv]; exact Nat.min_le_right _ _
theorem clip_eq (v : Int) (n d : Nat) : (if v < 0 then max (v + (n : Int)) 0 else min v (n : Int)) = ((sIx n d (some v) : Nat) : Int) := by
  show (if v < 0 then max (v + (n : Int)) 0 else min v (n : Int)) = (((if v < 0 then (v + (n : Int)).toNat else min v.toNat n) : Nat) : Int)
  by_cases hv : v < 0
  · simp only [if_pos hv]; omega
  · simp only [if_neg hv]; omega
theorem adjust_gen (lo hi : Option Int) (n : Nat) : Builtin.Slice.sliceAdjust lo hi 1 (n : Int) = (((sIx n 0 lo : Nat) : Int), ((sIx n n hi : Nat) : Int)) := by
  have h1 : ¬ ((1 : Int) < 0) := by omega
  unfold Builtin.Slice.sliceAdjust
  simp only [h1, if_false]
  refine Prod.ext ?_ ?_
  · cases lo with
    | none => rfl
    | some v => exact clip_eq v n 0
  · cases hi with
    | none => rfl
    | some v => exact clip_eq v n n
theorem places_gen (i j : Nat) : Builtin.Slice.slicePlaces (i : Int) (j : Int) 1 = j - i := by
  unfold Builtin.Slice.slicePlaces
  have h1 : (1 : Int) > 0 := by omega
  simp only [h1, if_true, Int.ediv_one]
  split <;> omega
theorem slicePart_ {v : Value} {o : Option Int} {Q : Option Int → Shared → Prop} (p : IsPart v o) (h : Q o s) : wpAny (model prog w) A (Builtin.Slice.slicePartIndex v) Q E s := by
  cases p with
  | none => exact slicePart_none h
  | int i t => exact slicePart_int h
theorem sliceApplied_gen {sl : Addr} {vl vu : Value} {lo hi : Option Int} {n : Nat} {Q : Int × Int × Nat → Shared → Prop} (hs : s.heap.IsSliceOf sl vl vu .none) (pl : IsPart vl lo) (pu : IsPart vu hi)
    (h : Q (((sIx n 0 lo : Nat) : Int), 1, sIx n n hi - sIx n 0 lo) s) : wpAny (model prog w) A (Builtin.Slice.sliceApplied (.ref sl) (pure (n : Int))) Q E s := by
  obtain ⟨os, hos, hcs, hds⟩ := id hs
  unfold Builtin.Slice.sliceApplied Builtin.Slice.sliceFields
  refine wpAny_bind (wpAny_bind (wpAny_field hos hds (x := vl) rfl (wpAny_bind (wpAny_field hos hds (x := vu) rfl (wpAny_bind (wpAny_field hos hds (x := .none) rfl (wpAny_pure ?_)))))))
  refine wpAny_bind (slicePart_none ?_)
  show wpAny _ _ (if ((1 : Int) == 0) = true then _ else _) _ _ s
  rw [if_neg (by decide)]
  refine wpAny_bind (slicePart_ pl (wpAny_bind (slicePart_ pu (wpAny_bind (wpAny_pure ?_)))))
  show wpAny _ _ (match Builtin.Slice.sliceAdjust lo hi 1 (n : Int) with | (lo, hi) => pure (lo, (1 : Int), Builtin.Slice.slicePlaces lo hi 1)) _ _ s
  rw [adjust_gen lo hi n]
  show wpAny _ _ (pure (((sIx n 0 lo : Nat) : Int), (1 : Int), Builtin.Slice.slicePlaces ((sIx n 0 lo : Nat) : Int) ((sIx n n hi : Nat) : Int) 1)) _ _ s
  rw [places_gen]
  exact wpAny_pure h
theorem pick_gen (xs : Array Value) (i k : Nat) : ((List.range k).filterMap fun (m : Nat) => xs[((i : Int) + (m : Int) * 1).toNat]?).toArray = ((xs.toList.drop i).take k).toArray := by
  have e : (fun (m : Nat) => xs[((i : Int) + (m : Int) * 1).toNat]?) = fun m => xs[i + m]? := by
    funext m
    have : ((i : Int) + (m : Int) * 1).toNat = i + m := by omega
    rw [this]
  rw [e]
  have := pick_run xs i k
  rw [List.filterMap_map] at this
  have e2 : ((fun x => xs[x]?) ∘ fun x => i + x) = fun m => xs[i + m]? := rfl
  rw [e2] at this
  rw [this]

theorem getItem_tuple_cut {t sl : Addr} {items : Array Value} {vl vu : Value} {lo hi : Option Int} {Q : Value → Shared → Prop} (ht : IsTup s.heap t items) (hs : s.heap.IsSliceOf sl vl vu .none) (pl : IsPart vl lo) (pu : IsPart vu hi)
    (hw : ¬ (sIx items.size 0 lo = 0 ∧ sIx items.size items.size hi = items.size))
    (h : Q (.ref s.heap.objs.size) { s with heap := s.heap.push { cls := .type "tuple", data := .seq ((items.toList.drop (sIx items.size 0 lo)).take (sIx items.size items.size hi - sIx items.size 0 lo)).toArray } })
    (hsz : items.size ≤ sizeLine) : wpAny (model prog w) A (getItem (.ref t) (.ref sl)) Q E s := by
  have htake : sizeOk (.seq ((items.toList.drop (sIx items.size 0 lo)).take (sIx items.size items.size hi - sIx items.size 0 lo)).toArray) := by
    show ((items.toList.drop (sIx items.size 0 lo)).take (sIx items.size items.size hi - sIx items.size 0 lo)).toArray.size ≤ sizeLine
    rw [List.size_toArray, List.length_take, List.length_drop, Array.length_toList]
    omega
  have hj : sIx items.size items.size hi ≤ items.size := sIx_le _ _ (Nat.le_refl _) hi
  obtain ⟨os, hos, hcs, hds⟩ := id hs
  have hTs : s.TypeIs (.ref sl) "slice" := ⟨os, hos, hcs⟩
  unfold getItem
  try with_reducible refine wpAny_holding ?_
  first | refine wpAny_bind (wpAny_pure ?_) | skip
  refine wpAny_bind (wpAny_sequenceKey ht.typeIs (by decide) ?_)
  refine wpAny_bind (wpAny_callSpecial?_slot (name := Str.ofString "__getitem__") ht.typeIs PyProof.Rows.slot_tuple_getitem
    (wpAny_call_entry PyProof.Rows.slot_tuple_getitem ht.typeIs entry_tuple_getitem ?_ (args_tuple_getitem _ _)))
  show wpAny _ _ (Builtin.Tuple.tupleItemsOf (.ref t) >>= _) _ _ s
  refine wpAny_bind (tupleItemsOf_ ht ?_)
  refine wpAny_bind (wpAny_typeOf hTs ?_)
  rw [if_pos (by decide)]
  refine wpAny_bind (sliceApplied_gen hs pl pu ?_)
  have hno : ¬ ((((sIx items.size 0 lo : Nat) : Int) == 0 && (1 : Int) == 1 && (sIx items.size items.size hi - sIx items.size 0 lo) == items.size) = true) := by
    intro q
    rw [Bool.and_eq_true, Bool.and_eq_true] at q
    have q1 : ((sIx items.size 0 lo : Nat) : Int) = 0 := eq_of_beq q.1.1
    have q2 : sIx items.size items.size hi - sIx items.size 0 lo = items.size := eq_of_beq q.2
    exact hw ⟨by omega, by omega⟩
  show wpAny _ _ (if (((sIx items.size 0 lo : Nat) : Int) == 0 && (1 : Int) == 1 && (sIx items.size items.size hi - sIx items.size 0 lo) == items.size) = true then _ else _) _ _ s
  rw [if_neg hno, pick_gen]
  first
    | exact wpAny_bind (m := Builtin.Tuple.tupleExact _) (wpAny_newObj_type (wpAny_pure ⟨_, rfl, wpAny_pure h⟩) htake)
    | exact wpAny_bind (m := Builtin.Tuple.tupleExact _) (wpAny_newObj_type (wpAny_bind (wpAny_pure (wpAny_pure ⟨_, rfl, wpAny_pure h⟩))) htake)
    | exact wpAny_bind (wpAny_bind (m := Builtin.Tuple.tupleExact _) (wpAny_newObj_type (wpAny_pure (wpAny_pure ⟨_, rfl, wpAny_pure h⟩)) htake))
    | exact wpAny_bind (wpAny_bind (m := Builtin.Tuple.tupleExact _) (wpAny_newObj_type (wpAny_pure ⟨_, rfl, wpAny_pure h⟩) htake))
end
end HT

namespace L2
open PySem PySem.Spec PyProof.Rows

/-! ### the parts of a slice -/
abbrev TO := St → Hp → (Option Int → Hp → Prop) → Prop
/-- a slice's part (left out, or an int) -/
def PO (X : Cx) (e : Option Expr) (t : TO) : Prop :=
  ∀ (pins : List (Addr × Obj)) (s : Shared) (σ : St) (H : Hp) (Q : Option Int → Hp → Prop), Inv X pins σ H s → t σ H Q →
    wpAny (model X.prog X.w) X.A (evalPart e X.env) (fun u s' => ∃ o H', Inv X pins σ H' s' ∧ IsPart u o ∧ Q o H') X.xe s
def tNoPart : TO := fun _ H Q => Q none H
def tPart (t : TE) : TO := fun σ H Q => t σ H fun x H1 => ∃ i, x = .int i ∧ Q (some i) H1

section
variable {X : Cx} {e : Expr} {te : TE} {lo hi : Option Expr} {tl th : TO} {pos p2 : Pos}

theorem po_none : PO X none tNoPart := by
  intro pins s σ H Q I h
  rw [evalPart_none]
  exact wpAny_pure ⟨none, H, I, .none, h⟩
theorem po_some (h : PE X e te) : PO X (some e) (tPart te) := by
  intro pins s σ H Q I hw
  rw [evalPart_some]
  refine thn (h pins s σ H _ I hw) fun u s1 ⟨x, H1, I1, r1, q1⟩ => ?_
  obtain ⟨i, rfl, q⟩ := q1
  obtain ⟨t, rfl⟩ := r1
  exact ⟨some i, H1, I1, .int i t, q⟩

/-- what a slice of a value is, by values: the slice object stands at sl -/
def SlR (X : Cx) (r : V → Option Int → Option Int → Hp → VK → Prop) : Prop :=
  ∀ (pins : List (Addr × Obj)) (s : Shared) (σ : St) (H : Hp) (x : V) (v vl vu : Value) (lo hi : Option Int) (sl : Addr) (Q : VK), Inv X pins σ H s → RelV x v → s.heap.IsSliceOf sl vl vu .none → IsPart vl lo → IsPart vu hi → r x lo hi H Q →
    ∃ T id, typeLookup (.type T) "__getitem__" = pure (some (.builtin id)) ∧ s.TypeIs v T ∧ wpAny (model X.prog X.w) X.A (getItem v (.ref sl)) (EP X pins σ Q) X.xe s
def tSl (r : V → Option Int → Option Int → Hp → VK → Prop) (te : TE) (tl th : TO) : TE := fun σ H Q => te σ H fun x H1 => tl σ H1 fun l H2 => th σ H2 fun u H3 => r x l u H3 Q
/-- a[lo:hi], any a -/
theorem pe_slice {r : V → Option Int → Option Int → Hp → VK → Prop} (hr : SlR X r) (he : PE X e te) (hl : PO X lo tl) (hu : PO X hi th) : PE X (.Subscript e (.Slice lo hi none p2) pos) (tSl r te tl th) := by
  intro pins s σ H Q I h
  refine Subscript_ (thn (he pins s σ H _ I h) fun v s1 ⟨x, H1, I1, r1, q1⟩ => ?_)
  refine wpAny_Slice (thn (hl pins s1 σ H1 _ I1 q1) fun vl s2 ⟨l, H2, I2, pl, q2⟩ => thn (hu pins s2 σ H2 _ I2 q2) fun vu s3 ⟨u, H3, I3, pu, q3⟩ => ?_)
  rw [evalPart_none]
  refine wpAny_pure ?_
  have I4 : Inv X pins σ H3 { s3 with heap := s3.heap.push { cls := .type "slice", data := .fields #[vl, vu, .none] } } := I3.kept (t' := s3.toks) fun b ob q => Heap.get?_push_of_some _ q
  obtain ⟨T, id, hT, ht, hg⟩ := hr pins { s3 with heap := s3.heap.push { cls := .type "slice", data := .fields #[vl, vu, .none] } } σ H3 x v vl vu l u s3.heap.objs.size Q I4 r1 (Heap.IsSliceOf.new ..) pl pu q3
  show wpAny (model X.prog X.w) X.A (subscriptTail e (.Slice lo hi none p2) v (.ref s3.heap.objs.size)) (EP X pins σ Q) X.xe { s3 with heap := s3.heap.push { cls := .type "slice", data := .fields #[vl, vu, .none] } }
  exact tail_any (ops := [.ref s3.heap.objs.size, v]) ht hT hg (by with_unfolding_all rfl)

/-- the items of xs[lo:hi] -/
def cutV (xs : List V) (lo hi : Option Int) : List V := (xs.drop (HT.sIx xs.length 0 lo)).take (HT.sIx xs.length xs.length hi - HT.sIx xs.length 0 lo)
theorem cutV_length (xs : List V) (lo hi : Option Int) : (cutV xs lo hi).length ≤ xs.length := by
  unfold cutV
  rw [List.length_take, List.length_drop]
  omega
/-- t[lo:hi], not the whole of it (the whole would be t itself) -/
def rSlT (K : PySem.W.Frag) : V → Option Int → Option Int → Hp → VK → Prop := fun x lo hi H Q => ∃ a xs, x = .ref a ∧ SqT K H a xs ∧
  ¬ (HT.sIx xs.length 0 lo = 0 ∧ HT.sIx xs.length xs.length hi = xs.length) ∧ ∀ p, H p = none → Q (.ref p) (upd H p (.tup (cutV xs lo hi)))
theorem sl_tup : SlR X (rSlT X.K) := by
  intro pins s σ H x v vl vu lo hi sl Q I rx hs pl pu h
  obtain ⟨a, xs, rfl, hx, hw, q⟩ := h
  cases rx
  obtain ⟨its, r, ht, hz⟩ := I.tuple hx
  have hlen : its.toArray.size = xs.length := by rw [List.size_toArray]; exact r.length.symm
  refine ⟨"tuple", _, PyProof.Rows.slot_tuple_getitem.lookup, ht.typeIs, ?_⟩
  refine HT.getItem_tuple_cut ht hs pl pu (by rw [hlen]; exact hw) ?_ (by rw [hlen]; exact hz)
  rw [hlen]
  refine ⟨.ref s.heap.objs.size, _, I.laid (t' := s.toks) (o := .tup (cutV xs lo hi)) (fun b ob q => Heap.get?_push_of_some _ q) (Nat.le_refl _) ?_, rfl, q _ (I.hok.fresh (Nat.le_refl _))⟩
  exact ⟨Nat.le_trans (cutV_length xs lo hi) hz, _, (r.drop (HT.sIx xs.length 0 lo)).take (HT.sIx xs.length xs.length hi - HT.sIx xs.length 0 lo), IsTupD.new _ _⟩

/-! ### t < u, t + u -/
/-- t + u, t not empty: u empty gives t itself -/
def rCatT (K : PySem.W.Frag) : R2 := fun x y H Q => ∃ a b xs ys, x = .ref a ∧ y = .ref b ∧ SqT K H a xs ∧ SqT K H b ys ∧ xs ≠ [] ∧ xs.length + ys.length ≤ sizeLine ∧
  (ys = [] → Q (.ref a) H) ∧ (ys ≠ [] → ∀ p, H p = none → Q (.ref p) (upd H p (.tup (xs ++ ys))))
theorem Vals.nil_iff {xs : List V} {us : List Value} (r : Vals xs us) : us = [] ↔ xs = [] := by
  cases r with
  | nil => simp
  | cons _ _ => simp
theorem op_catT : OpR X (binaryOp .Add) (rCatT X.K) := by
  intro pins s σ H x y v u Q I rx ry h
  obtain ⟨a, b, xs, ys, rfl, rfl, ha, hb, hx, hz, q1, q2⟩ := h
  cases rx
  cases ry
  obtain ⟨its, r1, p1, _⟩ := I.tuple ha
  obtain ⟨its2, r2, p2, _⟩ := I.tuple hb
  refine HT.cat_tup p1 p2 (fun z => hx (r1.nil_iff.mp z)) (fun z => ⟨.ref a, H, I, rfl, q1 (r2.nil_iff.mp z)⟩) (fun z => ?_) (by rw [← r1.length, ← r2.length]; exact hz)
  refine ⟨.ref s.heap.objs.size, _, I.laid (t' := s.toks) (o := .tup (xs ++ ys)) (fun b ob q => Heap.get?_push_of_some _ q) (Nat.le_refl _) ?_, rfl, q2 (fun w => z (r2.nil_iff.mpr w)) _ (I.hok.fresh (Nat.le_refl _))⟩
  exact ⟨by rw [List.length_append]; exact hz, _, r1.append r2, IsTupD.new _ _⟩
end
end L2

namespace L2
open PySem PySem.Spec PyProof.Rows

/-! ### places -/
/-- the place that an index of any sign means -/
def ixN (n : Nat) (i : Int) : Option Nat := if 0 ≤ i then (if i < n then some i.toNat else none) else if -(n : Int) ≤ i then some (i + n).toNat else none
def atI {α : Type} (xs : List α) (i : Int) : Option α := (ixN xs.length i).bind fun j => xs[j]?
theorem ixN_seq {n : Nat} {i : Int} {j : Nat} (h : ixN n i = some j) : seqIndex? i n = some j ∧ j < n ∧ -(n : Int) ≤ i ∧ i < n := by
  unfold ixN at h
  by_cases h0 : 0 ≤ i
  · rw [if_pos h0] at h
    by_cases h1 : i < n
    · rw [if_pos h1] at h
      have e : i.toNat = j := Option.some.inj h
      exact ⟨by rw [seqIndex_of h0 h1, e], by omega, by omega, h1⟩
    · rw [if_neg h1] at h; cases h
  · rw [if_neg h0] at h
    by_cases h1 : -(n : Int) ≤ i
    · rw [if_pos h1] at h
      have e : (i + n).toNat = j := Option.some.inj h
      exact ⟨by rw [seqIndex_neg (by omega) h1, e], by omega, h1, by omega⟩
    · rw [if_neg h1] at h; cases h
theorem atI_get {α : Type} {xs : List α} {i : Int} {v : α} (h : atI xs i = some v) : ∃ j, seqIndex? i xs.length = some j ∧ xs[j]? = some v ∧ j < xs.length ∧ -(xs.length : Int) ≤ i ∧ i < xs.length := by
  unfold atI at h
  cases e : ixN xs.length i with
  | none => rw [e] at h; cases h
  | some j =>
    rw [e] at h
    obtain ⟨h1, h2, h3, h4⟩ := ixN_seq e
    exact ⟨j, h1, h, h2, h3, h4⟩
theorem atI_nat {α : Type} {xs : List α} {j : Nat} {v : α} (h : xs[j]? = some v) : atI xs (j : Int) = some v := by
  have hj : j < xs.length := (List.getElem?_eq_some_iff.mp h).1
  have e : ixN xs.length (j : Int) = some j := by
    unfold ixN
    rw [if_pos (by omega), if_pos (by omega)]; simp
  unfold atI; rw [e]; exact h
/-! ### what may be subscripted -/
/-- what stands as an index of a plain subscript -/
def PlainIx (b : Expr) : Prop := ∀ o i, subscripted b false o i = operate [o, i] (getItem o i)
/-- a subscript by values -/
def IxR (X : Cx) (r : R2) : Prop :=
  ∀ (value slice : Expr) (pins : List (Addr × Obj)) (s : Shared) (σ : St) (H : Hp) (x y : V) (v u : Value) (Q : VK), Inv X pins σ H s → RelV x v → RelV y u → r x y H Q →
    subscripted slice false v u = operate [v, u] (getItem v u) → wpAny (model X.prog X.w) X.A (subscriptTail value slice v u) (EP X pins σ Q) X.xe s
/-- a call of a builtin's method by values: the receiver, the arguments -/
def MtR (X : Cx) (id : String) (r : V → List V → Hp → VK → Prop) : Prop :=
  ∀ (pins : List (Addr × Obj)) (s : Shared) (σ : St) (H : Hp) (x : V) (xs : List V) (v : Value) (us : List Value) (Q : VK), Inv X pins σ H s → RelV x v → Vals xs us → r x xs H Q →
    wpAny (model X.prog X.w) X.A (call (.builtin id) (v :: us)) (EP X pins σ Q) X.xe s
section
variable {X : Cx} {a b : Expr} {ta tb : TE} {pos : Pos}
/-- a[b] -/
theorem pe_ix {r : R2} (hr : IxR X r) (ha : PE X a ta) (hb : PE X b tb) (hs : PlainIx b) : PE X (.Subscript a b pos) (tOp r ta tb) := by
  intro pins s σ H Q I h
  exact Subscript_ (binT ha hb I h fun v u s2 x y H2 I2 rx ry q => hr a b pins s2 σ H2 x y v u Q I2 rx ry q (hs _ _))

def rIxL (K : PySem.W.Frag) : R2 := fun x y H Q => ∃ p xs i v, x = .ref p ∧ y = .int i ∧ SqL K H p xs ∧ atI xs i = some v ∧ Q v H
def rIxT (K : PySem.W.Frag) : R2 := fun x y H Q => ∃ p xs i v, x = .ref p ∧ y = .int i ∧ SqT K H p xs ∧ atI xs i = some v ∧ Q v H
theorem ix_list : IxR X (rIxL X.K) := by
  intro value slice pins s σ H x y v u Q I rx ry h hs
  obtain ⟨p, xs, i, z, rfl, rfl, hq, he, q⟩ := h
  cases rx
  obtain ⟨t, rfl⟩ := ry
  obtain ⟨its, r, pl, hz⟩ := I.list hq
  obtain ⟨j, h1, h2, h3, h4, h5⟩ := atI_get he
  obtain ⟨w, ew, rw'⟩ := r.get h2
  have hl := r.length
  have hn := line63
  have fin : EP X pins σ Q w s := ⟨z, H, I, rw', q⟩
  by_cases h0 : 0 ≤ i
  · have hj : i.toNat = j := by
      rw [seqIndex_of h0 h5] at h1
      exact Option.some.inj h1
    exact item_listR pl.isList h0 (by omega) (by rw [hj]; simpa using ew) fin hs
  · have hj : (i + (its.toArray.size : Int)).toNat = j := by
      rw [seqIndex_neg (by omega) h4] at h1
      rw [List.size_toArray, ← hl]
      exact Option.some.inj h1
    exact subscriptTail_builtinR (x := w) pl.isList.typeIs slot_list_getitem.lookup
      (wpAny_getItem_list_neg (Q := fun r s' => r = w ∧ EP X pins σ Q r s') pl.isList (by omega) (by rw [List.size_toArray] <;> omega) (by omega) (by rw [hj]; simpa using ew) ⟨rfl, fin⟩) hs
theorem ix_tup : IxR X (rIxT X.K) := by
  intro value slice pins s σ H x y v u Q I rx ry h hs
  obtain ⟨p, xs, i, z, rfl, rfl, hq, he, q⟩ := h
  cases rx
  obtain ⟨t, rfl⟩ := ry
  obtain ⟨its, r, pl, hz⟩ := I.tuple hq
  obtain ⟨j, h1, h2, h3, h4, h5⟩ := atI_get he
  obtain ⟨w, ew, rw'⟩ := r.get h2
  have hl := r.length
  have hn := line63
  have fin : EP X pins σ Q w s := ⟨z, H, I, rw', q⟩
  exact subscriptTail_builtinR (x := w) pl.typeIs slot_tuple_getitem.lookup
    (getItem_tuple (j := j) (Q := fun r s' => r = w ∧ EP X pins σ Q r s') pl (by omega) (by omega) (by rw [List.size_toArray, ← hl]; exact h1) (by simpa using ew) ⟨rfl, fin⟩) hs
/-! ### xs[i] = v, any sign -/
/-- the list's object behind a store -/
theorem mapSeq_set (its : List Value) (n j : Nat) (u : Value) : Obj.mapSeq (·.setIfInBounds j u) { cls := .type "list", data := .seq its.toArray n } = { cls := .type "list", data := .seq (its.set j u).toArray n } := by
  simp [Obj.mapSeq]
theorem Inv.lst {pins : List (Addr × Obj)} {σ : St} {H : Hp} {s : Shared} {p : Addr} {xs : List V} (I : Inv X pins σ H s) (h : H p = some (.lst xs)) :
    ∃ (its : List Value) (n : Nat), Vals xs its ∧ s.heap.get? p = some { cls := .type "list", data := .seq its.toArray n } ∧ xs.length ≤ sizeLine := by
  obtain ⟨z, its, n, r, e⟩ := I.hok p _ h
  exact ⟨its, n, r, e, z⟩
/-- the list at p is written by an update of its object -/
theorem Inv.lstUpd {pins : List (Addr × Obj)} {σ : St} {H : Hp} {s : Shared} {p : Addr} {xs ys : List V} {its its' : List Value} {n n' : Nat} {f : Obj → Obj} (I : Inv X pins σ H s) (h : H p = some (.lst xs))
    (ho : s.heap.get? p = some { cls := .type "list", data := .seq its.toArray n }) (hf : f { cls := .type "list", data := .seq its.toArray n } = { cls := .type "list", data := .seq its'.toArray n' }) (r : Vals ys its') (hz : ys.length ≤ sizeLine) (t : Nat) :
    Inv X pins σ (upd H p (.lst ys)) { s with heap := s.heap.update p f, toks := t } := by
  have e : (s.heap.update p f).get? p = some { cls := .type "list", data := .seq its'.toArray n' } := by
    rw [Heap.get?_update_self f ho (by rw [hf] <;> rfl), hf]
  refine I.write (x := p) (e := p) (by rw [h]; trivial) (.inl rfl) (fun b u hb q => (Heap.get?_update_other _ _ (Ne.symm hb)).trans q) ⟨_, e⟩ ?_
  exact ⟨hz, its', n', r, e⟩
def rSetL : V → V → V → Hp → (Hp → Prop) → Prop := fun o i v H Q => ∃ p xs k j, o = .ref p ∧ i = .int k ∧ H p = some (.lst xs) ∧ ixN xs.length k = some j ∧ Q (upd H p (.lst (xs.set j v)))
theorem set_list : PSet X rSetL := by
  intro pins s σ H o i v ov iv u Q I ro ri rv h
  obtain ⟨p, xs, k, j, rfl, rfl, hp, hj, q⟩ := h
  cases ro
  obtain ⟨t, rfl⟩ := ri
  obtain ⟨its, n, r, ho, hz⟩ := I.lst hp
  obtain ⟨h1, h2, h3, h4⟩ := ixN_seq hj
  have hl := r.length
  have hn := line63
  have I' : Inv X pins σ (upd H p (.lst (xs.set j v))) { s with heap := s.heap.update p (Obj.mapSeq (·.setIfInBounds j u)) } :=
    I.lstUpd hp ho (mapSeq_set its n j u) (r.set rv j) (by rw [List.length_set]; exact hz) s.toks
  by_cases h0 : 0 ≤ k
  · have hk : k.toNat = j := by
      rw [seqIndex_of h0 h4] at h1
      exact Option.some.inj h1
    exact PySem.W.ki_setAt ho h0 (by omega) (by rw [List.size_toArray, ← hl]; exact h4) (by rw [hk]; exact ⟨_, I', q⟩)
  · have hk : (k + (its.toArray.size : Int)).toNat = j := by
      rw [seqIndex_neg (by omega) h3] at h1
      rw [List.size_toArray, ← hl]
      exact Option.some.inj h1
    exact PySem.W.ki_setBack ho (by omega) (by rw [List.size_toArray, ← hl]; exact h3) (by omega) (by rw [hk]; exact ⟨_, I', q⟩)

/-! ### slices -/
theorem slice_bounds (lo hi : Option Int) (n : Nat) : (sliceBounds lo hi none n).1 = ((HT.sIx n 0 lo : Nat) : Int) ∧ (sliceBounds lo hi none n).2.1 = ((HT.sIx n n hi : Nat) : Int) ∧ (sliceBounds lo hi none n).2.2 = 1 := by
  refine ⟨?_, ?_, rfl⟩
  · cases lo with
    | none => simp [sliceBounds, HT.sIx]
    | some i =>
      simp only [sliceBounds, HT.sIx, Option.getD_none, show (1 : Int) > 0 by decide, if_true]
      by_cases h : i < 0
      · simp only [h, if_true] <;> omega
      · simp only [h, if_false] <;> omega
  · cases hi with
    | none => simp [sliceBounds, HT.sIx]
    | some i =>
      simp only [sliceBounds, HT.sIx, Option.getD_none, show (1 : Int) > 0 by decide, if_true]
      by_cases h : i < 0
      · simp only [h, if_true] <;> omega
      · simp only [h, if_false] <;> omega
theorem slicePick_cut (its : List Value) (lo hi : Option Int) : slicePick its.toArray lo hi none = ((its.drop (HT.sIx its.length 0 lo)).take (HT.sIx its.length its.length hi - HT.sIx its.length 0 lo)).toArray := by
  obtain ⟨h1, h2, h3⟩ := slice_bounds lo hi its.toArray.size
  unfold slicePick
  rw [h1, h2, h3]
  simp only [sliceRange_one, pick_run, List.size_toArray] <;> rfl
/-- xs[lo:hi] of a list: a new list -/
def rSlL (K : PySem.W.Frag) : V → Option Int → Option Int → Hp → VK → Prop := fun x lo hi H Q => ∃ a xs, x = .ref a ∧ SqL K H a xs ∧ ∀ p, H p = none → Q (.ref p) (upd H p (.lst (cutV xs lo hi)))
theorem sl_list : SlR X (rSlL X.K) := by
  intro pins s σ H x v vl vu lo hi sl Q I rx hs pl pu h
  obtain ⟨a, xs, rfl, hx, q⟩ := h
  cases rx
  obtain ⟨its, r, ht, hz⟩ := I.list hx
  have hlen := r.length
  refine ⟨"list", _, slot_list_getitem.lookup, ht.isList.typeIs, ?_⟩
  refine wpAny_getItem_list_slice ht.isList hs pl pu .none (by simp) ?_ (by rw [List.size_toArray] <;> omega)
  rw [slicePick_cut, ← hlen]
  refine ⟨.ref s.heap.objs.size, _, I.laid (t' := s.toks) (o := .lst (cutV xs lo hi)) (fun b ob q => Heap.get?_push_of_some _ q) (Nat.le_refl _) ?_, rfl, q _ (I.hok.fresh (Nat.le_refl _))⟩
  exact ⟨Nat.le_trans (cutV_length xs lo hi) hz, _, 0, (r.drop (HT.sIx xs.length 0 lo)).take (HT.sIx xs.length xs.length hi - HT.sIx xs.length 0 lo), Heap.get?_push_size _ rfl⟩

/-! ### in, not in: flat items -/
/-! ### len, list(x), tuple(x) of any list or tuple that is read -/
theorem call_len_seq : CallR X (.builtin "len") (fun xs H Q => ∃ p ys, xs = [.ref p] ∧ (SqL X.K H p ys ∨ SqT X.K H p ys) ∧ Q (.int ys.length) H) := by
  intro pins s σ H xs us Q I r h
  obtain ⟨p, ys, rfl, hq, q⟩ := h
  obtain ⟨u, rfl, rx⟩ := vals1 r
  cases rx
  have hn := line63
  rcases hq with hq | hq
  · obtain ⟨its, r', pl, hz⟩ := I.list hq
    have hlen := r'.length
    exact Calls.call_len_list pl.isList (by simp only [List.size_toArray] <;> omega) ⟨.int ys.length, H, I.tok _, ⟨s.toks + 1, by rw [List.size_toArray, hlen]⟩, q⟩
  · obtain ⟨its, r', pl, hz⟩ := I.tuple hq
    have hlen := r'.length
    exact len_tuple pl (by simp only [List.size_toArray] <;> omega) ⟨.int ys.length, H, I.tok _, ⟨s.toks + 1, by rw [List.size_toArray, hlen]⟩, q⟩
theorem call_tuple_of : CallR X (.type "tuple") (fun xs H Q => ∃ p ys, xs = [.ref p] ∧ ((SqL X.K H p ys ∧ ∀ l, H l = none → Q (.ref l) (upd H l (.tup ys))) ∨ (SqT X.K H p ys ∧ Q (.ref p) H))) := by
  intro pins s σ H xs us Q I r h
  obtain ⟨p, ys, rfl, h⟩ := h
  obtain ⟨u, rfl, rx⟩ := vals1 r
  cases rx
  rcases h with ⟨hq, q⟩ | ⟨hq, q⟩
  · obtain ⟨its, r', pl, hz⟩ := I.list hq
    have hlen := r'.length
    refine call_tuple_list pl.isList (fun h' kp => ?_) (by simp only [List.size_toArray] <;> omega)
    have I1 : Inv X pins σ H { s with heap := h' } := I.kept (t' := s.toks) kp
    have I2 : Inv X pins σ (upd H h'.objs.size (.tup ys)) { s with heap := h'.push { cls := .type "tuple", data := .seq its.toArray } } :=
      I1.laid (t' := s.toks) (fun b o e => Heap.get?_push_of_some _ e) (Nat.le_refl _) (show ObjOk X.prog X.w _ _ _ (.tup ys) from ⟨hz, its, r', IsTupD.new _ _⟩)
    exact ⟨.ref h'.objs.size, _, I2, rfl, q _ (I1.hok.fresh (Nat.le_refl _))⟩
  · obtain ⟨its, r', pl, hz⟩ := I.tuple hq
    exact call_tuple_same pl ⟨.ref p, H, I, rfl, q⟩

/-! ### the call of a builtin's method: o.m(..) -/
/-- the value is of that builtin type -/
def tyV (K : PySem.W.Frag) (T : String) (x : V) (H : Hp) : Prop := match x with
  | .str _ => T = "str"
  | .int _ => T = "int"
  | .ref p => (T = "list" ∧ ∃ xs, SqL K H p xs) ∨ (T = "tuple" ∧ ∃ o, K.lookup p = some o ∧ o.cls = .type "tuple" ∧ o.dict = none) ∨
      (T = "dict" ∧ ((∃ kvs, H p = some (.dK kvs)) ∨ ∃ kvs, H p = some (.dT kvs))) ∨ (T = "set" ∧ ∃ S n, H p = some (.set S n))
  | _ => False
theorem tyV_is {pins : List (Addr × Obj)} {σ : St} {H : Hp} {s : Shared} {T : String} {x : V} {v : Value} (I : Inv X pins σ H s) (r : RelV x v) (ty : tyV X.K T x H) :
    s.TypeIs v T ∧ ∀ a, v = .ref a → ∃ ob, s.heap.get? a = some ob ∧ ob.dict = none := by
  cases x with
  | str z =>
    obtain ⟨t, rfl⟩ := r
    cases (show T = "str" from ty)
    exact ⟨typeIs_str s z t, fun _ e => nomatch e⟩
  | int i =>
    obtain ⟨t, rfl⟩ := r
    cases (show T = "int" from ty)
    exact ⟨typeIs_int s i t, fun _ e => nomatch e⟩
  | ref p =>
    cases r
    rcases ty with ⟨rfl, xs, hq⟩ | ⟨rfl, o, hk, hc, hd⟩ | ⟨rfl, hk⟩ | ⟨rfl, S, n, hk⟩
    · obtain ⟨its, _, pl, _⟩ := I.list hq
      refine ⟨pl.isList.typeIs, fun a e => ?_⟩
      cases e
      obtain ⟨o, n, e, c, hd, _⟩ := pl
      exact ⟨o, e, hd⟩
    · refine ⟨⟨o, I.kIn p o hk, hc⟩, fun a e => ?_⟩
      cases e
      exact ⟨o, I.kIn _ o hk, hd⟩
    · have z : ∃ o, s.heap.get? p = some o ∧ o.ExactDict := by
        rcases hk with ⟨kvs, hk⟩ | ⟨kvs, hk⟩
        · obtain ⟨_, _, _, _, o, _, _, e, ex, _⟩ := I.hok p _ hk
          exact ⟨o, e, ex⟩
        · obtain ⟨_, _, _, _, o, _, _, e, ex, _⟩ := I.hok p _ hk
          exact ⟨o, e, ex⟩
      obtain ⟨o, e, ex⟩ := z
      refine ⟨⟨o, e, ex.1⟩, fun a e2 => ?_⟩
      cases e2
      exact ⟨o, e, ex.2.1⟩
    · obtain ⟨o, _, _, _, e, ex, _⟩ := I.hok p _ hk
      refine ⟨⟨o, e, ex.1⟩, fun a e2 => ?_⟩
      cases e2
      exact ⟨o, e, ex.2.1⟩
  | _ => exact False.elim ty
def tBM (K : PySem.W.Frag) (T : String) (r : V → List V → Hp → VK → Prop) (to : TE) (t : TA) : TE := fun σ H Q => to σ H fun x H1 => tyV K T x H1 ∧ t σ H1 fun xs H2 => r x xs H2 Q
variable {o e : Expr} {es : List Expr} {to : TE} {t : TA} {name : Str} {apos cpos : Pos} {T id : String} {r : V → List V → Hp → VK → Prop}
theorem pe_bm (pa : PlainAttrs T) (slot : Slot T name id) (hty : typeOf (.builtin id) = pure (.type "method_descriptor")) (hm : MtR X id r) (ho : PE X o to) (ha : PA X (e :: es) t)
    (hbase : attributeBase o name X.env (eval o X.env) = eval o X.env := by rfl)
    (hfew : ((backTo cpos (starEach (e :: es) X.env)).all (fun x => !x.1) && (backToKw cpos (keywordEach [] X.env)).all (fun x => x.1.isSome)
      && decide ((e :: es).length + ([] : List Keyword).length + (if ([] : List Keyword).isEmpty then 0 else 1) < 30)) = true := by rfl)
    (hline : (apos.endLine == cpos.line) = true := by rfl) (hs : starEach (e :: es) X.env = (false, eval e X.env) :: starEach es X.env := by rfl) (hplain : (backTo cpos (starEach es X.env)).any (·.1) = false := by rfl) :
    PE X (.Call (.Attribute o name apos) (e :: es) [] cpos) (tBM X.K T r to t) := by
  intro pins s σ H Q I h
  refine wpAny_Call_method_late hbase hfew hline rfl (thn (ho pins s σ H _ I h) fun v s1 ⟨x, H1, I1, r1, ty, q1⟩ => ?_)
  obtain ⟨h1, h2⟩ := tyV_is I1 r1 ty
  refine ⟨T, id, pa, slot, hty, h1, h2, ?_⟩
  have hA := ha cpos pins s1 σ H1 _ I1 q1
  rw [hs] at hA ⊢
  refine Calls.callWith_builtin (by show (false || (backTo cpos (starEach es X.env)).any (·.1)) = false; rw [hplain] <;> rfl) (Calls.evalArgs_plain ?_)
  exact thn hA fun us s2 ⟨vs, H2, I2, r2, q2⟩ => hm pins s2 σ H2 x vs v us Q I2 r1 r2 q2
/- xs.append(e), list.index on a module's tuple .. are MtR facts of 06m -/
end
end L2

namespace L2
open PySem PySem.Spec PyProof.Rows

def MtM (X : Cx) (id : String) (r : V → List V → Hp → VK → Prop) : Prop :=
  ∀ (pins : List (Addr × Obj)) (s : Shared) (σ : St) (H : Hp) (x : V) (xs : List V) (v : Value) (us : List Value) (Q : VK), Inv X pins σ H s → RelV x v → Vals xs us → r x xs H Q →
    wpAny (model X.prog X.w) X.A (call (.builtin id) (v :: us)) (EP X pins σ Q) X.xe s

/-! ### lists of values -/
theorem Vals.one : ∀ {x : V} {us : List Value}, Vals [x] us → ∃ u, us = [u] ∧ RelV x u
  | _, _, .cons r .nil => ⟨_, rfl, r⟩
theorem Vals.eraseIdx : ∀ {xs : List V} {us : List Value} (i : Nat), Vals xs us → Vals (xs.eraseIdx i) (us.eraseIdx i)
  | _, _, _, .nil => .nil
  | _, _, 0, .cons _ t => t
  | _, _, i + 1, .cons r t => .cons r (Vals.eraseIdx i t)
theorem Vals.reverse {xs : List V} {us : List Value} (h : Vals xs us) : Vals xs.reverse us.reverse := by
  induction h with
  | nil => exact .nil
  | cons r t ih => rw [List.reverse_cons, List.reverse_cons]; exact Vals.append ih (.cons r .nil)
theorem Vals.rep {xs : List V} {us : List Value} (h : Vals xs us) : ∀ k : Nat, Vals (List.replicate k xs).flatten (List.replicate k us).flatten
  | 0 => .nil
  | k + 1 => by
    rw [List.replicate_succ, List.replicate_succ, List.flatten_cons, List.flatten_cons]
    exact Vals.append h (Vals.rep h k)
theorem len_erase {α : Type} : ∀ (l : List α) (i : Nat), (l.eraseIdx i).length ≤ l.length
  | [], _ => Nat.le_refl _
  | _ :: _, 0 => Nat.le_succ _
  | _ :: r, i + 1 => Nat.succ_le_succ (len_erase r i)
theorem foldl_rep (its : List Value) : ∀ (k : Nat) (acc : List Value),
    List.foldl (fun x1 x2 => x1 ++ x2) acc.toArray (List.replicate k its.toArray) = (acc ++ (List.replicate k its).flatten).toArray
  | 0, acc => by simp
  | k + 1, acc => by
    have e : acc.toArray ++ its.toArray = (acc ++ its).toArray := by simp
    have e2 : (acc ++ its) ++ (List.replicate k its).flatten = acc ++ (List.replicate (k + 1) its).flatten := by
      rw [List.replicate_succ, List.flatten_cons, List.append_assoc]
    rw [← e2, ← foldl_rep its k (acc ++ its), ← e, List.replicate_succ, List.foldl_cons]

section
variable {X : Cx} {pins : List (Addr × Obj)} {σ : St} {H : Hp} {s : Shared} {l b : Addr} {xs ys zs : List V}

/-! ### the two steps: a tracked list is rewritten, a new list is laid -/
theorem Inv.lset {its its' : List Value} {n : Nat} {f : Array Value → Array Value} {t' : Nat} (I : Inv X pins σ H s) (hH : H l = some (.lst xs))
    (e : s.heap.get? l = some { cls := .type "list", data := .seq its.toArray n }) (hf : f its.toArray = its'.toArray) (hv : Vals ys its') (hz : ys.length ≤ sizeLine) :
    Inv X pins σ (upd H l (.lst ys)) { s with heap := s.heap.update l (Obj.mapSeq f), toks := t' } := by
  have q := PySem.IsL.update e f
  rw [hf] at q
  refine I.write (x := l) (e := l) (by rw [hH]; exact trivial) (.inl rfl) (fun b' u hb hu => (Heap.get?_update_other s.heap (Obj.mapSeq f) (Ne.symm hb)).trans hu) ⟨_, q⟩ ?_
  exact ⟨hz, its', _, hv, q⟩
theorem Inv.lnew {its : List Value} {t' : Nat} (I : Inv X pins σ H s) (hv : Vals ys its) (hz : ys.length ≤ sizeLine) :
    Inv X pins σ (upd H s.heap.objs.size (.lst ys)) { s with heap := s.heap.push { cls := .type "list", data := .seq its.toArray }, toks := t' } :=
  I.laid (fun _ _ q => Heap.get?_push_of_some _ q) (Nat.le_refl _) ⟨hz, its, 0, hv, Heap.get?_push_size _ rfl⟩
theorem Inv.fresh (I : Inv X pins σ H s) : H s.heap.objs.size = none := I.hok.fresh (Nat.le_refl _)
theorem Inv.lstM (I : Inv X pins σ H s) (hH : H l = some (.lst xs)) : xs.length ≤ sizeLine ∧ ∃ (its : List Value) (n : Nat), Vals xs its ∧ xs.length = its.length ∧ s.heap.get? l = some { cls := .type "list", data := .seq its.toArray n } := by
  obtain ⟨z, its, n, r, e⟩ := I.hok l _ hH
  exact ⟨z, its, n, r, r.length, e⟩

theorem notLongL {n : Nat} (h : n ≤ sizeLine) : Builtin.List.listTooLong n = false := by
  unfold Builtin.List.listTooLong
  exact decide_eq_false (by omega)
end

section
variable {X : Cx}

/-! ### methods -/
def rAppend : V → List V → Hp → VK → Prop := fun x vs H Q => ∃ l xs y, x = .ref l ∧ vs = [y] ∧ H l = some (.lst xs) ∧ xs.length < sizeLine ∧ Q .non (upd H l (.lst (xs ++ [y])))
theorem mt_append : MtM X "list.append" rAppend := by
  intro pins s σ H x vs v us Q I rx rv h
  obtain ⟨l, xs, y, rfl, rfl, hH, hz, q⟩ := h
  cases rx
  obtain ⟨u, rfl, ru⟩ := rv.one
  obtain ⟨z, its, n, r, hl, e⟩ := I.lstM hH
  refine call_meets F.slot_list_append ⟨_, e, rfl⟩ F.entry_list_append (F.args_list_append_2 _ _) (PySem.list_append l its.toArray n u (by rw [List.size_toArray]; omega)) ⟨e, ?_⟩
  refine ⟨.non, _, I.lset (its' := its ++ [u]) hH e (by simp) (r.append (.cons ru .nil)) ?_, rfl, q⟩
  rw [List.length_append, List.length_singleton]
  omega

def rExtend : V → List V → Hp → VK → Prop := fun x vs H Q => ∃ l b xs zs, x = .ref l ∧ vs = [.ref b] ∧ H l = some (.lst xs) ∧ H b = some (.lst zs) ∧ xs.length + zs.length ≤ sizeLine ∧ Q .non (upd H l (.lst (xs ++ zs)))
theorem mt_extend : MtM X "list.extend" rExtend := by
  intro pins s σ H x vs v us Q I rx rv h
  obtain ⟨l, b, xs, zs, rfl, rfl, hH, hB, hz, q⟩ := h
  cases rx
  obtain ⟨u, rfl, ru⟩ := rv.one
  cases ru
  obtain ⟨z, its, n, r, hl, e⟩ := I.lstM hH
  obtain ⟨z2, its2, n2, r2, hl2, e2⟩ := I.lstM hB
  have hsz : its.toArray.size + its2.toArray.size ≤ sizeLine := by rw [List.size_toArray, List.size_toArray]; omega
  have hlong : ¬ (!its.toArray.isEmpty && Builtin.List.listTooLong (its.toArray.size + its2.toArray.size)) = true := by
    rw [notLongL hsz, Bool.and_false]
    exact Bool.false_ne_true
  refine call_meets F.slot_list_extend ⟨_, e, rfl⟩ F.entry_list_extend (F.args_list_extend_2 _ _)
    (AutoSeq1.list_extend_list_list_0 l its.toArray n b its2.toArray n2 hlong (by rw [List.size_toArray]; omega) (by omega)) ⟨e, e2, ?_⟩
  refine ⟨.non, _, I.lset (its' := its ++ its2) hH e (by simp) (r.append r2) ?_, rfl, q⟩
  rw [List.length_append]
  omega

def rPopAt : V → List V → Hp → VK → Prop := fun x vs H Q => ∃ l xs i k y, x = .ref l ∧ vs = [.int i] ∧ H l = some (.lst xs) ∧ -(2 ^ 63) ≤ i ∧ i < 2 ^ 63 ∧ seqIndex? i xs.length = some k ∧ xs[k]? = some y ∧ Q y (upd H l (.lst (xs.eraseIdx k)))
theorem mt_popAt : MtM X "list.pop" rPopAt := by
  intro pins s σ H x vs v us Q I rx rv h
  obtain ⟨l, xs, i, k, y, rfl, rfl, hH, h1, h2, hk, hy, q⟩ := h
  cases rx
  obtain ⟨u, rfl, ru⟩ := rv.one
  obtain ⟨t, rfl⟩ := ru
  obtain ⟨z, its, n, r, hl, e⟩ := I.lstM hH
  obtain ⟨w, hw, rw'⟩ := r.get hy
  refine call_meets F.slot_list_pop ⟨_, e, rfl⟩ F.entry_list_pop (F.args_list_pop_2 _ _)
    (MeetsSeq.list_pop_at l its.toArray n i t k w (fitsIndex_both h1 h2) (by rw [List.size_toArray, ← hl]; exact hk) (by rw [← Array.getElem?_toList]; exact hw) (by rw [List.size_toArray]; omega)) ⟨e, ?_⟩
  refine ⟨y, _, I.lset (its' := its.eraseIdx k) hH e ?_ (r.eraseIdx k) ?_, rw', q⟩
  · show its.toArray.eraseIdxIfInBounds k = (its.eraseIdx k).toArray
    rw [List.eraseIdxIfInBounds_toArray]
  · have := len_erase xs k
    omega

/-! ### list + list, list += list, list * int -/
def rCat : R2 := fun x y H Q => ∃ l b xs zs, x = .ref l ∧ y = .ref b ∧ H l = some (.lst xs) ∧ H b = some (.lst zs) ∧ xs.length + zs.length ≤ sizeLine ∧ ∀ p, H p = none → Q (.ref p) (upd H p (.lst (xs ++ zs)))
theorem op_cat : OpR X (binaryOp .Add) rCat := by
  intro pins s σ H x y v u Q I rx ry h
  obtain ⟨l, b, xs, zs, rfl, rfl, hH, hB, hz, q⟩ := h
  cases rx
  cases ry
  obtain ⟨z, its, n, r, hl, e⟩ := I.lstM hH
  obtain ⟨z2, its2, n2, r2, hl2, e2⟩ := I.lstM hB
  refine PySem.P.add_list e e2 ?_ (by rw [List.size_toArray, List.size_toArray]; omega)
  have ea : its.toArray ++ its2.toArray = (its ++ its2).toArray := by simp
  rw [ea]
  exact ⟨.ref _, _, I.lnew (t' := s.toks) (r.append r2) (by rw [List.length_append]; omega), rfl, q _ I.fresh⟩
/-- a list times an int (a negative one is nothing) -/
def rRep : R2 := fun x y H Q => ∃ l k xs, x = .ref l ∧ y = .int k ∧ H l = some (.lst xs) ∧ -(2 ^ 63) ≤ k ∧ k < 2 ^ 63 ∧ xs.length * k.toNat ≤ sizeLine ∧
  ∀ p, H p = none → Q (.ref p) (upd H p (.lst (List.replicate k.toNat xs).flatten))
theorem len_rep {α : Type} (xs : List α) (k : Nat) : (List.replicate k xs).flatten.length = k * xs.length := by
  induction k with
  | zero => simp
  | succ k ih => rw [List.replicate_succ, List.flatten_cons, List.length_append, ih, Nat.succ_mul, Nat.add_comm]
theorem op_rep : OpR X (binaryOp .Mult) rRep := by
  intro pins s σ H x y v u Q I rx ry h
  obtain ⟨l, k, xs, rfl, rfl, hH, h1, h2, hz, q⟩ := h
  cases rx
  obtain ⟨t, rfl⟩ := ry
  obtain ⟨z, its, n, r, hl, e⟩ := I.lstM hH
  have hlen : its.toArray.size * k.toNat ≤ sizeLine := by rw [List.size_toArray, ← hl]; exact hz
  have hcap : ¬ its.toArray.size * k.toNat > (2 ^ 63 - 1) / 8 := by
    have : (sizeLine : Nat) ≤ (2 ^ 63 - 1) / 8 := by decide
    omega
  have hfit : ¬ (!Builtin.List.listFitsIndex k) = true := by
    rw [fitsIndex_both h1 h2]
    exact Bool.false_ne_true
  have hlong : ¬ Builtin.List.listTooLong (its.toArray.size * k.toNat) = true := by
    rw [notLongL hlen]
    exact Bool.false_ne_true
  have hnew : List.foldl (fun x1 x2 => x1 ++ x2) #[] (List.replicate (if its.toArray.isEmpty = true then 0 else k.toNat) its.toArray) = (List.replicate k.toNat its).flatten.toArray := by
    have f0 : ∀ m : Nat, List.foldl (fun x1 x2 => x1 ++ x2) #[] (List.replicate m its.toArray) = (List.replicate m its).flatten.toArray := fun m => by
      have := foldl_rep its m []
      rw [List.nil_append] at this
      exact this
    rw [f0]
    cases its with
    | nil => simp
    | cons a r' => rw [if_neg (by simp)]
  refine wpAny_binaryOp_repeat_ref (T := "list") (U := "int") (by decide) ⟨_, e, rfl⟩ (fun s' => typeIs_int s' k t) noFill_list_mul F.fills_int_mul F.slot_int_rmul repeat_list F.slot_int_index.lookup
    (call_meets F.slot_int_rmul (typeIs_int s k t) F.entry_int_rmul (F.args_int_rmul_2 _ _) (int___rmul___int_list k t l its.toArray n)
      ⟨e, rfl, ⟨_, e, rfl⟩, call_meets F.slot_list_mul ⟨_, e, rfl⟩ F.entry_list_mul (F.args_list_mul_2 _ _) (AutoListH.list___mul___list_int_3 l its.toArray n k t hfit hcap hlong) ⟨e, ?_⟩⟩)
  rw [hnew]
  exact ⟨.ref _, _, I.lnew (t' := s.toks) (r.rep k.toNat) (by rw [len_rep, Nat.mul_comm]; exact hz), rfl, q _ I.fresh⟩

/-! ### del xs[i] -/
end

/-! ### xs[a:b] = ys -/
section
variable {prog : Program} {w : World} {A : Around} {E : Value → Shared → Prop} {s : Shared}
set_option maxRecDepth 100000 in
end

section
variable {X : Cx}
end
end L2

namespace Att
open PySem PySem.W PySem.Calls PyProof.Rows

/-! ### the script -/
theorem ints_of_wellAll {P : Params} {h : Heap} : ∀ (ns : List Int) (vs : List Value), WellAll P h vs (ns.map WData.int) → IntsAre vs ns := by
  intro ns
  induction ns with
  | nil =>
    intro vs w
    rw [List.map_nil] at w
    cases w
    exact .nil
  | cons n ns ih =>
    intro vs w
    rw [List.map_cons] at w
    cases w with
    | cons a b =>
      cases a
      exact .cons _ _ (ih _ b)

theorem script_of {l : OpenLaw} {n : Nat} (hn : l.most = some n) {P : Params} {h : Heap} {args : List WData} {vals : List Value}
    (hpre : l.row.toRowW.claim.pre args = true) (hwl : WellAll P h vals args) :
    ∃ a vs ns, vals = [Value.ref a] ∧ args = [WData.list (ns.map WData.int)] ∧ h.get? a = some { cls := .type "list", data := .seq vs.toArray } ∧ IntsAre vs ns ∧ ns.length ≤ n := by
  have hsh : WShape.hasAll [] args [.list .int] = true := (pre_splitW hpre).1
  have hc : l.pre.holds [] { args := args } = true := (pre_splitW hpre).2
  obtain ⟨d, r, rfl, h1, h2⟩ := hasAllW_cons hsh
  obtain rfl := hasAllW_nil h2
  obtain ⟨xs, rfl, h3⟩ := hasW_list h1
  obtain ⟨ns, rfl⟩ := items_int h3
  have hlen : ns.length ≤ n := by
    unfold OpenLaw.pre at hc
    have h4 : (WTm.not (.lt (.lit (.int (n : Int))) (.len (.arg 0)))).holds [] { args := [.list (ns.map .int)] } = true := by
      have h4 := (holds_andW hc).1
      rw [hn] at h4
      exact h4
    have h5 := condW_of h4 (w_not (w_lt w_lit (w_len_list (w_arg rfl))))
    rw [List.length_map] at h5
    refine Nat.le_of_not_lt fun q => ?_
    have q' : (n : Int) < ((ns.length : Nat) : Int) := by omega
    first
      | (rw [decide_eq_true q'] at h5; exact absurd h5 (by decide))
      | (simp at h5; omega)
  cases hwl with
  | cons w1 w2 =>
    cases w2
    cases w1 with
    | list ho hall => exact ⟨_, _, ns, rfl, rfl, ho, ints_of_wellAll ns _ hall, hlen⟩

theorem post_true (l : OpenLaw) (args : List WData) : l.row.toRowW.claim.post args (.bool true) args = true :=
  postW_of (r := l.row.toRowW) (X := (true == true))
    (show WShape.has [] (.bool true) .bool = true by first | rfl | decide | simp [WShape.has, WShape.arms, WShape.armsAll])
    (show (WTm.eq .res (.lit (.bool true))).value [] { args := args, res := some (.bool true), after := args } = some (.bool (true == true)) from w_eq_bool (w_res rfl) w_lit) rfl

/-! ### the attachment: holds_open's last premise (the goal 'hc' behind k_head) from a wpAny of the law's body -/
/-- the same from a codeAny of the CALL (for a layer whose function contracts speak of calls) -/
theorem attach_call {l : OpenLaw} {n : Nat} {q : Program} {loose : List Str} {XP : (Str → Option Value) → Heap → Prop} {YP : World → Heap → Prop} {d : DefRec}
    (hn : l.most = some n) (hdf : d.params.defaults = [])
    (call : ∀ (w : World) (s₀ s₁ : Shared) (mg mb : Str → Option Value) (fa : Addr) (o : Obj) (pm cd doc : Value) (a : Addr) (vs : List Value) (ns : List Int),
      Ground q loose [] XP w s₀ mg mb s₁.heap → YP w s₁.heap →
      s₁.heap.get? fa = some o → o.data = .func (docDef d.name d.params d.body d.scope pm cd doc) → s₁.heap.CodeRec cd d.name → mg d.name = some (.ref fa) →
      s₁.heap.get? a = some { cls := .type "list", data := .seq vs.toArray } → IntsAre vs ns → ns.length ≤ n → s₁.gens = #[] →
      codeAny (model l.prog w) callerA (.call (.ref fa) ⟨[.ref a], []⟩) (fun r s' => r = .ok (.ret (.bool true)) ∧ OldK s₁.heap s'.heap ∧ s'.os = s₁.os ∧ AllBare s'.gens) s₁) :
    WalkO q loose XP YP l.row.toRowW d [] (fun f vs => PySem.call f vs) := by
  intro w s₀ s₁ mg mb G Y fa o pm cd doc dV kV ho hd hcd hD hmg hg args vals as hpre hlay hrd hwl hlo
  obtain rfl : dV = .none := Dflts.none hD hdf
  obtain rfl : kV = .none := Dflts.noKw hD
  obtain ⟨a, vs, ns, rfl, rfl, hobj, hints, hlen⟩ := script_of hn hpre hwl
  refine enter_call (codeAny_mono (call w s₀ s₁ mg mb fa o pm cd doc a vs ns G Y ho (fd_plain hd) hcd hmg hobj hints hlen hg) fun r s' hq => ?_)
  obtain ⟨rfl, h2, h3, h4⟩ := hq
  exact ⟨.inl ⟨.bool true, .bool true, [], rfl, fun _ => rfl, .bool true, post_true l _, fun _ => ⟨List.Pairwise.nil, fun _ hm => (nomatch hm)⟩⟩, h2, h3, h4⟩

/-! ### rules over ANY heap (no ledger) from facts about the written part K: the library's own take a ledger (News) for what they write -/
section
variable {prog : Program} {w : World} {A : Around} {E : Value → Shared → Prop} {s : Shared} {K : Frag}

/-! the whole heap as the ledger: makes every rule that writes through a ledger a rule over any heap -/
def ledger (h : Heap) (L d : Addr) : List (Addr × Obj) := (List.range h.objs.size).filterMap fun a => if a = L ∨ a = d then none else (h.get? a).map fun o => (a, o)
end
end Att

namespace L2
open PySem PySem.Spec PyProof.Rows

theorem vals_ints : ∀ {vs : List Value} {ns : List Int}, IntsAre vs ns → Vals (ns.map V.int) vs
  | _, _, .nil => .nil
  | _, _, .cons n t h => .cons ⟨t, rfl⟩ (vals_ints h)

/-- nothing is tracked but the script, known to the object (or it is an object of the module) -/
def Only (H : Hp) : Prop := ∀ b, H b = none ∨ ∃ o xs, H b = some (.frz o (.lst xs))

/-- THE HEAD: the law's promise, at the heap behind the top. F, the promise of the law's def, may use that base is part of the heap (so K.In base, base.Ns mainGlobals mg stand in Mod) -/
theorem law_call {P : Program} {w : World} {K : PySem.W.Frag} {mg mb : Str → Option Value} {CX : CXT} {k : Nat} {fa a : Addr} {fd : FuncData} {x : Str} {sp : Sp} {s₁ : Shared} {vs : List Value} {ns : List Int}
    (KX : K.In s₁.heap) (hns : s₁.heap.Ns mainGlobals mg) (hb : s₁.heap.Ns builtinsNs mb) (hbb : ∀ x : Str, x ≠ "__name__" → mb x = bootBuiltins x) (hlim : s₁.heap.NoLimit) (hg : s₁.gens = #[])
    (ha : s₁.heap.get? a = some { cls := .type "list", data := .seq vs.toArray }) (hi : IntsAre vs ns) (hl : ns.length ≤ sizeLine) (hr : Room k callerA)
    (F : ∀ base : Heap, K.In base → base.Ns mainGlobals mg → FnOk P w K mg base CX k fa fd [x] sp) (hbind : ∀ (s : Shared) (u : Value), BindsTo s fd ⟨[u], []⟩ [(x, u)])
    (hsp : ∀ H : Hp, Only H → SqL K H a (ns.map V.int) → sp [.ref a] H (fun v _ => v = .bl true) fun _ _ _ => False)
    (hCX : ∀ H e s', CX [] H s₁ (fun _ _ _ => False) e s' → False) :
    codeAny (model P w) callerA (.call (.ref fa) ⟨[.ref a], []⟩) (fun r s' => r = .ok (.ret (.bool true)) ∧ OldK s₁.heap s'.heap ∧ s'.os = s₁.os ∧ AllBare s'.gens) s₁ := by
  have rv := vals_ints hi
  have lenV := hi.length
  -- from an abstract heap in which nothing but the script may be tracked
  have core : ∀ H : Hp, Only H → SqL K H a (ns.map V.int) → HOk P w H s₁.heap → (∀ b, H b ≠ none → b = a) → (H a ≠ none → K.lookup a = none) →
      codeAny (model P w) callerA (.call (.ref fa) ⟨[.ref a], []⟩) (fun r s' => r = .ok (.ret (.bool true)) ∧ OldK s₁.heap s'.heap ∧ s'.os = s₁.os ∧ AllBare s'.gens) s₁ := by
    intro H hO hS hok hA hK
    have base_of : ∀ {b : Addr} {o : Obj}, s₁.heap.get? b = some o → H b = none → (hidT s₁.heap H).get? b = some o := fun e n => hidT_get e n
    have noA : ∀ {b : Addr} {o : Obj} {es : Array DictEntry} {ep : Nat}, s₁.heap.get? b = some o → o.data = .dict es ep → H b = none := fun {b o es ep} e d => by
      cases q : H b with
      | none => rfl
      | some u =>
        have e' : b = a := hA b (by rw [q]; simp)
        subst e'
        rw [ha] at e; cases e
        have d' : Data.seq vs.toArray _ = Data.dict es ep := d
        cases d'
    have nsK : ∀ {b : Addr} {m : Str → Option Value}, s₁.heap.Ns b m → (hidT s₁.heap H).Ns b m := fun {b m} ⟨o, es, ep, e, d, r⟩ => ⟨o, es, ep, base_of e (noA e d), d, r⟩
    have hKb : K.In (hidT s₁.heap H) := fun b o e => base_of (KX b o e) (by
      cases q : H b with
      | none => rfl
      | some u =>
        have e' : b = a := hA b (by rw [q]; simp)
        subst e'
        rw [hK (by rw [q]; simp)] at e; cases e)
    have hM : Mod K mg (hidT s₁.heap H) := ⟨hKb, nsK hns, ⟨mb, nsK hb, hbb⟩, let ⟨mc, h1, h2⟩ := hlim; ⟨mc, nsK h1, h2⟩⟩
    have e0 : Env0 P w K mg (hidT s₁.heap H) callerA [] s₁ H := ⟨rfl, hM, fun b o e => of_hidT e, Nat.le_of_eq (hidT_size _ _), trivial, fun b hb => absurd (show b ∈ ([] : List Addr) from hb) (by simp), hok, .of_eq hg⟩
    refine codeAny_mono ((F _ hKb (nsK hns)).run callerA [] s₁ H ⟨[.ref a], []⟩ [.ref a] [.ref a] _ _ hr e0 (hbind s₁ (.ref a)) (.cons rfl .nil) (hsp H hO hS)) fun r s' h => ?_
    cases r with
    | error e => exact (hCX H e s' h).elim
    | ok fl =>
      cases fl with
      | next => exact False.elim h
      | brk => exact False.elim h
      | cont => exact False.elim h
      | ret u =>
        obtain ⟨v, H', os, bare, un, hok', r', q⟩ := h
        have q' : v = .bl true := q
        subst q'
        obtain rfl : u = Value.bool true := r'
        refine ⟨rfl, OldK.of_keep fun b o e => ?_, os, bare⟩
        cases q : H b with
        | none => exact un.keep b o e q (by intro z; exact absurd (show b ∈ ([] : List Addr) from z) (by simp)) (by simp)
        | some u =>
          rcases hO b with z | ⟨ob, xs, z⟩
          · rw [q] at z; cases z
          · have z2 := un.frzs b ob _ z
            obtain ⟨e1, _⟩ := hok b _ z
            obtain ⟨e2, _⟩ := hok' b _ z2
            rw [e] at e1; cases e1
            exact e2
  cases hk : K.lookup a with
  | some o =>
    -- the script is one of the module's own objects
    have e := KX a o hk
    rw [ha] at e
    cases e
    refine core (fun _ => none) (fun _ => .inl rfl) (.inr ⟨_, vs.toArray, _, hk, rfl, rfl, rfl, by rw [List.size_toArray, lenV]; exact hl, by simpa using rv⟩) (fun b u z => by have z' : (none : Option HO) = some u := z; cases z') (fun b z => absurd rfl z) fun z => absurd rfl z
  | none =>
    refine core (fun b => if b = a then some (.frz { cls := .type "list", data := .seq vs.toArray } (.lst (ns.map V.int))) else none) (fun b => ?_) (.inl (.inr ⟨{ cls := .type "list", data := .seq vs.toArray }, if_pos rfl⟩)) (fun b u z => ?_) (fun b z => ?_) fun _ => hk
    · by_cases hb : b = a
      · exact .inr ⟨_, _, if_pos hb⟩
      · exact .inl (if_neg hb)
    · by_cases hb : b = a
      · have z' := (if_pos hb).symm.trans z
        cases z'
        subst hb
        exact ⟨ha, by rw [List.length_map]; exact hl, vs, _, rv, ha⟩
      · have z' := (if_neg hb).symm.trans z
        cases z'
    · by_cases hb : b = a
      · exact hb
      · exact absurd (if_neg hb) z
end L2

namespace L2
open PySem PySem.Spec PyProof.Rows

/-- the goal that k_head leaves (case hc), from the law's promise. F gives the function object fd (K's own) once, then the promise over every base -/
theorem walk_of {l : PySem.W.OpenLaw} {n k : Nat} {q : Program} {loose : List Str} {XP : (Str → Option Value) → Heap → Prop} {YP : World → Heap → Prop} {d : DefRec} {K : Params → PySem.W.Frag} {CX : World → CXT} {sp : World → Sp} {x : Str}
    (hn : l.most = some n) (hn2 : n ≤ sizeLine) (hdf : d.params.defaults = []) (hr : Room k callerA)
    (hY : ∀ (w : World) (h : Heap), YP w h → (K w.params).In h)
    (F : ∀ (w : World) (mg : Str → Option Value) (fa : Addr) (h : Heap), (K w.params).In h → h.Ns mainGlobals mg → mg d.name = some (.ref fa) →
      ∃ fd : FuncData, (∀ (s : Shared) (u : Value), BindsTo s fd ⟨[u], []⟩ [(x, u)]) ∧
        ∀ base : Heap, (K w.params).In base → base.Ns mainGlobals mg → FnOk l.prog w (K w.params) mg base (CX w) k fa fd [x] (sp w))
    (hsp : ∀ (w : World) (H : Hp) (a : Addr) (ns : List Int), ns.length ≤ n → Only H → SqL (K w.params) H a (ns.map V.int) → sp w [.ref a] H (fun v _ => v = .bl true) fun _ _ _ => False)
    (hCX : ∀ (w : World) (H : Hp) (s : Shared) (e : Value) (s' : Shared), CX w [] H s (fun _ _ _ => False) e s' → False) :
    PySem.W.WalkO q loose XP YP l.row.toRowW d [] (fun f vs => PySem.call f vs) := by
  refine Att.attach_call hn hdf fun w s₀ s₁ mg mb fa o pm cd doc a vs ns G Y ho hd hcd hmg hobj hints hlen hg => ?_
  have KX := hY w _ Y
  obtain ⟨fd, hb, hF⟩ := F w mg fa _ KX G.T.g hmg
  exact law_call KX G.T.g G.T.b G.T.builtins G.T.nolimit hg hobj hints (Nat.le_trans hlen hn2) hr hF hb (fun H hO hS => hsp w H a ns hlen hO hS) fun H e s' => hCX w H s₁ e s'
end L2

/- THE LAST THEOREM (shape; LID, My.* are yours):
   My.Adr: a structure of the addresses that your layer names (classes, functions); My.Txt K t: a structure (Prop) of the equations over K;
   My.txt_mk : {K} {implicit addresses ..} (e1 : nsIn K mainGlobals "law" = some (some (.ref f))) (e2 : K.lookup f = some ⟨oc, od, .func (fnOf "law" "law" params body scope dV kV doc pm an cdv ct), sl⟩) (e3 : codeIn K cdv "law" = true) .. : ∃ t, My.Txt K t

set_option maxRecDepth 100000 in
set_option maxHeartbeats 0 in
(the tactic k_is has no namespace: write k_is) -/

/-! SHORT WORDS over the layer: a def of the text, its body, what a loop and a test want. -/
namespace L2
open PySem PySem.Spec PyProof.Rows

/-! ### the text by places -/
def defArgs (s : Stmt) : Arguments := match s with
  | .FunctionDef _ a _ _ _ _ _ _ _ _ => a
  | _ => { posonlyargs := [], args := [], vararg := none, kwonlyargs := [], kw_defaults := [], kwarg := none, defaults := [] }
def defBody (s : Stmt) : List Stmt := match s with
  | .FunctionDef _ _ b _ _ _ _ _ _ _ => b
  | _ => []
def defScope (s : Stmt) : Scope := match s with
  | .FunctionDef _ _ _ _ _ _ sc _ _ _ => sc
  | _ => { kind := .function, names := [], isGenerator := false, isCoroutine := false }

/-! ### no exception leaves a def -/
abbrev CX0 : CXT := fun _ _ _ _ _ _ => False
abbrev E0 : XK := fun _ _ _ => False
theorem pass0 {X : Cx} : Passes CX0 X E0 := fun _ _ _ _ _ _ _ h => h.elim

/-! ### a def (or method) of the text as it stands behind the top -/
structure Fun (K : PySem.W.Frag) (x qual : Str) (st : Stmt) (f : Addr) (fd : FuncData) : Prop where
  ex : ∃ (oc : Value) (od : Option Addr) (kV doc pm : Value) (an : Option Addr) (cdv ct : Value) (osl : Array (Option Value)),
    fd = PySem.W.fnOf x qual (defArgs st) (defBody st) (defScope st) .none kV doc pm an cdv ct ∧ K.lookup f = some ⟨oc, od, .func fd, osl⟩ ∧ PySem.W.codeIn K cdv qual = true
  kp : PySem.W.keepIn K (.ref f) = true
section
variable {P : Program} {w : World} {K : PySem.W.Frag} {mg : Str → Option Value} {base : Heap}
/-- THE RULE for a def: its body as a term of rules, and the reading of that term -/
theorem Fun.ok {x qual : Str} {st : Stmt} {f : Addr} {fd : FuncData} {N ps : List Str} {k : Nat} {sp : Sp} (F : Fun K x qual st f fd) (S : FnScope N ps (defScope st)) (len : ∀ vs H Q E, sp vs H Q E → vs.length = ps.length)
    (hbody : ∀ (cdv : Value) (A : Around) (outer : List Env) (s : Shared) (H : Hp) (vs : List V) (Q : VK) (E : XK), Room k (A.deeper (envOfC qual (defScope st) s.heap.objs.size f cdv)) → sp vs H Q E →
      ∃ t, PSs (cxOf CX0 P w K mg base N qual (defScope st) f cdv A outer s H E).nox (defBody st) t ∧ t { nx := fun _ H' => Q .non H', rt := Q } (start N vs) H) : FnOk P w K mg base CX0 (k + 1) f fd ps sp := by
  obtain ⟨oc, od, kV, doc, pm, an, cdv, ct, osl, rfl, lk, hcd⟩ := F.ex
  refine fn_of lk hcd S len fun A outer s H vs Q E hr hsp => ?_
  obtain ⟨t, h, q⟩ := hbody cdv A outer s H vs Q E hr hsp
  exact ⟨t, h.nox, q⟩
/-- how its arguments bind (no defaults): h is «fun _ _ _ _ _ _ us hl => match us, hl with | [_, _], _ => rfl», one _ a parameter -/
theorem Fun.binds {x qual : Str} {st : Stmt} {f : Addr} {fd : FuncData} {ps : List Str} (F : Fun K x qual st f fd)
    (h : ∀ (kV doc pm : Value) (an : Option Addr) (cdv ct : Value) (us : List Value), us.length = ps.length → bindArgs (PySem.W.fnOf x qual (defArgs st) (defBody st) (defScope st) .none kV doc pm an cdv ct) ⟨us, []⟩ = pure (ps.zip us)) : Binds K fd ps [] := by
  obtain ⟨oc, od, kV, doc, pm, an, cdv, ct, osl, rfl, lk, hcd⟩ := F.ex
  exact .all (h kV doc pm an cdv ct)
theorem fun_mk {x qual : Str} {st : Stmt} {f : Addr} {oc : Value} {od an : Option Addr} {osl : Array (Option Value)} {kV doc pm cdv ct : Value} (l : K.lookup f = some ⟨oc, od, .func (PySem.W.fnOf x qual (defArgs st) (defBody st) (defScope st) .none kV doc pm an cdv ct), osl⟩)
    (c : PySem.W.codeIn K cdv qual = true) (k : PySem.W.keepIn K (.ref f) = true) : Fun K x qual st f (PySem.W.fnOf x qual (defArgs st) (defBody st) (defScope st) .none kV doc pm an cdv ct) := ⟨⟨oc, od, kV, doc, pm, an, cdv, ct, osl, rfl, l, c⟩, k⟩
end
theorem hu_of {A : Around} {k : Nat} (hr : Room k A) : A.units + 1 < cLine := Nat.lt_of_le_of_lt (Nat.add_le_add_left (by decide : 1 ≤ 64) _) hr.units
theorem small1000 {n : Nat} (h : n ≤ 1000) : n < sizeLine := Nat.lt_of_le_of_lt h (by decide)

/-! ### expressions in short: the name that stands in the i-th slot -/
section
variable {X : Cx}
theorem pv (i : Nat) {x : Str} {pos : Pos} (hN : X.N[i]? = some x := by rfl) (hv : Vis X.env.scope x := by first | exact Or.inl rfl | exact Or.inr (Or.inl rfl) | exact Or.inr (Or.inr rfl)) (hd : (x == ("__debug__" : Str)) = false := by decide)
    (hcd : (x == ("__classdict__" : Str)) = false := by decide) : PE X (.Name x pos) (tVar i) := pe_var hN hv hd hcd
end

/-! ### tests -/
theorem iteF {A B : Prop} (h : B) : if false = true then A else B := by
  rw [if_neg Bool.false_ne_true]
  exact h
theorem iteT {A B : Prop} (h : A) : if true = true then A else B := by
  rw [if_pos rfl]
  exact h
theorem ite2 {c A B : Prop} [Decidable c] (h1 : c → A) (h2 : ¬ c → B) : if c then A else B := by
  by_cases h : c
  · rw [if_pos h]
    exact h1 h
  · rw [if_neg h]
    exact h2 h
/-! ### heaps -/
/-- all that was tracked is as it was -/
def Same (H H' : Hp) : Prop := ∀ b o, H b = some o → H' b = some o
theorem Same.refl (H : Hp) : Same H H := fun _ _ h => h
theorem Same.trans {H H1 H2 : Hp} (a : Same H H1) (b : Same H1 H2) : Same H H2 := fun c o h => b c o (a c o h)
theorem Same.free {H H' : Hp} (e : Same H H') {l : Addr} (h : H' l = Option.none) : H l = Option.none := by
  cases q : H l with
  | none => rfl
  | some o =>
    rw [e l o q] at h
    cases h
theorem Same.seq {K : PySem.W.Frag} {H H' : Hp} {a : Addr} {xs : List V} (e : Same H H') (h : SqL K H a xs) : SqL K H' a xs := by
  rcases h with (h | ⟨o, h⟩) | h
  · exact .inl (.inl (e _ _ h))
  · exact .inl (.inr ⟨o, e _ _ h⟩)
  · exact .inr h

end L2

set_option Elab.async false
set_option linter.all false
set_option maxRecDepth 100000
set_option maxHeartbeats 4000000
namespace L2
open PySem PySem.Spec PyProof.Rows

/-! ### a list comprehension of one clause -/
/-- the cells that a block takes over -/
def clFrom (env : Env) : List (Str × NameKind) → List (Str × Addr) → List (Str × Addr)
  | [], cs => cs
  | (n, k) :: r, cs => clFrom env r (if k == .free then (n, (env.cells.lookup n).getD 0) :: cs else cs)
abbrev clOf (scope : Scope) (env : Env) : List (Str × Addr) := clFrom env scope.names []
theorem closureFor_cl {env : Env} : ∀ (names : List (Str × NameKind)) (cs : List (Str × Addr)), (∀ x ∈ names, x.2 = .free → ∃ c, env.cells.lookup x.1 = some c) →
    (forIn names cs fun (x : Str × NameKind) r => do
      if x.2 == .free then
        let c ← cellOf env x.1
        pure (ForInStep.yield ((x.1, c) :: r))
      else pure (ForInStep.yield r) : Sem (List (Str × Addr))) = pure (clFrom env names cs)
  | [], cs, _ => rfl
  | (n, k) :: r, cs, h => by
    rw [List.forIn_cons]
    have ih := fun cs' => closureFor_cl (env := env) r cs' fun x hx => h x (List.mem_cons_of_mem _ hx)
    by_cases hk : k = .free
    · subst hk
      obtain ⟨c, hc⟩ := h (n, .free) List.mem_cons_self rfl
      have hc' : env.cells.lookup n = some c := hc
      have ec : cellOf env n = pure c := by unfold cellOf; rw [hc']
      dsimp only
      rw [if_pos (by rfl), ec]
      show (forIn r ((n, c) :: cs) _ : Sem _) = _
      rw [ih]
      conv => rhs; unfold clFrom
      rw [if_pos (by rfl), hc']
      rfl
    · have hb : (k == NameKind.free) = false := by simpa using hk
      dsimp only
      rw [if_neg (by rw [hb]; decide)]
      show (forIn r cs _ : Sem _) = _
      rw [ih]
      conv => rhs; unfold clFrom
      rw [if_neg (by rw [hb]; decide)]
theorem closure_cl {scope : Scope} {env : Env} (h : ∀ x ∈ scope.names, x.2 = .free → ∃ c, env.cells.lookup x.1 = some c) : closureFor scope env = pure (clOf scope env) := by
  unfold closureFor
  have e := closureFor_cl (env := env) scope.names [] h
  simp only [bind_pure]
  exact e
theorem cl_lookup {env : Env} {x : Str} {c : Addr} : ∀ (names : List (Str × NameKind)) (cs : List (Str × Addr)), (clFrom env names cs).lookup x = some c → ((x, NameKind.free) ∈ names ∧ c = (env.cells.lookup x).getD 0) ∨ cs.lookup x = some c
  | [], _, h => .inr h
  | (n, k) :: r, cs, h => by
    unfold clFrom at h
    rcases cl_lookup r _ h with ⟨h1, h2⟩ | h1
    · exact .inl ⟨List.mem_cons_of_mem _ h1, h2⟩
    · by_cases hk : k = .free
      · subst hk
        rw [if_pos (by rfl), List.lookup_cons] at h1
        cases e : x == n with
        | true =>
          rw [e] at h1
          have en : x = n := eq_of_beq e
          subst en
          exact .inl ⟨List.mem_cons_self, (Option.some.inj h1).symm⟩
        | false => rw [e] at h1; exact .inr h1
      · have hb : (k == NameKind.free) = false := by simpa using hk
        rw [if_neg (by rw [hb]; decide)] at h1
        exact .inr h1
theorem cl_mono {env : Env} {x : Str} : ∀ (names : List (Str × NameKind)) (cs : List (Str × Addr)), (∃ c, cs.lookup x = some c) → ∃ c, (clFrom env names cs).lookup x = some c
  | [], _, h => h
  | (n, k) :: r, cs, h => by
    unfold clFrom
    refine cl_mono r _ ?_
    split
    · rw [List.lookup_cons]
      split
      · exact ⟨_, rfl⟩
      · exact h
    · exact h
theorem cl_has {env : Env} {x : Str} : ∀ (names : List (Str × NameKind)) (cs : List (Str × Addr)), (x, NameKind.free) ∈ names → ∃ c, (clFrom env names cs).lookup x = some c
  | [], _, h => by simp at h
  | (n, k) :: r, cs, h => by
    unfold clFrom
    rcases List.mem_cons.mp h with e | h
    · cases e
      refine cl_mono r _ ?_
      rw [if_pos (by rfl), List.lookup_cons]
      exact ⟨(env.cells.lookup x).getD 0, by simp⟩
    · exact cl_has r _ h
theorem relabel_cf {scope : Scope} {env : Env} {x : Str} (hcell : ∀ y ∈ scope.names, y.2 ≠ .cell) (h : (relabel scope env).names.lookup x = some .cell ∨ (relabel scope env).names.lookup x = some .free) : (x, NameKind.free) ∈ scope.names := by
  have hm : ∃ k, (x, k) ∈ (relabel scope env).names ∧ (k = .cell ∨ k = .free) := by
    rcases h with h | h
    · exact ⟨_, PySem.mem_of_lookup h, .inl rfl⟩
    · exact ⟨_, PySem.mem_of_lookup h, .inr rfl⟩
  obtain ⟨k, hm, hk⟩ := hm
  obtain ⟨⟨n, k'⟩, h1, h2⟩ := List.mem_map.mp hm
  dsimp only at h2
  split at h2
  · rename_i hc
    have : k' = .free := by
      simp only [Bool.and_eq_true, beq_iff_eq] at hc
      exact hc.1.1
    cases h2
    subst this
    exact h1
  · cases h2
    rcases hk with rfl | rfl
    · exact absurd rfl (hcell _ h1)
    · exact h1
theorem relabel_free {env : Env} {x : Str} : ∀ {names : List (Str × NameKind)}, names.lookup x = some .free →
    (names.map fun (n, k) => if (k == NameKind.free && env.scope.kind == .function && env.kindOf n == some .cell) then (n, NameKind.cell) else (n, k)).lookup x = some .cell ∨
    (names.map fun (n, k) => if (k == NameKind.free && env.scope.kind == .function && env.kindOf n == some .cell) then (n, NameKind.cell) else (n, k)).lookup x = some .free
  | [], h => by simp at h
  | (n, k) :: r, h => by
    have ih := @relabel_free env x r
    rw [List.map_cons]
    dsimp only
    cases hx : x == n with
    | true =>
      simp only [List.lookup_cons, hx] at h
      cases h
      split
      · left; simp [List.lookup_cons, hx]
      · right; simp [List.lookup_cons, hx]
    | false =>
      simp only [List.lookup_cons, hx] at h
      split
      · simp only [List.lookup_cons, hx]; exact ih h
      · simp only [List.lookup_cons, hx]; exact ih h

section
variable {prog : Program} {w : World} {A : Around} {R : Result → Shared → Prop} {s : Shared}
theorem codeAny_compLoop_go {elt target iter : Expr} {ifs : List Expr} {scope : Scope} {pos : Pos} {it acc : Value} {env : Env} (I : Nat → Shared → Prop)
    (turn : ∀ n s, I n s → wpAny (model prog w) A (pyNext it) (fun r s₁ => match r with
      | none => R (.ok .next) s₁
      | some v => wpAny (model prog w) A (letOwnedTupleGo target it v) (fun _ s₁' => wpAny (model prog w) A (assign target env v) (fun _ s₂ =>
          wpAny (model prog w) A (forIn ifs true fun c r => if r = true then do let ok ← isTrue c env (eval c env); pure (ForInStep.yield ok) else pure (ForInStep.yield r)) (fun ok s₃ =>
            if ok = true then wpAny (model prog w) A (eval elt env) (fun x s₄ =>
              wpAny (model prog w) A (call (.builtin "list.append") [acc, x]) (fun _ s₅ => ∃ m, m < n ∧ I m s₅) (fun _ _ => False) s₄) (fun _ _ => False) s₃
            else ∃ m, m < n ∧ I m s₃) (fun _ _ => False) s₂) (fun _ _ => False) s₁') (fun _ _ => False) s₁) (fun _ _ => False) s)
    (n : Nat) (h : I n s) :
    codeAny (model prog w) A (.compLoop (.ListComp elt [⟨target, iter, ifs, 0⟩] scope pos) 0 it acc env) R s := by
  refine codeAny_loop rfl I (fun n s hI => ?_) n h
  show wpAny _ A ((compTurn (.ListComp elt [⟨target, iter, ifs, 0⟩] scope pos) 0 it acc env).onRaise (fun x => do noteFrame x env; theTreesLotGoes x)) _ _ s
  refine wpAny_noted ?_
  rw [compTurn_list]
  refine wpAny_bind (wpAny_standAt (wpAny_bind (wpAny_mono (turn n s hI) (fun r s₁ h₁ => ?_) fun _ _ h' => h'.elim)))
  cases r with
  | none => exact wpAny_pure h₁
  | some v =>
    refine wpAny_bind (wpAny_mono h₁ (fun _ s₁' h₁ => ?_) fun _ _ h' => h'.elim)
    refine wpAny_bind (wpAny_mono h₁ (fun _ s₂ h₂ => wpAny_bind (wpAny_mono h₂ (fun ok s₃ h₃ => ?_) fun _ _ h' => h'.elim)) fun _ _ h' => h'.elim)
    cases ok with
    | false => exact wpAny_pure ⟨rfl, h₃⟩
    | true =>
      exact wpAny_bind (wpAny_bind (wpAny_mono h₃ (fun x s₄ h₄ => wpAny_bind (wpAny_mono h₄ (fun _ s₅ h₅ => wpAny_pure (wpAny_pure ⟨rfl, h₅⟩)) fun _ _ h' => h'.elim)) fun _ _ h' => h'.elim))
end

/-- the tests of a clause -/
def PTs (X : Cx) (ifs : List Expr) (t : TT) : Prop :=
  ∀ (pins : List (Addr × Obj)) (s : Shared) (σ : St) (H : Hp) (Q : Bool → Hp → Prop), Inv X pins σ H s → t σ H Q →
    wpAny (model X.prog X.w) X.A (forIn ifs true fun c r => if r = true then do let ok ← isTrue c X.env (eval c X.env); pure (ForInStep.yield ok) else pure (ForInStep.yield r)) (TP X pins σ Q) X.xe s
def tTrue : TT := fun _ H Q => Q true H
theorem pts_nil {X : Cx} : PTs X [] tTrue := fun _ _ _ H _ I h => wpAny_tests_nil ⟨H, I, h⟩
theorem pts_one {X : Cx} {c : Expr} {t : TT} (h : PT X c t) : PTs X [c] t := fun pins s σ H Q I q => wpAny_tests_one (h pins s σ H Q I q)

/-- the context of a comprehension's block -/
def Cx.blk (X : Cx) (scope : Scope) (own : List Str) (js : List Nat) (s₂ : Shared) (H₂ : Hp) (C : Addr) (fp : List Addr) (pins : List (Addr × Obj)) : Cx where
  prog := X.prog
  w := X.w
  K := X.K
  mg := X.mg
  base := X.base
  A := X.A
  N := own ++ js.map fun j => X.N.getD j Str.empty
  s₀ := s₂
  H₀ := H₂
  env := compEnvC scope (clOf scope X.env) C X.env
  outer := X.stack
  stack := X.stack
  ex := fp
  fn := fun _ => false
  calm := X.calm
  pn := X.pn ++ pins
  xe := fun _ _ => False
def blkσ (own : List Str) (js : List Nat) (σ : St) : St := own.map (fun _ => none) ++ js.map fun j => (σ[j]?).join

section
variable {X : Cx} {pins : List (Addr × Obj)} {σ : St} {H H' : Hp} {s s' : Shared} {scope : Scope} {own : List Str} {js : List Nat} {C : Addr} {fp : List Addr}
/-- what the text of a comprehension must have -/
structure CompOk (X : Cx) (scope : Scope) (own : List Str) (js : List Nat) : Prop where
  kind : scope.kind = .function
  cell : ∀ y ∈ scope.names, y.2 ≠ .cell
  free : ∀ y ∈ scope.names, y.2 = .free → X.env.kindOf y.1 = some .cell ∨ X.env.kindOf y.1 = some .free
  names : ∀ y ∈ scope.names, y.2 = .local → scope.names.lookup y.1 = some .local
  out : ∀ j ∈ js, ∃ x, X.N[j]? = some x ∧ scope.names.lookup x = some .free
theorem CompOk.cl (c : CompOk X scope own js) (I : Inv X pins σ H s) : ∀ x ∈ scope.names, x.2 = .free → ∃ c, X.env.cells.lookup x.1 = some c := fun x hx hf => I.ok.has x.1 (c.free x hx hf)
theorem CompOk.look (c : CompOk X scope own js) (I : Inv X pins σ H s) {x : Str} {a : Addr} (h : (clOf scope X.env).lookup x = some a) : X.env.cells.lookup x = some a := by
  rcases cl_lookup _ _ h with ⟨h1, h2⟩ | h1
  · obtain ⟨c', e⟩ := c.cl I (x, .free) h1 rfl
    have e' : X.env.cells.lookup x = some c' := e
    rw [e'] at h2 ⊢
    subst h2
    rfl
  · simp at h1
theorem blk_ok (c : CompOk X scope own js) (I : Inv X pins σ H s) (hC : s.heap.objs.size ≤ C) (hf : ∀ b ∈ fp, FpOk X pins H b) (ho : ∀ b ∈ fp, ∃ o, s.heap.get? b = some o) : (X.blk scope own js s H C fp pins).Ok where
  mod := I.ok.mod
  kind := c.kind
  glob := I.ok.glob
  blt := I.ok.blt
  above := hC
  inj := fun x y a h1 h2 => I.ok.inj x y a (c.look I h1) (c.look I h2)
  has := fun x hx => cl_has _ _ (relabel_cf c.cell hx)
  cab := fun x a h => by cases h
  hd := I.ok.hd
  frames := I.ok.frames
  stk := .inl rfl
  exf := fun b hb => by
    obtain ⟨o, e⟩ := ho b hb
    exact ⟨Nat.ne_of_lt (Nat.lt_of_lt_of_le (Heap.lt_size e) hC), fun x a h => (hf b hb).2.2.2.2.1 x a (c.look I h)⟩
  bs := I.bs
  bsz := Nat.le_trans I.ok.bsz I.sz
  noex := fun b o e hb => by
    rcases (hf b hb).2.2.2.1 with z | z
    · exact I.ok.noex b o e z
    · exact absurd (Nat.lt_of_lt_of_le (Heap.lt_size e) (Nat.le_trans I.ok.bsz z)) (Nat.lt_irrefl _)
  exfs := fun b hb hm => by
    rcases List.mem_cons.mp (I.stkSub b hm) with z | z
    · exact (hf b hb).2.1 z
    · exact (hf b hb).2.2.1 z
  funs := I.stack
  frf := I.stkFree
theorem blk_len (own : List Str) (js : List Nat) (σ : St) (X : Cx) : (blkσ own js σ).length = (own ++ js.map fun j => X.N.getD j Str.empty).length := by
  unfold blkσ
  simp
/-- the block's state at its start -/
theorem blk_start {acc : Addr} {m : Str → Option Value} {tk : Nat} {h' : Heap} (c : CompOk X scope own js) (I : Inv X pins σ H s) (hC : s.heap.objs.size ≤ C) (hf : ∀ b ∈ fp, FpOk X pins H b) (ho : ∀ b ∈ fp, ∃ o, s.heap.get? b = some o)
    (hn : h'.Ns C m) (k : ∀ b u, s.heap.get? b = some u → h'.get? b = some u) (hacc : s.heap.objs.size ≤ acc) (haC : acc ≠ C) (hl : h'.get? acc = some { cls := .type "list", data := .seq ([] : List Value).toArray 0 }) :
    Inv (X.blk scope own js s H C fp pins) [] (blkσ own js σ) (upd H acc (.lst [])) { s with heap := h', toks := tk } := by
  have ok := blk_ok c I hC hf ho
  have fresh : ∀ {a : Addr}, s.heap.objs.size ≤ a → H a = none := fun h => I.hok.fresh h
  have neA : ∀ b o, s.heap.get? b = some o → b ≠ acc := fun b o e => Nat.ne_of_lt (Nat.lt_of_lt_of_le (Heap.lt_size e) hacc)
  refine ⟨ok, rfl, I.bare, Un.laid k hacc (fresh hacc), ⟨m, hn, fun i x v e1 e2 e3 => ?_⟩, fun x a e => ?_, ?_, fun x a e => ?_, fun p hp => ?_, I.hok.laid k hacc ⟨Nat.zero_le _, [], 0, .nil, hl⟩, blk_len own js σ X⟩
  · -- an outer name
    have hi : own.length ≤ i := by
      refine Nat.le_of_not_lt fun hi => ?_
      unfold blkσ at e2
      rw [List.getElem?_append_left (by simpa using hi), List.getElem?_map] at e2
      cases q : own[i]? with
      | none => rw [q] at e2; cases e2
      | some z => rw [q] at e2; cases e2
    have e1' : (js.map fun j => X.N.getD j Str.empty)[i - own.length]? = some x := by
      have e1 : (own ++ js.map fun j => X.N.getD j Str.empty)[i]? = some x := e1
      rwa [List.getElem?_append_right hi] at e1
    have e2' : (js.map fun j => (σ[j]?).join)[i - own.length]? = some (some v) := by
      unfold blkσ at e2
      rw [List.getElem?_append_right (by simpa using hi)] at e2
      simpa using e2
    rw [List.getElem?_map] at e1' e2'
    cases q : js[i - own.length]? with
    | none => rw [q] at e1'; cases e1'
    | some j =>
      rw [q] at e1' e2'
      obtain ⟨x', hx', hfree⟩ := c.out j (List.mem_of_getElem? q)
      have ex : x' = x := by
        have : X.N.getD j Str.empty = x := Option.some.inj e1'
        rw [List.getD_eq_getElem?_getD, hx'] at this
        exact this
      subst ex
      have eσ : σ[j]? = some (some v) := by
        have e2'' : (σ[j]?).join = some v := Option.some.inj e2'
        cases r : σ[j]? with
        | none => rw [r] at e2''; cases e2''
        | some z => rw [r] at e2''; cases z with
          | none => cases e2''
          | some y => cases e2''; rfl
      have hmem : (x', NameKind.free) ∈ scope.names := PySem.mem_of_lookup hfree
      have hkX := c.free _ hmem rfl
      have vis : Vis X.env.scope x' := by
        rcases hkX with z | z
        · exact .inr (.inl z)
        · exact .inr (.inr z)
      obtain ⟨m0, hn0, hl0⟩ := I.loc
      obtain ⟨u, r, l⟩ := hl0 j x' v hx' eσ vis
      refine ⟨u, r, .inr ⟨relabel_free hfree, ?_⟩⟩
      obtain ⟨a, ha⟩ := cl_has (env := X.env) scope.names [] hmem
      refine ⟨a, ha, ?_⟩
      have haX := c.look I ha
      rcases l with ⟨z, _⟩ | ⟨_, a', ha', ⟨o, ho', hd⟩⟩
      · have z : X.env.kindOf x' = some .local := z
        rcases hkX with y | y
        · have y : X.env.kindOf x' = some .cell := y
          rw [z] at y; cases y
        · have y : X.env.kindOf x' = some .free := y
          rw [z] at y; cases y
      · rw [haX] at ha'; cases ha'
        exact ⟨o, k _ o ho', hd⟩
  · obtain ⟨v, o, ho', hd⟩ := I.cell x a (c.look I e)
    exact ⟨v, o, k _ o ho', hd⟩
  · show upd H acc (.lst []) C = none
    rw [upd_ne (Ne.symm haC)]
    exact fresh hC
  · have e' := c.look I e
    obtain ⟨v, o, ho', hd⟩ := I.cell x a e'
    rw [upd_ne (neA a o ho')]
    exact I.freeC x a e'
  · have hp : p ∈ X.pn ++ pins := by simpa [Cx.blk] using hp
    obtain ⟨e, n, ne, nf, d⟩ := I.pin p hp
    refine ⟨k _ _ e, by rw [upd_ne (neA _ _ e)]; exact n, Nat.ne_of_lt (Nat.lt_of_lt_of_le (Heap.lt_size e) hC), fun z => ?_, d⟩
    rcases List.mem_cons.mp (I.stkSub _ z) with q | q
    · exact ne q
    · exact nf q
/-- behind the block -/
theorem blk_end {τ : St} {pl : List (Addr × Obj)} (I : Inv X pins σ H s) (hf : ∀ b ∈ fp, FpOk X pins H b) (J : Inv (X.blk scope own js s H C fp pins) pl τ H' s') : Inv X pins σ H' s' :=
  I.call' J.os J.base J.hok J.bare fun b hb => ⟨(hf b hb).2.2.2.1, (hf b hb).2.1, (hf b hb).2.2.2.2.1, (hf b hb).2.2.2.2.2⟩
/-- an untracked object of the block's changes -/
theorem Inv.other {h' : Heap} (I : Inv X pins σ H s) (hs : Heap.SameBut C s.heap h') (hn : H C = none) (hL : C ≠ X.env.locals) (h1 : X.s₀.heap.objs.size ≤ C) (h2 : ∀ x c, X.env.cells.lookup x = some c → c ≠ C) (h3 : ∀ p ∈ X.pn ++ pins, p.1 ≠ C) :
    Inv X pins σ H { s with heap := h' } :=
  I.turned (t' := s.toks) (fun b o hb e => (hs.2 b hb).trans e) hn hL (.inr h1) h2 h3
end

/-- a target keeps the outer names -/
def GKeep (own : List Str) (g : TG) : Prop := ∀ (js : List Nat) (σ : St) (x : V) (H : Hp) (Q : St → Hp → Prop), g x (blkσ own js σ) H Q →
  g x (blkσ own js σ) H fun τ H' => (∀ (j : Nat) v, (blkσ own js σ)[j]? = some (some v) → τ[j]? = some (some v)) ∧ Q τ H'
theorem blkσ_own {own : List Str} {js : List Nat} {σ : St} {i : Nat} {v : V} (hi : i < own.length) : (blkσ own js σ)[i]? ≠ some (some v) := by
  unfold blkσ
  rw [List.getElem?_append_left (by simpa using hi), List.getElem?_map]
  cases own[i]? with
  | none => intro h; cases h
  | some z => intro h; cases h
theorem gkeep_name {own : List Str} {i : Nat} (hi : i < own.length := by decide) : GKeep own (gName i) := fun js σ x H Q h => ⟨fun j v e => by
  have hj : j ≠ i := by rintro rfl; exact blkσ_own hi e
  rw [List.getElem?_set_ne (Ne.symm hj)]
  exact e, h⟩
theorem gkeep_two {K : PySem.W.Frag} {own : List Str} {i k : Nat} (hi : i < own.length := by decide) (hk : k < own.length := by decide) : GKeep own (gTup K 2 (gCons (gName i) (gCons (gName k) gNil))) := fun js σ x H Q h => by
  obtain ⟨a, xs, rfl, hq, hl, v, r, rfl, w, r', rfl, e, h⟩ := h
  refine ⟨a, _, rfl, hq, hl, v, _, rfl, w, r', rfl, e, fun j z e => ?_, h⟩
  have hj : j ≠ i := by rintro rfl; exact blkσ_own hi e
  have hj' : j ≠ k := by rintro rfl; exact blkσ_own hk e
  rw [List.getElem?_set_ne (Ne.symm hj'), List.getElem?_set_ne (Ne.symm hj)]
  exact e
/-- [elt for target in iter if ..]: W the invariant by the turn and the heap, in which acc is the list so far; n: no more turns -/
def tCompW (own : List Str) (js : List Nat) (g : TG) (tt : TT) (te : TE) (σ : St) (J : It) (H1 : Hp) (Q : VK) : Prop :=
  ∀ acc, H1 acc = none → ∃ (W : Nat → Hp → Prop) (n : Nat), W 0 (upd H1 acc (.lst [])) ∧ ∀ i H2, W i H2 →
    (J.stop i H2 ∧ Q (.ref acc) H2) ∨ (i < n ∧ J.go i H2 ∧ ∀ x H3, J.yld i H2 x H3 → g x (blkσ own js σ) H3 fun τ H4 => tt τ H4 fun c H5 =>
      if c = true then te τ H5 fun y H6 => ∃ ys, H6 acc = some (.lst ys) ∧ ys.length < sizeLine ∧ W (i + 1) (upd H6 acc (.lst (ys ++ [y]))) else W (i + 1) H5)
def tComp (own : List Str) (js : List Nat) (wi : TI) (g : TG) (tt : TT) (te : TE) : TE := fun σ H Q => wi σ H fun J H1 => tCompW own js g tt te σ J H1 Q

section
variable {X : Cx} {scope : Scope} {own : List Str} {js : List Nat} {elt iter target : Expr} {ifs : List Expr} {wi : TI} {g : TG} {tt : TT} {te : TE} {pos : Pos}
/-- the block runs -/
theorem blk_run {pins : List (Addr × Obj)} {σ : St} {H2 : Hp} {s₂ : Shared} {it : Addr} {fp : List Addr} {tn : Nat → Heap → Prop} {J : It} {Q : VK} {E : Value → Shared → Prop} {RR : Value → Addr → Result → Shared → Prop}
    (c : CompOk X scope own js) (hc : X.calm = true) (hgk : GKeep own g)
    (hg : ∀ s H C fp pins, PG (X.blk scope own js s H C fp pins) target g) (ht : ∀ s H C fp pins, PTs (X.blk scope own js s H C fp pins) ifs tt) (he : ∀ s H C fp pins, PE (X.blk scope own js s H C fp pins) elt te)
    (I : Inv X pins σ H2 s₂) (T : Turn X.prog X.w X.K target J fp it tn) (st : tn 0 s₂.heap) (hf : ∀ b ∈ fp, FpOk X pins H2 b) (h : tCompW own js g tt te σ J H2 Q)
    (hRR : ∀ acc C H' s' m, s₂.heap.objs.size ≤ C → H' C = none → Inv X pins σ H' s' → s'.heap.Ns C m → Q (.ref acc) H' → RR (.ref acc) C (.ok .next) s') :
    wpAny (model X.prog X.w) X.A (newList []) (fun acc s₃ => wpAny (model X.prog X.w) X.A (newFunctionEnv scope X.env.globals (clOf scope X.env) [] X.env.qual none .none (some X.env)) (fun cenv s₄ =>
      codeAny (model X.prog X.w) X.A (.compStart (.ListComp elt [⟨target, iter, ifs, 0⟩] scope pos) 0 (.ref it) acc { cenv with scope := relabel scope X.env }) (RR acc cenv.locals) s₄) E s₃) E s₂ := by
  refine wpAny_newObj_type (wpAny_newFunctionEnv c.cell (by intro y hy; simp at hy) (fun h₁ hns₁ hsb₁ => ?_) c.kind)
  dsimp only at hns₁ hsb₁ ⊢
  generalize hH2 : s₂.heap.push { cls := .type "list", dict := none, data := .seq ([] : List Value).toArray } = G2 at hns₁ hsb₁ ⊢
  have hC : G2.objs.size = s₂.heap.objs.size + 1 := by rw [← hH2, Heap.size_push]
  have hDC : s₂.heap.objs.size ≠ G2.objs.size := by rw [hC]; exact Nat.ne_of_lt (Nat.lt_succ_self _)
  have hCle : s₂.heap.objs.size ≤ G2.objs.size := by rw [hC]; exact Nat.le_succ _
  have old : ∀ b o, s₂.heap.get? b = some o → h₁.get? b = some o := fun b o e => hsb₁.extBut b o (Nat.ne_of_lt (Nat.lt_of_lt_of_le (Heap.lt_size e) hCle)) (Heap.get?_push_of_some _ (hH2 ▸ Heap.get?_push_of_some _ e))
  have hacc : h₁.get? s₂.heap.objs.size = some { cls := .type "list", data := .seq ([] : List Value).toArray 0 } := hsb₁.extBut _ _ hDC (Heap.get?_push_of_some _ (hH2 ▸ Heap.get?_push_size _ rfl))
  have ho2 : ∀ b ∈ fp, ∃ o, s₂.heap.get? b = some o := fun b hb => let ⟨o, e, _⟩ := T.obj 0 _ st b hb; ⟨o, e⟩
  have I0 : ∀ tk, Inv (X.blk scope own js s₂ H2 G2.objs.size fp pins) [] (blkσ own js σ) (upd H2 s₂.heap.objs.size (.lst [])) { s₂ with heap := h₁, toks := tk } := fun tk =>
    blk_start c I hCle hf ho2 hns₁ old (Nat.le_refl _) hDC hacc
  obtain ⟨W, nn, w0, turn⟩ := h s₂.heap.objs.size (I.hok.fresh (Nat.le_refl _))
  generalize hacc' : s₂.heap.objs.size = acc at *
  generalize hGC : G2.objs.size = C at *
  have st1 : tn 0 h₁ := T.keep 0 _ _ st fun b _ o e => old b o e
  have fOk : ∀ {H' : Hp}, (∀ b ∈ fp, H' b = none) → ∀ b ∈ fp, FpOk (X.blk scope own js s₂ H2 C fp pins) [] H' b := fun hn b hb => by
    obtain ⟨f0, f1, f2, f3, f4, f5⟩ := hf b hb
    obtain ⟨o, e⟩ := ho2 b hb
    refine ⟨hn b hb, Nat.ne_of_lt (Nat.lt_of_lt_of_le (Heap.lt_size e) (by rw [← hacc'] at hCle; exact hCle)), fun z => ?_, .inl hb, fun x a h => f4 x a (c.look I h), fun p hp => f5 p (by simpa [Cx.blk] using hp)⟩
    rcases List.mem_cons.mp (I.stkSub b z) with q | q
    · exact f1 q
    · exact f2 q
  have loop : ∀ s₃ : Shared, s₃ = { s₂ with heap := h₁, toks := s₂.toks + ([] : List (Str × Value)).length } →
      codeAny (model X.prog X.w) X.A (.compLoop (.ListComp elt [⟨target, iter, ifs, 0⟩] scope pos) 0 (.ref it) (.ref acc) (compEnvC scope (clOf scope X.env) C X.env)) (RR (.ref acc) C) s₃ := by
    rintro s₃ rfl
    refine codeAny_compLoop_go (fun n s' => ∃ i H', n = nn - i ∧ Inv (X.blk scope own js s₂ H2 C fp pins) [] (blkσ own js σ) H' s' ∧ tn i s'.heap ∧ (∀ b ∈ fp, H' b = none) ∧ W i H') ?_ nn ⟨0, _, rfl, I0 _, st1, fun b hb => ?_, w0⟩
    · rintro n s3 ⟨i, H3, en, I3, st3, fr3, w3⟩
      rcases turn i H3 w3 with ⟨stop, qn⟩ | ⟨hin, go, step⟩
      · refine thn (T.done (X.blk scope own js s₂ H2 C fp pins) rfl rfl rfl hc i [] s3 _ H3 (fun _ _ => False) I3 (fOk fr3) st3 stop) fun r s4 ⟨hr, I4⟩ => ?_
        subst hr
        obtain ⟨m, hn, _⟩ := I4.loc
        exact hRR acc C H3 s4 m hCle I4.free (blk_end I hf I4) hn qn
      · refine thn (T.item (X.blk scope own js s₂ H2 C fp pins) rfl rfl rfl hc i [] s3 _ H3 (fun _ _ => False) I3 (fOk fr3) st3 go) fun r s4 ⟨u, hr, h4⟩ => ?_
        subst hr
        refine thn h4 fun _ s5 ⟨x, H5, I5, r5, y5, st5, fr5⟩ => ?_
        have I5' := I5.pinned (fOk fr5) (T.obj _ _ st5)
        have again : ∀ {σ7 : St} {H7 : Hp} {s7 : Shared}, Inv (X.blk scope own js s₂ H2 C fp pins) ([] ++ pinsAt fp s5.heap) σ7 H7 s7 → (∀ (j : Nat) v, (blkσ own js σ)[j]? = some (some v) → σ7[j]? = some (some v)) → W (i + 1) H7 →
            ∃ m, m < n ∧ ∃ i H', m = nn - i ∧ Inv (X.blk scope own js s₂ H2 C fp pins) [] (blkσ own js σ) H' s7 ∧ tn i s7.heap ∧ (∀ b ∈ fp, H' b = none) ∧ W i H' := fun {σ7 H7 s7} I7 hw w7 => by
          refine ⟨nn - (i + 1), by omega, i + 1, H7, rfl, (I7.unpinned).weak ((blk_len own js σ X).trans I7.len.symm) hw, T.keep _ _ _ st5 fun b hb o e => (I7.pin (b, o) (List.mem_append_right _ (List.mem_append_right _ (mem_pinsAt hb e)))).1, fun b hb => ?_, w7⟩
          obtain ⟨o, e, d⟩ := T.obj _ _ st5 b hb
          exact (I7.pin (b, o) (List.mem_append_right _ (List.mem_append_right _ (mem_pinsAt hb e)))).2.1
        refine thn (hg s₂ H2 C fp pins _ s5 _ H5 x u _ I5' r5 (hgk _ _ _ _ _ (step x H5 y5))) fun _ s6 ⟨σ6, H6, I6, kp, q6⟩ => ?_
        refine thn (ht s₂ H2 C fp pins _ s6 σ6 H6 _ I6 q6) fun ok s7 ⟨H7, I7, q7⟩ => ?_
        cases ok with
        | false =>
          exact again I7 kp q7
        | true =>
          refine thn (he s₂ H2 C fp pins _ s7 σ6 H7 _ I7 q7) fun y s8 ⟨v, H8, I8, r8, ys, hl, hz, w8⟩ => ?_
          refine thn (mt_append (X := X.blk scope own js s₂ H2 C fp pins) _ s8 σ6 H8 (.ref acc) [v] (.ref acc) [y] (fun _ H9 => W (i + 1) H9) I8 rfl (.cons r8 .nil) ⟨acc, ys, v, rfl, rfl, hl, hz, w8⟩) fun _ s9 ⟨_, H9, I9, _, w9⟩ => ?_
          exact again I9 kp w9
    · rw [upd_ne ?_]
      · exact (hf b hb).1
      · obtain ⟨o, e⟩ := ho2 b hb
        rw [← hacc']
        exact Nat.ne_of_lt (Heap.lt_size e)
  exact codeAny_compStart_list (loop _ rfl) (T.self _ 0 _ _ _ st1 (loop _ rfl))
/-- the comprehension as a value -/
theorem pe_comp (c : CompOk X scope own js) (hc : X.calm = true) (hi : PI X target iter wi) (hgk : GKeep own g)
    (hg : ∀ s H C fp pins, PG (X.blk scope own js s H C fp pins) target g) (ht : ∀ s H C fp pins, PTs (X.blk scope own js s H C fp pins) ifs tt) (he : ∀ s H C fp pins, PE (X.blk scope own js s H C fp pins) elt te)
    (hs : ∀ x, foldedSetIterable iter X.env x = pure x := by intro _; rfl) : PE X (.ListComp elt [⟨target, iter, ifs, 0⟩] scope pos) (tComp own js wi g tt te) := by
  intro pins s σ H Q I h
  rw [eval_ListComp]
  refine wpAny_comprehension_free (use := none) rfl hs (closure_cl (c.cl I)) c.kind c.names (thn (hi pins s σ H _ I h) fun v s1 h1 => thn h1 fun itv s2 h2 => ?_)
  obtain ⟨it, fp, tn, J, H2, e, I2, T, st2, f2, hw⟩ := h2
  subst e
  refine blk_run (RR := fun acc C => compPost (model X.prog X.w) X.A X.xe none (EP X pins σ Q) acc C) c hc hgk hg ht he I2 T st2 f2 hw ?_
  intro acc C H' s' m hCs hCn I' hn q
  refine ⟨m, hn, fun h' hs' => ⟨.ref acc, H', I'.other hs' hCn ?_ ?_ ?_ ?_, rfl, q⟩⟩
  · exact Nat.ne_of_gt (Nat.lt_of_lt_of_le I2.lt hCs)
  · exact Nat.le_trans I2.sz hCs
  · intro x a e z
    obtain ⟨v, q⟩ := I2.cell x a e
    exact absurd (Nat.lt_of_lt_of_le q.lt (by rw [z]; exact hCs)) (Nat.lt_irrefl _)
  · intro p hp z
    exact absurd (Nat.lt_of_lt_of_le (Heap.lt_size (I2.pin p hp).1) (by rw [z]; exact hCs)) (Nat.lt_irrefl _)
end
/-! ### the forms one uses -/
section
variable {K : PySem.W.Frag} {own : List Str} {js : List Nat} {g : TG} {tt : TT} {te : TE} {σ : St} {H1 : Hp} {Q : VK}
/-- over a list that the block leaves as it is -/
theorem comp_list {a : Addr} {xs : List V} (Pv : Addr → Nat → Hp → Prop) (h0 : ∀ acc, H1 acc = none → Pv acc 0 (upd H1 acc (.lst []))) (hl : ∀ acc i H, H1 acc = none → i ≤ xs.length → Pv acc i H → SqL K H a xs)
    (hs : ∀ acc i x H, H1 acc = none → xs[i]? = some x → Pv acc i H → g x (blkσ own js σ) H fun τ H4 => tt τ H4 fun c H5 =>
      if c = true then te τ H5 fun y H6 => ∃ ys, H6 acc = some (.lst ys) ∧ ys.length < sizeLine ∧ (i + 1 ≤ xs.length ∧ Pv acc (i + 1) (upd H6 acc (.lst (ys ++ [y])))) else (i + 1 ≤ xs.length ∧ Pv acc (i + 1) H5))
    (hd : ∀ acc H, H1 acc = none → Pv acc xs.length H → Q (.ref acc) H) : tCompW own js g tt te σ (Itl K a) H1 Q := by
  intro acc hacc
  refine ⟨fun i H => i ≤ xs.length ∧ Pv acc i H, xs.length, ⟨Nat.zero_le _, h0 acc hacc⟩, ?_⟩
  rintro i H ⟨hi, p⟩
  have q := hl acc i H hacc hi p
  by_cases hlt : i < xs.length
  · refine .inr ⟨hlt, ⟨xs, xs[i], q, by simp [hlt]⟩, fun x H' y => ?_⟩
    obtain ⟨e, y⟩ := y
    subst e
    exact hs acc i x _ hacc (y xs q) p
  · have e : i = xs.length := by omega
    subst e
    exact .inl ⟨⟨xs, q, Nat.le_refl _⟩, hd acc H hacc p⟩
/-- over a range -/
theorem comp_range {lo : Int} {n : Nat} (Pv : Addr → Nat → Hp → Prop) (h0 : ∀ acc, H1 acc = none → Pv acc 0 (upd H1 acc (.lst [])))
    (hs : ∀ acc i H, H1 acc = none → i < n → Pv acc i H → g (.int (lo + i)) (blkσ own js σ) H fun τ H4 => tt τ H4 fun c H5 =>
      if c = true then te τ H5 fun y H6 => ∃ ys, H6 acc = some (.lst ys) ∧ ys.length < sizeLine ∧ (i + 1 ≤ n ∧ Pv acc (i + 1) (upd H6 acc (.lst (ys ++ [y])))) else (i + 1 ≤ n ∧ Pv acc (i + 1) H5))
    (hd : ∀ acc H, H1 acc = none → Pv acc n H → Q (.ref acc) H) : tCompW own js g tt te σ (Itr lo n) H1 Q := by
  intro acc hacc
  refine ⟨fun i H => i ≤ n ∧ Pv acc i H, n, ⟨Nat.zero_le _, h0 acc hacc⟩, ?_⟩
  rintro i H ⟨hi, p⟩
  by_cases hlt : i < n
  · refine .inr ⟨hlt, hlt, fun x H' y => ?_⟩
    obtain ⟨e, y⟩ := y
    subst e y
    exact hs acc i _ hacc hlt p
  · have e : i = n := by omega
    subst e
    exact .inl ⟨Nat.le_refl _, hd acc H hacc p⟩
end
/-- a comprehension's scope against its def's, by reckoning -/
def compChk (scope sc : Scope) (js : List Nat) (N : List Str) : Bool :=
  (scope.kind == .function) && (scope.names.all fun y => (y.2 != .cell) && ((y.2 != .free) || (sc.names.lookup y.1 == some .cell) || (sc.names.lookup y.1 == some .free)) && ((y.2 != .local) || (scope.names.lookup y.1 == some .local))) &&
  (js.all fun j => match N[j]? with | some x => scope.names.lookup x == some .free | none => false)
theorem CompOk.by {X : Cx} {scope sc : Scope} {own N : List Str} {js : List Nat} (hX : X.env.scope = sc) (hN : X.N = N) (h : compChk scope sc js N = true) : CompOk X scope own js := by
  unfold compChk at h
  simp only [Bool.and_eq_true, beq_iff_eq, List.all_eq_true, Bool.or_eq_true, bne_iff_ne, ne_eq] at h
  obtain ⟨⟨h1, h2⟩, h3⟩ := h
  refine ⟨h1, fun y hy => (h2 y hy).1.1, fun y hy hf => ?_, fun y hy hl => ?_, fun j hj => ?_⟩
  · show X.env.scope.names.lookup y.1 = _ ∨ X.env.scope.names.lookup y.1 = _
    rw [hX]
    rcases (h2 y hy).1.2 with (z | z) | z
    · exact absurd hf z
    · exact .inl z
    · exact .inr z
  · rcases (h2 y hy).2 with z | z
    · exact absurd hl z
    · exact z
  · have := h3 j hj
    rw [hN]
    cases e : N[j]? with
    | none => rw [e] at this; cases this
    | some x => rw [e] at this; exact ⟨x, rfl, by simpa using this⟩
end L2

set_option Elab.async false
set_option linter.all false
set_option maxRecDepth 100000
set_option maxHeartbeats 4000000
namespace L2
open PySem PySem.Spec PyProof.Rows PySem.SeqAt

section
variable {X : Cx}
theorem Vals.bl_get {bs : List Bool} {us : List Value} (r : Vals (bs.map V.bl) us) {i : Nat} {v : Value} (e : us[i]? = some v) : ∃ b, bs[i]? = some b ∧ v = .bool b := by
  cases q : (bs.map V.bl)[i]? with
  | none =>
    have := r.none_of q
    rw [e] at this; cases this
  | some x =>
    obtain ⟨u, h1, h2⟩ := r.get q
    rw [e] at h1; cases h1
    rw [List.getElem?_map] at q
    cases z : bs[i]? with
    | none => rw [z] at q; cases q
    | some b => rw [z] at q; cases q; exact ⟨b, rfl, h2⟩
theorem range_all {bs : List Bool} : (List.range bs.length).all (fun i => bs.getD i true) = bs.all id := by
  rw [Bool.eq_iff_iff, List.all_eq_true, List.all_eq_true]
  constructor
  · intro h b hb
    obtain ⟨i, hi, e⟩ := List.getElem_of_mem hb
    have := h i (List.mem_range.mpr hi)
    simpa [List.getD_eq_getElem?_getD, hi, e] using this
  · intro h i hi
    have hi' := List.mem_range.mp hi
    have := h bs[i] (List.getElem_mem hi')
    simpa [List.getD_eq_getElem?_getD, hi'] using this
/-- all(..) of a list of bools -/
theorem call_all (hc : X.calm = true) : CallR X (.builtin "all") (fun xs H Q => ∃ (a : Addr) (bs : List Bool), xs = [.ref a] ∧ SqL X.K H a (bs.map V.bl) ∧ Q (.bl (bs.all id)) H) := by
  intro pins s σ H xs us Q I r h
  obtain ⟨a, bs, rfl, hq, q⟩ := h
  obtain ⟨u, rfl, r1⟩ := vals1 r
  cases r1
  obtain ⟨its, rv, p, hz⟩ := I.list hq
  refine call_all_walk (wpAny_pyIter_list p.isList ?_)
  have hlt := (let ⟨o, n, e, _⟩ := p; Heap.lt_size e : a < s.heap.objs.size)
  have hne : a ≠ s.heap.objs.size := Nat.ne_of_lt hlt
  have hlen : its.toArray.size = bs.length := by rw [List.size_toArray, ← rv.length, List.length_map]
  refine ⟨s.heap.objs.size, _, _, _, _, _, fun i => bs.getD i true, rfl, Walks.list (A := X.A.in1) (I.ok.hd hc) _ a hne its.toArray, ⟨⟨_, Heap.get?_push_size _ rfl, rfl, rfl⟩, ?_⟩, ?_, ?_⟩
  · obtain ⟨o, n, e, c, _, d⟩ := p
    exact ⟨o, Heap.get?_push_of_some _ e, c, n, d⟩
  · intro i v s' Q' E' hP hQ
    have hP' : its[i]? = some v := by simpa using hP
    obtain ⟨b, hb, rfl⟩ := rv.bl_get hP'
    refine wpAny_truthy_bool ?_
    dsimp only at hQ
    rw [List.getD_eq_getElem?_getD, hb] at hQ
    exact hQ
  · intro h' tk k
    rw [hlen, range_all]
    refine ⟨.bl (bs.all id), H, I.kept (h' := h') (t' := tk) fun b o e => k b o ?_ (Heap.get?_push_of_some _ e), rfl, q⟩
    intro hm
    have : b = s.heap.objs.size := by simpa using hm
    rw [this] at e
    exact absurd (Heap.lt_size e) (Nat.lt_irrefl _)

/-! ### list.remove of an int -/
theorem Vals.int_at {ns : List Int} {us : List Value} (r : Vals (ns.map V.int) us) {i : Nat} (h : i < ns.length) : ∃ t, us[i]? = some (.int ns[i] t) := by
  have q : (ns.map V.int)[i]? = some (V.int ns[i]) := by rw [List.getElem?_map, List.getElem?_eq_getElem h]; rfl
  obtain ⟨u, h1, t, rfl⟩ := r.get q
  exact ⟨t, h1⟩
/-! ### lists of ints compared -/
theorem ints_at {ns : List Int} {its : List Value} (r : Vals (ns.map V.int) its) {j : Nat} (h : j < its.toArray.size) : ∃ t, its.toArray[j] = .int (ns.getD j 0) t := by
  have hj : j < ns.length := by rw [List.size_toArray, ← r.length, List.length_map] at h; exact h
  obtain ⟨t, q⟩ := r.int_at hj
  obtain ⟨_, q'⟩ := List.getElem?_eq_some_iff.mp q
  exact ⟨t, by simpa [List.getD_eq_getElem?_getD, hj] using q'⟩
end
end L2

set_option Elab.async false
set_option linter.all false
set_option maxRecDepth 100000
set_option maxHeartbeats 4000000
namespace L2
open PySem PySem.Spec PyProof.Rows PySem.SeqAt

/-! ### min of a list whose items are compared in the heap -/
section
variable {prog : Program} {w : World} {A : Around} {R : Result → Shared → Prop} {I : Addr} {fp wr : List Addr} {n : Nat} {P : Nat → Value → Prop} {St : Nat → Heap → Prop}
end
section
variable {X : Cx}
end
end L2

set_option Elab.async false
set_option linter.all false
set_option maxRecDepth 100000
set_option maxHeartbeats 4000000
namespace L2
open PySem PySem.Spec PyProof.Rows PySem.SeqAt

/-! ### enumerate of a list -/
/-- at turn i a new pair (i, the i-th thing) -/
def Ite (K : PySem.W.Frag) (a : Addr) : It :=
  ⟨fun i H => ∃ xs x, SqL K H a xs ∧ xs[i]? = some x, fun i H y H' => ∃ p x, H p = none ∧ y = .ref p ∧ H' = upd H p (.tup [.int i, x]) ∧ ∀ xs, SqL K H a xs → xs[i]? = some x, fun i H => ∃ xs, SqL K H a xs ∧ xs.length ≤ i⟩
theorem turn_enum {P : Program} {w : World} {K : PySem.W.Frag} {es : List Expr} {x1} {pos : Pos} (a it e : Addr) (hne : e ≠ it) : Turn P w K (.Tuple es x1 pos) (Ite K a) [e, it] e (fun i h => (∃ old, IsEnum h e it (i : Nat) old) ∧ h.IsListIter it a i) where
  mem := by simp
  obj := fun i h st b hb => by
    obtain ⟨⟨old, s1⟩, s2⟩ := st
    rcases List.mem_cons.mp hb with z | z
    · subst z
      exact ⟨_, s1, fun v z => nomatch z⟩
    · have z : b = it := by simpa using z
      subst z
      obtain ⟨o, e, c, d⟩ := s2
      exact ⟨o, e, fun v z => by rw [d] at z; cases z⟩
  keep := fun i h h' st k => by
    obtain ⟨⟨old, s1⟩, s2⟩ := st
    exact ⟨⟨old, k e (by simp) _ s1⟩, s2.at fun o q => k it (by simp) o q⟩
  item := by
    intro X hP hw hK hc i pins s σ H E I hf st hg
    subst hP hw hK
    obtain ⟨xs, x, hq, hx⟩ := hg
    obtain ⟨its, rv, p, hz⟩ := I.list hq
    obtain ⟨u, hu, ru⟩ := rv.get hx
    obtain ⟨⟨old, s1⟩, s2⟩ := st
    refine wpAny_pyNext_enum_item s1 s2 p.isList (x := u) (by simpa using hu) hne fun h' ho hit ht hsz hk => ?_
    refine ⟨_, rfl, ?_⟩
    refine wpAny_letOwnedTupleGo_enum ho fun h'' he hs => ?_
    have fresh : H s.heap.objs.size = none := I.hok.fresh (Nat.le_refl _)
    have k : ∀ b o, b ∉ [e, it] → s.heap.get? b = some o → h''.get? b = some o := fun b o hb q => by
      have hb' : b ≠ e ∧ b ≠ it := by simpa using hb
      exact (hs.2 b hb'.1).trans (hk b o hb'.1 hb'.2 q)
    have nE : ∀ b ∈ [e, it], H b = none := fun b hb => (hf b hb).1
    have nit : ∀ b u, H b = some u → b ∉ [e, it] := fun b u q z => by rw [nE b z] at q; cases q
    have hpe : s.heap.objs.size ≠ e := Nat.ne_of_gt (Heap.lt_size s1)
    have htup : h''.get? s.heap.objs.size = some { cls := .type "tuple", data := .seq #[.int i s.toks, u] } := (hs.2 _ hpe).trans ht
    have newOk : ObjOk X.prog X.w (upd H s.heap.objs.size (.tup [.int i, x])) h'' s.heap.objs.size (.tup [.int i, x]) := by
      refine ⟨?_, [.int i s.toks, u], .cons ⟨_, rfl⟩ (.cons ru .nil), ⟨_, htup, rfl, rfl, 0, rfl⟩⟩
      show 2 ≤ sizeLine
      decide
    have I1 : Inv X pins σ (upd H s.heap.objs.size (.tup [.int i, x])) { s with heap := h'', toks := s.toks + 1 } := by
      refine I.step (g' := s.gens) (d' := s.drawn) (ch := [e, it]) (fun b hb => ?_) (fun b o _ _ hc q _ => k b o hc q) (fun b o _ _ hc q _ => ⟨o.slots, k b o hc q⟩) (fun b o _ q n => ?_) (fun b o hc q => ⟨o, k b o hc q⟩)
        (fun b xs q => by rw [upd_ne (ne_of_none q fresh)]; exact q) (fun b o xs q => by rw [upd_ne (ne_of_none q fresh)]; exact q) (fun b ps q => ⟨#[], by rw [upd_ne (ne_of_none q fresh), q]; simp⟩) (fun m hm => ?_) (fun b ob q => ?_) I.bare
      · obtain ⟨f0, f1, f2, f3, f4, f5⟩ := hf b hb
        exact ⟨f3, f1, f4, f5⟩
      · rw [upd_ne (Nat.ne_of_lt (Heap.lt_size q))]
        exact n
      · obtain ⟨o, es, ep, ho, r⟩ := hm
        refine ⟨o, es, ep, k _ o (fun z => ?_) ho, r⟩
        exact (hf _ z).2.1 rfl
      · by_cases hb : b = s.heap.objs.size
        · subst hb
          rw [upd_same] at q; cases q
          exact newOk
        · rw [upd_ne hb] at q
          refine (I.hok b ob q).stay (fun c v hc r => k c v ?_ r) (fun c r => by rw [upd_ne (ne_of_none r fresh)]; exact r) fun c xs r => by rw [upd_ne (ne_of_none r fresh)]; exact r
          rcases hc with z | z
          · rw [z]; exact nit b ob q
          · exact nit c _ z
    refine ⟨.ref s.heap.objs.size, _, I1, rfl, ⟨s.heap.objs.size, x, fresh, rfl, rfl, fun ys hy => by rw [I.list_inj hy hq]; exact hx⟩, ⟨⟨u, ?_⟩, ?_⟩, fun b hb => ?_⟩
    · have he : IsEnum h'' e it ((i : Int) + 1) u := he
      show IsEnum h'' e it ((i + 1 : Nat) : Int) u
      rw [show ((i + 1 : Nat) : Int) = (i : Int) + 1 by omega]
      exact he
    · exact hit.extBut hs.extBut (Ne.symm hne)
    · have lt : b < s.heap.objs.size := by
        rcases List.mem_cons.mp hb with z | z
        · rw [z]; exact Heap.lt_size s1
        · have z : b = it := by simpa using z
          rw [z]
          obtain ⟨o, q, _⟩ := s2
          exact Heap.lt_size q
      rw [upd_ne (Nat.ne_of_lt lt)]
      exact nE b hb
  done := by
    intro X hP hw hK hc i pins s σ H E I hf st hg
    subst hP hw hK
    obtain ⟨xs, hq, hx⟩ := hg
    obtain ⟨its, rv, p, hz⟩ := I.list hq
    obtain ⟨⟨old, s1⟩, s2⟩ := st
    obtain ⟨f0, f1, f2, f3, f4, f5⟩ := hf it (by simp)
    have hl := rv.length
    exact wpAny_pyNext_enum_end (I.ok.hd hc) s1 s2 p.isList (by simp; omega) fun h' eb => ⟨rfl, I.turned (t' := s.toks) (fun b o hb q => eb b o hb q) f0 f1 f3 f4 f5⟩
  self := fun _ _ _ _ _ st h => by
    obtain ⟨⟨old, s1⟩, _⟩ := st
    exact wpAny_pyIter_enum s1 h
section
variable {X : Cx}
/-- isinstance(x, T) for a built-in type -/
theorem call_isinst : CallR X (.builtin "isinstance") (fun xs H Q => ∃ x T t b, xs = [x, .ty T] ∧ TyOf X.K H x t ∧ PySem.W.kitOne X.K t (.type T) = some b ∧ Q (.bl b) H) := by
  intro pins s σ H xs us Q I r h
  obtain ⟨x, T, t, b, rfl, ty, e, q⟩ := h
  obtain ⟨u, u2, rfl, r1, r2⟩ := vals2 r
  cases r2
  exact isinst_ok I r1 ty e fun tk => ⟨.bl b, H, I.tok _, rfl, q⟩
end
end L2

set_option Elab.async false
set_option linter.all false
set_option maxRecDepth 100000
set_option maxHeartbeats 4000000
namespace L2
open PySem PySem.Spec PyProof.Rows

/-! ### lists of pairs as tables -/
section
variable {κ : Type} [DecidableEq κ]
def valV (kvs : List (κ × V)) (k : κ) : Option V := (kvs.find? fun kv => decide (kv.1 = k)).map (·.2)
/-- in its place, or at the end -/
def putK (kvs : List (κ × V)) (k : κ) (v : V) : List (κ × V) :=
  if (kvs.any fun kv => decide (kv.1 = k)) = true then kvs.map (fun kv => if kv.1 = k then (kv.1, v) else kv) else kvs ++ [(k, v)]
theorem valV_pos {p : κ × V} {r : List (κ × V)} {k : κ} (e : p.1 = k) : valV (p :: r) k = some p.2 := by simp [valV, List.find?_cons, e]
theorem valV_neg {p : κ × V} {r : List (κ × V)} {k : κ} (e : ¬ p.1 = k) : valV (p :: r) k = valV r k := by simp [valV, List.find?_cons, e]
theorem valV_any (k : κ) : ∀ kvs : List (κ × V), (kvs.any fun kv => decide (kv.1 = k)) = (valV kvs k).isSome
  | [] => rfl
  | p :: r => by
    rw [List.any_cons]
    by_cases e : p.1 = k
    · simp only [valV_pos e, decide_eq_true e, Bool.true_or, Option.isSome_some]
    · rw [valV_neg e, decide_eq_false e, Bool.false_or]; exact valV_any k r
theorem length_putK (kvs : List (κ × V)) (k : κ) (v : V) : (putK kvs k v).length ≤ kvs.length + 1 := by
  unfold putK
  split
  · rw [List.length_map]; omega
  · rw [List.length_append, List.length_cons, List.length_nil]; omega
theorem putK_new {kvs : List (κ × V)} {k : κ} (v : V) (h : valV kvs k = none) : putK kvs k v = kvs ++ [(k, v)] := by
  unfold putK
  rw [valV_any, h]
  exact if_neg (by decide)

theorem RelO.isSome_eq {o : Option V} {u : Option Value} (r : RelO o u) : o.isSome = u.isSome := by
  cases o with
  | none => cases u with
    | none => rfl
    | some _ => exact (show False from r).elim
  | some _ => cases u with
    | none => exact (show False from r).elim
    | some _ => rfl
/-- raw tables of the same keys -/
theorem KV.val {kvs : List (κ × V)} {vs : List (κ × Value)} (r : KV kvs vs) (k : κ) : RelO (valV kvs k) (valueAt vs k) := by
  unfold KV at r
  induction r with
  | nil => exact True.intro
  | @cons p q ps qs h t ih =>
    obtain ⟨h1, h2⟩ := h
    by_cases e : p.1 = k
    · have e' : q.1 = k := h1.symm.trans e
      have b : valueAt (q :: qs) k = some q.2 := by simp [valueAt, List.find?_cons, e']
      rw [valV_pos e, b]; exact h2
    · have e' : ¬ q.1 = k := fun z => e (h1.trans z)
      have b : valueAt (q :: qs) k = valueAt qs k := by simp [valueAt, List.find?_cons, e']
      rw [valV_neg e, b]; exact ih
theorem KV.any {kvs : List (κ × V)} {vs : List (κ × Value)} (r : KV kvs vs) (k : κ) : (kvs.any fun kv => decide (kv.1 = k)) = vs.any fun kv => decide (kv.1 = k) := by
  unfold KV at r
  induction r with
  | nil => rfl
  | cons h t ih => rw [List.any_cons, List.any_cons, ih, h.1]
theorem KV.repl {kvs : List (κ × V)} {vs : List (κ × Value)} (r : KV kvs vs) (k : κ) {y : V} {u : Value} (ry : RelV y u) :
    KV (kvs.map fun kv => if kv.1 = k then (kv.1, y) else kv) (vs.map fun kv => if kv.1 = k then (kv.1, u) else kv) := by
  unfold KV at r ⊢
  induction r with
  | nil => exact .nil
  | @cons p q ps qs h t ih =>
    rw [List.map_cons, List.map_cons]
    refine .cons ?_ ih
    obtain ⟨h1, h2⟩ := h
    by_cases e : p.1 = k
    · rw [if_pos e, if_pos (h1.symm.trans e)]; exact ⟨h1, ry⟩
    · rw [if_neg e, if_neg (fun z => e (h1.trans z))]; exact ⟨h1, h2⟩
theorem KV.put {kvs : List (κ × V)} {vs : List (κ × Value)} (r : KV kvs vs) (k : κ) {y : V} {u : Value} (ry : RelV y u) : KV (putK kvs k y) (stored vs k u) := by
  unfold putK stored
  rw [r.any k]
  by_cases e : (vs.any fun kv => decide (kv.1 = k)) = true
  · rw [if_pos e, if_pos e]; exact r.repl k ry
  · rw [if_neg e, if_neg e]; exact Paired.snoc r ⟨rfl, ry⟩
theorem KV.length {kvs : List (κ × V)} {vs : List (κ × Value)} (r : KV kvs vs) : kvs.length = vs.length := Paired.length r
end


/-! ### a tracked dict, its keys ints and texts or tuples of these -/
theorem kV_is {P : Program} {w : World} {k : Key} {u : Value} (r : RelV (kV k) u) : (mixKind P w).is k u = true := by
  cases k with
  | inl i => obtain ⟨t, e⟩ := (show ∃ t, u = Value.int i t from r); subst e; exact mixKind_int P w i t
  | inr x => obtain ⟨t, e⟩ := (show ∃ t, u = Value.str x t from r); subst e; exact mixKind_str P w x t
theorem items_are {P : Program} {w : World} : ∀ {ks : List Key} {us : List Value}, Vals (ks.map kV) us → ItemsAre (mixKind P w) ks us
  | [], _, r => by rw [List.map_nil] at r; cases r; exact .nil
  | k :: ks, _, r => by
    rw [List.map_cons] at r
    cases r with
    | cons h t => exact .cons (kV_is h) (items_are t)

/-- raw entries of a dict with tuple keys -/
abbrev KT (H : Hp) : List (List Key × V) → List (List Key × Addr × Value) → Prop := Paired fun p q => p.1 = q.1 ∧ H q.2.1 = some (.tup (p.1.map kV)) ∧ RelV p.2 q.2.2
theorem KT.val {H : Hp} {kvs : List (List Key × V)} {xs : List (List Key × Addr × Value)} (r : KT H kvs xs) (k : List Key) : RelO (valV kvs k) ((atKey xs k).map (·.2)) := by
  induction r with
  | nil => exact True.intro
  | @cons p q ps qs h t ih =>
    obtain ⟨h1, _, h2⟩ := h
    by_cases e : p.1 = k
    · have e' : q.1 = k := h1.symm.trans e
      have b : atKey (q :: qs) k = some q.2 := by simp [atKey, List.find?_cons, e']
      rw [valV_pos e, b]; exact h2
    · have e' : ¬ q.1 = k := fun z => e (h1.trans z)
      have b : atKey (q :: qs) k = atKey qs k := by simp [atKey, List.find?_cons, e']
      rw [valV_neg e, b]; exact ih
theorem KT.repl {H : Hp} {kvs : List (List Key × V)} {xs : List (List Key × Addr × Value)} (r : KT H kvs xs) (k : List Key) {y : V} {u : Value} (ry : RelV y u) :
    KT H (kvs.map fun kv => if kv.1 = k then (kv.1, y) else kv) (xs.map (putAt k u)) := by
  induction r with
  | nil => exact .nil
  | @cons p q ps qs h t ih =>
    rw [List.map_cons, List.map_cons]
    refine .cons ?_ ih
    obtain ⟨h1, h2, h3⟩ := h
    unfold putAt
    by_cases e : p.1 = k
    · rw [if_pos e, if_pos (h1.symm.trans e)]; exact ⟨h1, h2, ry⟩
    · rw [if_neg e, if_neg (fun z => e (h1.trans z))]; exact ⟨h1, h2, h3⟩
theorem KT.put {H : Hp} {kvs : List (List Key × V)} {xs : List (List Key × Addr × Value)} (r : KT H kvs xs) (k : List Key) {b : Addr} {y : V} {u : Value} (hb : H b = some (.tup (k.map kV))) (ry : RelV y u) :
    KT H (putK kvs k y) (storedH xs k b u) := by
  have e : (kvs.any fun kv => decide (kv.1 = k)) = (atKey xs k).isSome := by
    rw [valV_any, (r.val k).isSome_eq, Option.isSome_map]
  unfold putK storedH
  rw [e]
  by_cases q : (atKey xs k).isSome = true
  · rw [if_pos q, if_pos q]; exact r.repl k ry
  · rw [if_neg q, if_neg q]; exact Paired.snoc r ⟨rfl, hb, ry⟩
theorem KT.keeps {H H' : Hp} {kvs : List (List Key × V)} {xs : List (List Key × Addr × Value)} (r : KT H kvs xs) (ht : ∀ b ys, H b = some (.tup ys) → H' b = some (.tup ys)) : KT H' kvs xs :=
  Paired.mapP r fun _ _ z => ⟨z.1, ht _ _ z.2.1, z.2.2⟩

section
variable {P : Program} {w : World} {H : Hp} {h : Heap} {a : Addr}
theorem rd_of {u : HO} (ok : HOk P w H h) (e : Rd H a u) : ObjOk P w H h a u := e.ok ok
theorem dk_rd {kvs : List (Key × V)} (ok : HOk P w H h) (e : Rd H a (.dK kvs)) : kvs.length ≤ sizeLine ∧ (a == sysModules) = false ∧ ∃ vs, KV kvs vs ∧ h.DictOf (mixKind P w) a vs :=
  show ObjOk P w H h a (.dK kvs) from rd_of ok e
theorem dk_of {kvs : List (Key × V)} (ok : HOk P w H h) (e : H a = some (.dK kvs)) : kvs.length ≤ sizeLine ∧ (a == sysModules) = false ∧ ∃ vs, KV kvs vs ∧ h.DictOf (mixKind P w) a vs := dk_rd ok (.inl e)
/-- a tracked tuple of ints and texts is a key -/
theorem key_of {ks : List Key} (ok : HOk P w H h) (e : H a = some (.tup (ks.map kV))) : (tupleKind (mixKind P w)).is h ks a := by
  obtain ⟨_, its, r, o, h1, h2, _, n, h3⟩ := (show ObjOk P w H h a (.tup (ks.map kV)) from ok a _ e)
  exact ⟨o, its.toArray, n, h1, h2, h3, by simpa using items_are r⟩
theorem dt_rd {kvs : List (List Key × V)} (ok : HOk P w H h) (e : Rd H a (.dT kvs)) : kvs.length ≤ sizeLine ∧ (a == sysModules) = false ∧
    ∃ xs, KT H kvs xs ∧ h.DictOfH (tupleKind (mixKind P w)) a xs := by
  obtain ⟨z, y, xs, r, o, es, ep, h1, h2, h3, h4, h5⟩ := (show ObjOk P w H h a (.dT kvs) from rd_of ok e)
  refine ⟨z, y, xs, r, o, es, ep, h1, h2, h3, h4, fun x hx => ?_, h5⟩
  have all : ∀ {l : List (List Key × V)} {m : List (List Key × Addr × Value)}, KT H l m → ∀ x ∈ m, (tupleKind (mixKind P w)).is h x.1 x.2.1 := by
    intro l m q
    induction q with
    | nil => intro x hx; exact nomatch hx
    | @cons p q ps qs hq t ih =>
      intro x hx
      rcases List.mem_cons.mp hx with e | hx
      · subst e
        exact key_of ok (by rw [← hq.1]; exact hq.2.1)
      · exact ih x hx
  exact all r x hx
theorem dt_of {kvs : List (List Key × V)} (ok : HOk P w H h) (e : H a = some (.dT kvs)) : kvs.length ≤ sizeLine ∧ (a == sysModules) = false ∧
    ∃ xs, KT H kvs xs ∧ h.DictOfH (tupleKind (mixKind P w)) a xs := dt_rd ok (.inl e)
end

/-- what the dict at a holds at the key y -/
def DGet (H : Hp) (a : Addr) (y : V) (r : Option V) : Prop :=
  (∃ kvs k, Rd H a (.dK kvs) ∧ y = kV k ∧ r = valV kvs k) ∨ ∃ kvs k b, Rd H a (.dT kvs) ∧ y = .ref b ∧ H b = some (.tup (k.map kV)) ∧ r = valV kvs k
/-- the heap behind a[y] = v -/
def DPut (H : Hp) (a : Addr) (y v : V) (H' : Hp) : Prop :=
  (∃ kvs k, H a = some (.dK kvs) ∧ y = kV k ∧ kvs.length < sizeLine ∧ H' = upd H a (.dK (putK kvs k v))) ∨
  ∃ kvs k b, H a = some (.dT kvs) ∧ y = .ref b ∧ H b = some (.tup (k.map kV)) ∧ kvs.length < sizeLine ∧ H' = upd H a (.dT (putK kvs k v))
theorem DGet.t {H : Hp} {a b : Addr} {kvs : List (List Key × V)} {k : List Key} (e : H a = some (.dT kvs)) (eb : H b = some (.tup (k.map kV))) : DGet H a (.ref b) (valV kvs k) := .inr ⟨kvs, k, b, .inl e, rfl, eb, rfl⟩
theorem DPut.t {H : Hp} {a b : Addr} {kvs : List (List Key × V)} {k : List Key} {v : V} (e : H a = some (.dT kvs)) (eb : H b = some (.tup (k.map kV))) (hl : kvs.length < sizeLine) :
    DPut H a (.ref b) v (upd H a (.dT (putK kvs k v))) := .inr ⟨kvs, k, b, e, rfl, eb, hl, rfl⟩


section
variable {X : Cx} {pins : List (Addr × Obj)} {σ : St} {H : Hp} {s : Shared} {a : Addr} {y v : V} {u r : Value} {o : Option V} {A : Around} {E : Value → Shared → Prop}

theorem Inv.big (I : Inv X pins σ H s) : sysModules < s.heap.objs.size := by
  have h : mainGlobals < s.heap.objs.size := (I.mod.glob.keeps I.bk).lt
  exact Nat.lt_trans (by decide) h

/-- y in d -/
theorem d_in {Q : Value → Shared → Prop} (hu : A.units + 1 < cLine) (I : Inv X pins σ H s) (g : DGet H a y o) (ry : RelV y u) (h : ∀ s', Inv X pins σ H s' → Q (.bool o.isSome) s') :
    wpAny (model X.prog X.w) A (compareOp .In u (.ref a)) Q E s := by
  rcases g with ⟨kvs, k, e, ey, l⟩ | ⟨kvs, k, b, e, ey, eb, l⟩
  · subst ey
    obtain ⟨z, hd, vs, rel, dd⟩ := dk_rd I.hok e
    refine wpAny_in_of (kV_is ry) hd dd.mapOf ?_
    rw [← (rel.val k).isSome_eq, ← l]
    exact h _ (I.tok _)
  · subst ey
    cases (show u = Value.ref b from ry)
    obtain ⟨z, hd, xs, rel, dd⟩ := dt_rd I.hok e
    refine wpAny_in_heap (tupleKind_room_in1 hu) (key_of I.hok eb) hd dd ?_
    have q := (rel.val k).isSome_eq
    rw [Option.isSome_map] at q
    rw [← q, ← l]
    exact h _ (I.tok _)
/-- a dict's object is replaced -/
theorem d_write {h' : Heap} {t' : Nat} {ob : HO} (I : Inv X pins σ H s) (mu : Mut (H a)) (hs : Heap.SameBut a s.heap h') (he : ∃ q, h'.get? a = some q) (new : ObjOk X.prog X.w (upd H a ob) h' a ob) :
    Inv X pins σ (upd H a ob) { s with heap := h', toks := t' } :=
  I.write (x := a) (e := a) mu (.inl rfl) (fun b q hb z => (hs.2 b hb).trans z) he new
theorem dk_new {P : Program} {w : World} {H' : Hp} {h' : Heap} {kvs : List (Key × V)} {vs : List (Key × Value)} (z : kvs.length ≤ sizeLine) (hd : (a == sysModules) = false) (rel : KV kvs vs) (dd : h'.DictOf (mixKind P w) a vs) :
    ObjOk P w H' h' a (.dK kvs) := ⟨z, hd, vs, rel, dd⟩
/-- d[y] = v -/
theorem d_setItem {H' : Hp} {Q : Unit → Shared → Prop} (hu : A.units + 1 < cLine) (I : Inv X pins σ H s) (g : DPut H a y v H') (ry : RelV y u) (rv : RelV v r) (h : ∀ s', Inv X pins σ H' s' → Q () s') :
    wpAny (model X.prog X.w) A (setItem (.ref a) u r) Q E s := by
  rcases g with ⟨kvs, k, e, ey, l, eH⟩ | ⟨kvs, k, b, e, ey, eb, l, eH⟩
  · subst ey eH
    obtain ⟨z, hd, vs, rel, dd⟩ := dk_of I.hok e
    have hz : vs.length ≤ sizeLine := by rw [← rel.length]; exact z
    have hl : (putK kvs k v).length ≤ sizeLine := by have := length_putK kvs k v; omega
    refine wpAny_setItem_pairs (hsz := hz) (kV_is ry) dd fun h' dd' hs => h _ ?_
    have he : ∃ q, h'.get? a = some q := let ⟨q, _, _, hq, _⟩ := dd'; ⟨q, hq⟩
    exact d_write I (by rw [e]; exact True.intro) hs he (dk_new hl hd (rel.put k rv) dd')
  · subst ey eH
    cases (show u = Value.ref b from ry)
    obtain ⟨z, hd, xs, rel, dd⟩ := dt_of I.hok e
    have hz : xs.length ≤ sizeLine := by rw [← Paired.length rel]; exact z
    have hl : (putK kvs k v).length ≤ sizeLine := by have := length_putK kvs k v; omega
    refine wpAny_setItem_heap (hsz := hz) (tupleKind_room_in1 hu) (key_of I.hok eb) dd fun h' dd' hs => h _ ?_
    obtain ⟨q, es, ep, hq, h2, h3, h4, _, h5⟩ := dd'
    refine d_write I (by rw [e]; exact True.intro) hs ⟨q, hq⟩ ⟨hl, hd, _, (rel.put k eb rv).keeps fun c ys ec => ?_, q, es, ep, hq, h2, h3, h4, h5⟩
    rw [upd_ne (ne_of ec e (fun z => nomatch z))]
    exact ec
end

section
variable {X : Cx} {pins : List (Addr × Obj)} {σ : St} {H : Hp} {s : Shared} {a : Addr} {kvs : List (Key × V)} {k : Key} {u : Value} {A : Around} {E : Value → Shared → Prop}
end


/-! ### readings and rules -/
/-- y in d, y not in d -/
def tDIn (ty td : TE) : TE := fun σ H Q => ty σ H fun y H1 => td σ H1 fun x H2 => ∃ a o, x = .ref a ∧ DGet H2 a y o ∧ Q (.bl o.isSome) H2
/-- d[y] = v -/
def sDPut (td ty tv : TE) : TS := fun D σ H => tv σ H fun v H1 => td σ H1 fun x H2 => ty σ H2 fun y H3 => ∃ a H4, x = .ref a ∧ DPut H3 a y v H4 ∧ D.nx σ H4
section
variable {X : Cx} {o i e value : Expr} {pos pos' tpos : Pos} {td ty tv : TE}
theorem pc_din (hu : X.A.units + 1 < cLine) (hi : PE X i ty) (ho : PE X o td) : PC X .In i o (tDIn ty td) := by
  intro pins s σ H Q I h
  refine thn (hi pins s σ H _ I h) fun iv s1 ⟨y, H1, I1, ry, q1⟩ => thn (ho pins s1 σ H1 _ I1 q1) fun u s2 ⟨x, H2, I2, rx, a, ov, ex, g, q2⟩ => ?_
  subst ex
  obtain rfl : u = Value.ref a := rx
  exact d_in hu I2 g ry fun s3 I3 => ⟨.bl ov.isSome, H2, I3, rfl, q2⟩
theorem ps_dput (hu : X.A.units + 1 < cLine) (ho : PE X o td) (hi : PE X i ty) (hv : PE X value tv) (hs : swapsWith value (some (.Subscript o i pos')) pos.line X.env = pure false) :
    PS X (.Assign [.Subscript o i pos'] value pos) (sDPut td ty tv) := by
  intro pins s σ H D I h
  refine wpAny_Assign_Subscript (thn (hv pins s σ H _ I h) fun r s1 ⟨v, H1, I1, rv, q1⟩ => thn (ho pins s1 σ H1 _ I1 q1) fun u s2 ⟨x, H2, I2, rx, q2⟩ => thn (hi pins s2 σ H2 _ I2 q2) fun iv s3 ⟨y, H3, I3, ry, a, H4, ex, g, q3⟩ => ?_) hs
  subst ex
  obtain rfl : u = Value.ref a := rx
  exact d_setItem hu I3 g ry rv fun s4 I4 => ⟨σ, H4, I4, q3⟩
end


/-! ### displays -/
theorem dk_empty {P : Program} {w : World} {H : Hp} (h : Heap) (hb : sysModules < h.objs.size) : ObjOk P w H (h.push { cls := .type "dict", data := .dict #[] }) h.objs.size (.dK []) :=
  ⟨Nat.zero_le _, beq_eq_false_iff_ne.mpr (Ne.symm (Nat.ne_of_lt hb)), [], .nil, Heap.DictOf.new h⟩
theorem dt_empty {P : Program} {w : World} {H : Hp} (h : Heap) (hb : sysModules < h.objs.size) : ObjOk P w H (h.push { cls := .type "dict", data := .dict #[] }) h.objs.size (.dT []) :=
  ⟨Nat.zero_le _, beq_eq_false_iff_ne.mpr (Ne.symm (Nat.ne_of_lt hb)), [], .nil, _, #[], 0, Heap.get?_push_size _ rfl, ⟨rfl, rfl, rfl⟩, rfl, rfl, List.nodup_nil⟩
/-- {}, to be a dict of the kind that is wanted -/
def tDNewK : TE := fun _ H Q => ∀ p, H p = none → Q (.ref p) (upd H p (.dK []))
def tDNewT : TE := fun _ H Q => ∀ p, H p = none → Q (.ref p) (upd H p (.dT []))
section
variable {X : Cx} {pos : Pos}
theorem pe_dnewK : PE X (.Dict [] [] pos) tDNewK := fun pins s σ H Q I h =>
  wpAny_Dict_empty ⟨.ref s.heap.objs.size, _, I.laid (a := s.heap.objs.size) (o := .dK []) (t' := s.toks) (fun _ _ q => Heap.get?_push_of_some _ q) (Nat.le_refl _) (dk_empty s.heap I.big), rfl, h _ (I.hok.fresh (Nat.le_refl _))⟩
theorem pe_dnewT : PE X (.Dict [] [] pos) tDNewT := fun pins s σ H Q I h =>
  wpAny_Dict_empty ⟨.ref s.heap.objs.size, _, I.laid (a := s.heap.objs.size) (o := .dT []) (t' := s.toks) (fun _ _ q => Heap.get?_push_of_some _ q) (Nat.le_refl _) (dt_empty s.heap I.big), rfl, h _ (I.hok.fresh (Nat.le_refl _))⟩
end

/-! ### methods -/
/-- a method call o.m(e) of a built-in, with one argument: what must be seen of the text -/
structure M1 (X : Cx) (o : Expr) (m : Str) (apos : Pos) (e : Expr) (cpos : Pos) : Prop where
  base : attributeBase o m X.env (eval o X.env) = eval o X.env
  few : ((backTo cpos (starEach [e] X.env)).all (fun x => !x.1) && (backToKw cpos (keywordEach [] X.env)).all (fun x => x.1.isSome)
    && decide (([e] : List Expr).length + ([] : List Keyword).length + (if ([] : List Keyword).isEmpty then 0 else 1) < 30)) = true
  line : (apos.endLine == cpos.line) = true
  trees : backTo cpos (starEach [e] X.env) = [(false, eval e X.env)]
structure M2 (X : Cx) (o : Expr) (m : Str) (apos : Pos) (e f : Expr) (cpos : Pos) : Prop where
  base : attributeBase o m X.env (eval o X.env) = eval o X.env
  few : ((backTo cpos (starEach [e, f] X.env)).all (fun x => !x.1) && (backToKw cpos (keywordEach [] X.env)).all (fun x => x.1.isSome)
    && decide (([e, f] : List Expr).length + ([] : List Keyword).length + (if ([] : List Keyword).isEmpty then 0 else 1) < 30)) = true
  line : (apos.endLine == cpos.line) = true
  trees : backTo cpos (starEach [e, f] X.env) = [(false, eval e X.env), (false, eval f X.env)]

section
variable {X : Cx} {pins : List (Addr × Obj)} {σ : St} {H : Hp} {s : Shared} {a : Addr} {y d : V} {u r : Value} {o : Option V} {A : Around} {E : Value → Shared → Prop}
end

section
variable {X : Cx} {o e f : Expr} {apos cpos : Pos} {td ty tx : TE}
end

/-! ### dict(d): a copy -/
section
variable {X : Cx} {pins : List (Addr × Obj)} {σ : St} {H : Hp} {s : Shared} {a : Addr} {kvs : List (Key × V)} {A : Around} {E : Value → Shared → Prop}
end


section
variable {X : Cx} {pins : List (Addr × Obj)} {σ : St} {H : Hp} {s : Shared} {a : Addr} {y : V} {u : Value} {A : Around} {E : Value → Shared → Prop}
end
end L2
namespace L2
open PySem PySem.Spec PyProof.Rows
/-! ### a dict's pairs: keys that differ -/
section
variable {κ : Type} [DecidableEq κ]
end
end L2

set_option Elab.async false
set_option linter.all false
set_option maxRecDepth 100000
set_option maxHeartbeats 4000000
namespace L2
open PySem PySem.Spec PyProof.Rows PySem.SeqAt
/-! ### enumerate of a tuple -/
section
variable {prog : Program} {w : World} {A : Around} {E : Value → Shared → Prop} {s : Shared}
theorem nextOf_tup {it t : Addr} {i : Nat} {items : Array Value} {x : Value} {Q : Value → Shared → Prop} (hit : s.heap.IsTupleIter it t i) (ht : s.heap.IsTuple t items) (hx : items[i]? = some x)
    (hQ : ∀ h', h'.IsTupleIter it t (i + 1) → Heap.SameBut it s.heap h' → Q x { s with heap := h' }) : wpAny (model prog w) A (Builtin.SmallTypes.nextOf (.ref it)) Q E s := by
  obtain ⟨o, ho, hc, hd⟩ := id hit
  obtain ⟨ol, hol, _, nl, hdl⟩ := ht
  unfold Builtin.SmallTypes.nextOf
  refine wpAny_bind (wpAny_callSpecial?_slot (name := Str.ofString "__next__") hit.typeIs F.slot_tuple_iterator_next (wpAny_call_entry F.slot_tuple_iterator_next hit.typeIs F.entry_tuple_iterator_next ?_ (F.args_tuple_iterator_next_1 _)))
  show wpAny _ _ (field (.ref it) 0 >>= _) _ _ s
  refine wpAny_bind (wpAny_field ho hd (x := .ref t) rfl ?_)
  show wpAny _ _ (if (Value.ref t == Value.none) = true then _ else _) _ _ s
  rw [if_neg (show ¬ ((Value.ref t == Value.none) = true) from Bool.false_ne_true)]
  show wpAny _ _ (field (.ref it) 1 >>= _) _ _ s
  refine wpAny_bind (wpAny_field ho hd (x := .int i 0) rfl ?_)
  show wpAny _ _ (seqItems? (.ref t) >>= _) _ _ s
  refine wpAny_bind (wpAny_seqItems hol hdl ?_)
  simp only [Int.toNat_natCast, hx]
  refine wpAny_bind (wpAny_setField ho hd (by simp) (wpAny_pure ⟨x, rfl, wpAny_pure (hQ _ ?_ (Heap.SameBut.update ..))⟩))
  exact ⟨_, Heap.get?_update_self _ ho (Obj.isFreed_of_fields (Obj.data_mapFields hd _)), (Obj.cls_mapFields ..).trans hc, by rw [Obj.data_mapFields hd]; simp [rawInt]⟩
theorem nextOf_tup_end {it t : Addr} {i : Nat} {items : Array Value} {Q : Value → Shared → Prop} (hh : A.handled = none) (hit : s.heap.IsTupleIter it t i) (ht : s.heap.IsTuple t items) (hx : items[i]? = none)
    (hE : ∀ h' e, Heap.ExtBut it s.heap h' → (∃ o, h'.get? e = some o ∧ o.cls = .type "StopIteration") → E (.ref e) { s with heap := h' }) : wpAny (model prog w) A (Builtin.SmallTypes.nextOf (.ref it)) Q E s := by
  obtain ⟨o, ho, hc, hd⟩ := id hit
  obtain ⟨ol, hol, _, nl, hdl⟩ := ht
  unfold Builtin.SmallTypes.nextOf
  refine wpAny_bind (wpAny_callSpecial?_slot (name := Str.ofString "__next__") hit.typeIs F.slot_tuple_iterator_next (wpAny_call_entry F.slot_tuple_iterator_next hit.typeIs F.entry_tuple_iterator_next ?_ (F.args_tuple_iterator_next_1 _)))
  show wpAny _ _ (field (.ref it) 0 >>= _) _ _ s
  refine wpAny_bind (wpAny_field ho hd (x := .ref t) rfl ?_)
  show wpAny _ _ (if (Value.ref t == Value.none) = true then _ else _) _ _ s
  rw [if_neg (show ¬ ((Value.ref t == Value.none) = true) from Bool.false_ne_true)]
  show wpAny _ _ (field (.ref it) 1 >>= _) _ _ s
  refine wpAny_bind (wpAny_field ho hd (x := .int i 0) rfl ?_)
  show wpAny _ _ (seqItems? (.ref t) >>= _) _ _ s
  refine wpAny_bind (wpAny_seqItems hol hdl ?_)
  simp only [Int.toNat_natCast, hx]
  refine wpAny_bind (wpAny_rule (wpAny_bind (wpAny_setField ho hd (by simp) ?_)))
  show wpAny _ _ (newExc (.type "StopIteration") [] >>= _) _ _ _
  refine wpAny_bind ?_
  simp only [newExc, newTuple]
  refine wpAny_bind (wpAny_newObj_type ?_ (by size_fits))
  refine wpAny_bind (m := firstArgMember _ _) (wpAny_of_eq (a := Value.none) (by first | rfl | (simp only [firstArgMember]; rfl)) ?_)
  refine wpAny_newObj_type ?_ (by size_fits)
  simp only [raiseNew]
  refine wpAny_bind (wpAny_handled ?_)
  first | rw [show A.in1.handled = none from hh] | rw [hh]
  refine wpAny_bind (wpAny_pure (wpAny_throw ?_))
  exact hE _ _ (((Heap.SameBut.update ..).extBut.push _).push _) ⟨_, Heap.get?_push_size _ rfl, rfl⟩
theorem draws_tup (hh : A.handled = none) (it l : Addr) (hne : l ≠ it) (items : Array Value) : Draws prog w A it [it, l] items.size (fun i v => items[i]? = some v) (fun i h => h.IsTupleIter it l i ∧ h.IsTuple l items) where
  live := fun _ _ st => let ⟨o, ho, _⟩ := st.1; ⟨o, ho⟩
  frame := fun _ _ _ st hk => ⟨st.1.at fun o e => hk it (by simp) o e, let ⟨o, e, c⟩ := st.2; ⟨o, hk l (by simp) o e, c⟩⟩
  item := fun i s Q E hi st hQ => by
    refine nextOf_tup st.1 st.2 (x := items[i]) (by simp [hi]) fun h' hit' hs' => ?_
    exact hQ _ h' s.toks (by simp [hi]) ⟨hit', let ⟨o, e, c⟩ := st.2; ⟨o, (hs'.2 l hne).trans e, c⟩⟩ hs'
  done := fun s Q E st hE => nextOf_tup_end hh st.1 st.2 (by simp) hE
end
theorem enum_new_tup (l : Addr) (items : Array Value) (n : Nat) (dct : Option Addr) (sl : Array (Option Value)) :
    Meets (Builtin.«enumerate.__new__» ⟨[.type "enumerate", .ref l], []⟩) (fun _ R s => s.heap.get? l = some { cls := .type "tuple", dict := dct, data := .seq items n, slots := sl } ∧
      R (.ok (.ret (.ref (s.heap.push { cls := .type "tuple_iterator", data := .fields #[.ref l, .int 0 0] }).objs.size)))
        { s with heap := (s.heap.push { cls := .type "tuple_iterator", data := .fields #[.ref l, .int 0 0] }).push { cls := .type "enumerate", data := .fields #[.none, .bool false, .ref s.heap.objs.size, rawInt 0, .none, .none] } }) :=
  .of_wp fun prog w A R s h => by
    obtain ⟨hp, g, d, tk, os⟩ := s; obtain ⟨hl, h⟩ := h
    have hsub := sub_enumerate
    have hL : Heap.IsTuple (Shared.heap ⟨hp, g, d, tk, os⟩) l items := ⟨_, hl, rfl, n, rfl⟩
    wp_walk using AutoSeq1.wpAny_loadPart' hl
    refine wpAny_stack_any fun st => wpAny_pure ?_
    split
    · rename_i c _ _ _ _ _
      cases (c == Value.type "enumerate")
      · wp_walk using AutoSeq1.wpAny_loadPart' hl, wpAny_pyIter_tuple hL
        exact ⟨_, rfl, h⟩
      · wp_walk using AutoSeq1.wpAny_loadPart' hl, wpAny_pyIter_tuple hL
        exact ⟨_, rfl, h⟩
    · wp_walk using AutoSeq1.wpAny_loadPart' hl, wpAny_pyIter_tuple hL
      exact ⟨_, rfl, h⟩

section
variable {prog : Program} {w : World} {A : Around} {E : Value → Shared → Prop} {s : Shared}
theorem enum_tup_end {e it l : Addr} {i : Nat} {items : Array Value} {old : Value} {Q : Option Value → Shared → Prop} (hh : A.handled = none) (he : IsEnum s.heap e it i old) (hit : s.heap.IsTupleIter it l i) (hl : s.heap.IsTuple l items) (hx : items[i]? = none)
    (hQ : ∀ h', Heap.ExtBut it s.heap h' → Q none { s with heap := h' }) : wpAny (model prog w) A (pyNext (.ref e)) Q E s := by
  have hT : s.TypeIs (.ref e) "enumerate" := ⟨_, he, rfl⟩
  unfold pyNext
  refine wpAny_bind (wpAny_attempt (wpAny_callSpecial?_slot (name := Str.ofString "__next__") hT F.slot_enumerate_next (wpAny_call_entry F.slot_enumerate_next hT F.entry_enumerate_next ?_ (F.args_enumerate_next_1 _))))
  show wpAny _ _ (field (.ref e) 2 >>= _) _ _ _
  refine wpAny_bind (wpAny_field he rfl (x := .ref it) rfl ?_)
  refine wpAny_bind (nextOf_tup_end hh hit hl hx fun h' x he' hx' => ?_)
  obtain ⟨o, ho, hc⟩ := hx'
  refine wpAny_bind (wpAny_isInstance (T := "StopIteration") (b := true) ⟨o, ho, hc⟩ isSubtype_stop ?_)
  exact wpAny_pure (hQ _ he')
theorem call_enum_tup {l : Addr} {items : Array Value} {Q : Value → Shared → Prop} (hL : s.heap.IsTuple l items)
    (h : ∀ h', IsEnum h' (s.heap.objs.size + 1) s.heap.objs.size 0 .none → h'.IsTupleIter s.heap.objs.size l 0 → (∀ b o, s.heap.get? b = some o → h'.get? b = some o) → Q (.ref (s.heap.objs.size + 1)) { s with heap := h' }) :
    wpAny (model prog w) A (call (.type "enumerate") [.ref l]) Q E s := by
  obtain ⟨⟨c, dct, dt, sl⟩, hl, hc, n, hd⟩ := hL
  replace hc : c = .type "tuple" := hc
  replace hd : dt = .seq items n := hd
  subst hc hd
  refine callType_new F.called_enumerate (by decide) (F.typeCall_enumerate_1 _) (F.newCall_enumerate_1 _) (fun obj => F.args_object_init_2 obj _) F.entry_enumerate_new (enum_new_tup l items n dct sl) ⟨hl, ?_⟩
  have hz : (s.heap.push { cls := .type "tuple_iterator", data := .fields #[.ref l, .int 0 0] }).objs.size = s.heap.objs.size + 1 := Heap.size_push ..
  show _ ∧ _
  rw [hz]
  have he : IsEnum ((s.heap.push { cls := .type "tuple_iterator", data := .fields #[.ref l, .int 0 0] }).push { cls := .type "enumerate", data := .fields #[.none, .bool false, .ref s.heap.objs.size, rawInt 0, .none, .none] }) (s.heap.objs.size + 1) s.heap.objs.size 0 .none := by
    have := Heap.get?_push_size (s.heap.push { cls := .type "tuple_iterator", data := .fields #[.ref l, .int 0 0] }) (o := { cls := .type "enumerate", data := .fields #[.none, .bool false, .ref s.heap.objs.size, rawInt 0, .none, .none] }) rfl
    rw [hz] at this
    exact this
  exact ⟨⟨_, he, rfl⟩, h _ he ⟨_, Heap.get?_push_of_some _ (Heap.get?_push_size _ rfl), rfl, rfl⟩ fun b o x => Heap.get?_push_of_some _ (Heap.get?_push_of_some _ x)⟩
end
/-- at turn i a new pair (i, the i-th thing of the tuple) -/
def IteT (K : PySem.W.Frag) (a : Addr) : It :=
  ⟨fun i H => ∃ xs x, SqT K H a xs ∧ xs[i]? = some x, fun i H y H' => ∃ p x, H p = none ∧ y = .ref p ∧ H' = upd H p (.tup [.int i, x]) ∧ ∀ xs, SqT K H a xs → xs[i]? = some x, fun i H => ∃ xs, SqT K H a xs ∧ xs.length ≤ i⟩
theorem turn_enumT {P : Program} {w : World} {K : PySem.W.Frag} {es : List Expr} {x1} {pos : Pos} (a it e : Addr) (hne : e ≠ it) : Turn P w K (.Tuple es x1 pos) (IteT K a) [e, it] e (fun i h => (∃ old, IsEnum h e it (i : Nat) old) ∧ h.IsTupleIter it a i) where
  mem := by simp
  obj := fun i h st b hb => by
    obtain ⟨⟨old, s1⟩, s2⟩ := st
    rcases List.mem_cons.mp hb with z | z
    · subst z
      exact ⟨_, s1, fun v z => nomatch z⟩
    · have z : b = it := by simpa using z
      subst z
      obtain ⟨o, e, c, d⟩ := s2
      exact ⟨o, e, fun v z => by rw [d] at z; cases z⟩
  keep := fun i h h' st k => by
    obtain ⟨⟨old, s1⟩, s2⟩ := st
    exact ⟨⟨old, k e (by simp) _ s1⟩, s2.at fun o q => k it (by simp) o q⟩
  item := by
    intro X hP hw hK hc i pins s σ H E I hf st hg
    subst hP hw hK
    obtain ⟨xs, x, hq, hx⟩ := hg
    obtain ⟨its, rv, p, hz⟩ := I.tuple hq
    obtain ⟨u, hu, ru⟩ := rv.get hx
    obtain ⟨⟨old, s1⟩, s2⟩ := st
    have hlt : (i : Nat) < its.toArray.size := by
      have := (List.getElem?_eq_some_iff.mp hu).1
      simpa using this
    have nea : a ≠ it := by
      rintro rfl
      obtain ⟨o1, q1, c1, _⟩ := p
      obtain ⟨o2, q2, c2, _⟩ := id s2
      rw [q1] at q2; cases q2
      rw [c1] at c2
      injection c2 with z
      exact absurd z (by decide)
    have nee : a ≠ e := by
      rintro rfl
      obtain ⟨o1, q1, c1, _⟩ := p
      have s1' : s.heap.get? a = some _ := s1
      rw [q1] at s1'
      cases s1'
      injection c1 with z
      exact absurd z (by decide)
    have it2 : s.heap.IsTuple a its.toArray := p
    refine wpAny_pyNext_enum_itemD (draws_tup (A := X.A.in1) (I.ok.hd hc) it a nea its.toArray) s1 ⟨s2, it2⟩ hlt hne (by simp [hne, Ne.symm nee]) fun u' h' tk' hu' ho hst ht hsz hk => ?_
    have eu : u' = u := by
      have : its.toArray[i]? = some u := by simpa using hu
      rw [this] at hu'
      exact (Option.some.inj hu').symm
    subst eu
    have hit := hst.1
    refine ⟨_, rfl, ?_⟩
    refine wpAny_letOwnedTupleGo_enum ho fun h'' he hs => ?_
    have fresh : H s.heap.objs.size = none := I.hok.fresh (Nat.le_refl _)
    have k : ∀ b o, b ∉ [e, it] → s.heap.get? b = some o → h''.get? b = some o := fun b o hb q => by
      have hb' : b ≠ e ∧ b ≠ it := by simpa using hb
      exact (hs.2 b hb'.1).trans (hk b o hb'.1 hb'.2 q)
    have nE : ∀ b ∈ [e, it], H b = none := fun b hb => (hf b hb).1
    have nit : ∀ b u, H b = some u → b ∉ [e, it] := fun b u q z => by rw [nE b z] at q; cases q
    have hpe : s.heap.objs.size ≠ e := Nat.ne_of_gt (Heap.lt_size s1)
    have htup : h''.get? s.heap.objs.size = some { cls := .type "tuple", data := .seq #[.int i tk', u'] } := (hs.2 _ hpe).trans ht
    have newOk : ObjOk X.prog X.w (upd H s.heap.objs.size (.tup [.int i, x])) h'' s.heap.objs.size (.tup [.int i, x]) := by
      refine ⟨?_, [.int i tk', u'], .cons ⟨_, rfl⟩ (.cons ru .nil), ⟨_, htup, rfl, rfl, 0, rfl⟩⟩
      show 2 ≤ sizeLine
      decide
    have I1 : Inv X pins σ (upd H s.heap.objs.size (.tup [.int i, x])) { s with heap := h'', toks := tk' + 1 } := by
      refine I.step (g' := s.gens) (d' := s.drawn) (ch := [e, it]) (fun b hb => ?_) (fun b o _ _ hc q _ => k b o hc q) (fun b o _ _ hc q _ => ⟨o.slots, k b o hc q⟩) (fun b o _ q n => ?_) (fun b o hc q => ⟨o, k b o hc q⟩)
        (fun b xs q => by rw [upd_ne (ne_of_none q fresh)]; exact q) (fun b o xs q => by rw [upd_ne (ne_of_none q fresh)]; exact q) (fun b ps q => ⟨#[], by rw [upd_ne (ne_of_none q fresh), q]; simp⟩) (fun m hm => ?_) (fun b ob q => ?_) I.bare
      · obtain ⟨f0, f1, f2, f3, f4, f5⟩ := hf b hb
        exact ⟨f3, f1, f4, f5⟩
      · rw [upd_ne (Nat.ne_of_lt (Heap.lt_size q))]
        exact n
      · obtain ⟨o, es, ep, ho, r⟩ := hm
        refine ⟨o, es, ep, k _ o (fun z => ?_) ho, r⟩
        exact (hf _ z).2.1 rfl
      · by_cases hb : b = s.heap.objs.size
        · subst hb
          rw [upd_same] at q; cases q
          exact newOk
        · rw [upd_ne hb] at q
          refine (I.hok b ob q).stay (fun c v hc r => k c v ?_ r) (fun c r => by rw [upd_ne (ne_of_none r fresh)]; exact r) fun c xs r => by rw [upd_ne (ne_of_none r fresh)]; exact r
          rcases hc with z | z
          · rw [z]; exact nit b ob q
          · exact nit c _ z
    refine ⟨.ref s.heap.objs.size, _, I1, rfl, ⟨s.heap.objs.size, x, fresh, rfl, rfl, fun ys hy => by rw [I.tuple_inj hy hq]; exact hx⟩, ⟨⟨u', ?_⟩, ?_⟩, fun b hb => ?_⟩
    · have he : IsEnum h'' e it ((i : Int) + 1) u' := he
      show IsEnum h'' e it ((i + 1 : Nat) : Int) u'
      rw [show ((i + 1 : Nat) : Int) = (i : Int) + 1 by omega]
      exact he
    · exact hit.extBut hs.extBut (Ne.symm hne)
    · have lt : b < s.heap.objs.size := by
        rcases List.mem_cons.mp hb with z | z
        · rw [z]; exact Heap.lt_size s1
        · have z : b = it := by simpa using z
          rw [z]
          obtain ⟨o, q, _⟩ := s2
          exact Heap.lt_size q
      rw [upd_ne (Nat.ne_of_lt lt)]
      exact nE b hb
  done := by
    intro X hP hw hK hc i pins s σ H E I hf st hg
    subst hP hw hK
    obtain ⟨xs, hq, hx⟩ := hg
    obtain ⟨its, rv, p, hz⟩ := I.tuple hq
    obtain ⟨⟨old, s1⟩, s2⟩ := st
    obtain ⟨f0, f1, f2, f3, f4, f5⟩ := hf it (by simp)
    have hl := rv.length
    exact enum_tup_end (I.ok.hd hc) s1 s2 (show s.heap.IsTuple a its.toArray from p) (by simp; omega) fun h' eb => ⟨rfl, I.turned (t' := s.toks) (fun b o hb q => eb b o hb q) f0 f1 f3 f4 f5⟩
  self := fun _ _ _ _ _ st h => by
    obtain ⟨⟨old, s1⟩, _⟩ := st
    exact wpAny_pyIter_enum s1 h

def SqB (b : Bool) (K : PySem.W.Frag) (H : Hp) (a : Addr) (xs : List V) : Prop := match b with | true => SqL K H a xs | false => SqT K H a xs
def IteB (b : Bool) (K : PySem.W.Frag) (a : Addr) : It := match b with | true => Ite K a | false => IteT K a
/-- enumerate of a list or a tuple -/
def iEnumB (K : PySem.W.Frag) (ta : TA) : TI := fun σ H R => ta σ H fun vs H1 => ∃ a b, vs = [.ref a] ∧ (∃ xs, SqB b K H1 a xs) ∧ R (IteB b K a) H1
theorem pi_enumB {X : Cx} {es : List Expr} {x1} {tpos : Pos} {e : Expr} {ta : TA} {p pos : Pos} (hg : Gl X "enumerate") (hm : X.mg "enumerate" = none) (ha : PA X [e] ta) (hs : starEach [e] X.env = [(false, eval e X.env)] := by rfl) :
    PI X (.Tuple es x1 tpos) (.Call (.Name "enumerate" p) [e] [] pos) (iEnumB X.K ta) := by
  intro pins s σ H R I h
  refine Call_ (ld_blt I hg hm (show bootBuiltins "enumerate" = some (.type "enumerate") by decide +kernel) (PyProof.Rows.callWith_type1 (thn (ha pos pins s σ H _ I h) fun us s1 ⟨vs, H1, I1, r1, q1⟩ => ?_) hs rfl))
  obtain ⟨a, b, e1, ⟨xs, hq⟩, q⟩ := q1
  subst e1
  obtain ⟨u, rfl, r⟩ := vals1 r1
  cases r
  have fp : ∀ b ∈ [s1.heap.objs.size + 1, s1.heap.objs.size], FpOk X pins H1 b := fun b hb => by
    have ge : s1.heap.objs.size ≤ b := by
      rcases List.mem_cons.mp hb with z | z
      · rw [z]; exact Nat.le_succ _
      · have z : b = s1.heap.objs.size := by simpa using z
        rw [z]
        exact Nat.le_refl _
    exact I1.fpOk ge (I1.hok.fresh ge)
  cases b with
  | true =>
    obtain ⟨its, rv, pl, hz⟩ := I1.list hq
    refine call_enumerate_list pl.isList fun h' he hi hsz k => wpAny_pyIter_enum he ?_
    exact ⟨s1.heap.objs.size + 1, [s1.heap.objs.size + 1, s1.heap.objs.size], _, _, H1, rfl, I1.kept (t' := s1.toks) k, turn_enum a s1.heap.objs.size _ (Nat.ne_of_gt (Nat.lt_succ_self _)), ⟨⟨.none, he⟩, hi⟩, fp, q⟩
  | false =>
    obtain ⟨its, rv, pl, hz⟩ := I1.tuple hq
    refine call_enum_tup (show s1.heap.IsTuple a its.toArray from pl) fun h' he hi k => wpAny_pyIter_enum he ?_
    exact ⟨s1.heap.objs.size + 1, [s1.heap.objs.size + 1, s1.heap.objs.size], _, _, H1, rfl, I1.kept (t' := s1.toks) k, turn_enumT a s1.heap.objs.size _ (Nat.ne_of_gt (Nat.lt_succ_self _)), ⟨⟨.none, he⟩, hi⟩, fp, q⟩
/-- over enumerate of a list or tuple that the body leaves as it is -/
theorem for_enumB {b : Bool} {K : PySem.W.Frag} {a : Addr} {xs : List V} {g : TG} {tb : TS} {D : Ends} {σ : St} {H : Hp} (Pv : Nat → St → Hp → Prop) (h0 : Pv 0 σ H) (hl : ∀ i σ H, i ≤ xs.length → Pv i σ H → SqB b K H a xs)
    (hs : ∀ i x p σ H, xs[i]? = some x → Pv i σ H → H p = none → g (.ref p) σ (upd H p (.tup [.int i, x])) fun σ2 H2 => tb { D with nx := Pv (i + 1), ct := Pv (i + 1), bk := D.nx } σ2 H2) (hd : ∀ σ H, Pv xs.length σ H → D.nx σ H) :
    ∃ W : Nat → Nat → St → Hp → Prop, (∃ m, W 0 m σ H) ∧ ∀ i m σ H, W i m σ H →
      ((IteB b K a).stop i H ∧ D.nx σ H) ∨ ((IteB b K a).go i H ∧ ∃ N : St → Hp → Prop, (∀ σ' H', N σ' H' → ∃ m', m' < m ∧ W (i + 1) m' σ' H') ∧ ∀ x H', (IteB b K a).yld i H x H' → g x σ H' fun σ2 H2 => tb { D with nx := N, ct := N, bk := D.nx } σ2 H2) := by
  refine ⟨fun i m σ H => m = xs.length - i ∧ i ≤ xs.length ∧ Pv i σ H, ⟨xs.length, by simp, Nat.zero_le _, h0⟩, ?_⟩
  rintro i m σ H ⟨rfl, hi, p⟩
  have q := hl i σ H hi p
  by_cases hlt : i < xs.length
  · have gx : xs[i]? = some xs[i] := by simp [hlt]
    refine .inr ⟨by cases b <;> exact ⟨xs, xs[i], q, gx⟩, Pv (i + 1), fun σ' H' p' => ⟨xs.length - (i + 1), by omega, rfl, hlt, p'⟩, fun x H' y => ?_⟩
    have y : ∃ pa z, H pa = none ∧ x = .ref pa ∧ H' = upd H pa (.tup [.int i, z]) ∧ xs[i]? = some z := by
      cases b with
      | true => obtain ⟨pa, z, hp, e1, e2, y⟩ := y; exact ⟨pa, z, hp, e1, e2, y xs q⟩
      | false => obtain ⟨pa, z, hp, e1, e2, y⟩ := y; exact ⟨pa, z, hp, e1, e2, y xs q⟩
    obtain ⟨pa, z, hp, e1, e2, y'⟩ := y
    subst e1 e2
    exact hs i z pa σ H y' p hp
  · have e : i = xs.length := by omega
    subst e
    exact .inl ⟨by cases b <;> exact ⟨xs, q, Nat.le_refl _⟩, hd σ H p⟩
/-! ### list.insert -/
end L2

set_option Elab.async false
set_option linter.all false
set_option maxRecDepth 100000
set_option maxHeartbeats 4000000
namespace L2
open PySem PySem.Spec PyProof.Rows PySem.SeqAt
section
variable {X : Cx}
theorem preSum_take (ns : List Int) : ∀ k, k ≤ ns.length → preSum (fun i => ns.getD i 0) k = (ns.take k).sum
  | 0, _ => by simp [preSum]
  | k + 1, h => by
    have hk : k < ns.length := by omega
    rw [List.take_succ_eq_append_getElem hk, List.sum_append, ← preSum_take ns k (by omega)]
    simp [preSum, List.getD_eq_getElem?_getD, hk]
/-- sum(..) of a list of ints -/
theorem call_sumI (hc : X.calm = true) : CallR X (.builtin "sum") (fun xs H Q => ∃ (a : Addr) (ns : List Int), xs = [.ref a] ∧ SqL X.K H a (ns.map V.int) ∧ Q (.int ns.sum) H) := by
  intro pins s σ H xs us Q I r h
  obtain ⟨a, ns, rfl, hq, q⟩ := h
  obtain ⟨u, rfl, r1⟩ := vals1 r
  cases r1
  obtain ⟨its, rv, p, hz⟩ := I.list hq
  refine call_sum_walkG (wpAny_pyIter_list p.isList ?_)
  have hlt := (let ⟨o, n, e, _⟩ := p; Heap.lt_size e : a < s.heap.objs.size)
  have hne : a ≠ s.heap.objs.size := Nat.ne_of_lt hlt
  have hlen : its.toArray.size = ns.length := by rw [List.size_toArray, ← rv.length, List.length_map]
  refine ⟨s.heap.objs.size, _, _, _, _, _, fun i => ns.getD i 0, rfl, Walks.list (A := X.A.in1) (I.ok.hd hc) _ a hne its.toArray, ⟨⟨_, Heap.get?_push_size _ rfl, rfl, rfl⟩, ?_⟩, ?_, ?_, ?_⟩
  · obtain ⟨o, n, e, c, _, d⟩ := p
    exact ⟨o, Heap.get?_push_of_some _ e, c, n, d⟩
  · intro b hb
    rcases List.mem_cons.mp hb with z | z
    · rw [z, Heap.size_push]; exact Nat.lt_succ_self _
    · have z : b = a := by simpa using z
      rw [z, Heap.size_push]
      exact Nat.lt_succ_of_lt hlt
  · intro i v e
    have hi : i < its.toArray.size := (Array.getElem?_eq_some_iff.mp e).1
    obtain ⟨t, q⟩ := ints_at rv hi
    rw [Array.getElem?_eq_getElem hi] at e
    have e' := Option.some.inj e
    rw [q] at e'
    exact ⟨t, e'.symm⟩
  · intro h' tk t' k
    refine ⟨.int ns.sum, H, I.kept (h' := h') (t' := tk) fun b o e => k b o ?_ (Heap.get?_push_of_some _ e), ⟨t', ?_⟩, q⟩
    · intro hm
      have : b = s.heap.objs.size := by simpa using hm
      rw [this] at e
      exact absurd (Heap.lt_size e) (Nat.lt_irrefl _)
    · rw [hlen, preSum_take ns _ (Nat.le_refl _), List.take_length]
end
end L2

set_option Elab.async false
set_option linter.all false
set_option maxRecDepth 100000
set_option maxHeartbeats 4000000
namespace L2
open PySem PySem.Spec PyProof.Rows PySem.SeqAt
section
variable {X : Cx}
end
end L2

set_option Elab.async false
set_option linter.all false
set_option maxRecDepth 100000
set_option maxHeartbeats 4000000
namespace L2
open PySem PySem.Spec PyProof.Rows PySem.SeqAt
/-- the records at fp have turned and a new pair lies behind all -/
theorem Inv.pairOut {X : Cx} {pins : List (Addr × Obj)} {σ : St} {H : Hp} {s : Shared} {h' : Heap} {fp : List Addr} {x y : V} {u v : Value} {tk : Nat} (I : Inv X pins σ H s) (hf : ∀ b ∈ fp, FpOk X pins H b)
    (k : ∀ b o, b ∉ fp → s.heap.get? b = some o → h'.get? b = some o) (ht : IsPair h' s.heap.objs.size u v) (hlf : ∀ b ∈ fp, b < s.heap.objs.size) (hth : ∀ b ∈ fp, ∃ o, h'.get? b = some o) (rx : RelV x u) (ry : RelV y v) :
    Inv X pins σ (upd H s.heap.objs.size (.tup [x, y])) { s with heap := h', toks := tk } := by
  have fresh : H s.heap.objs.size = none := I.hok.fresh (Nat.le_refl _)
  have nit : ∀ b o, H b = some o → b ∉ fp := fun b o q z => by rw [(hf b z).1] at q; cases q
  have newOk : ObjOk X.prog X.w (upd H s.heap.objs.size (.tup [x, y])) h' s.heap.objs.size (.tup [x, y]) := by
    refine ⟨?_, [u, v], .cons rx (.cons ry .nil), ⟨_, ht, rfl, rfl, 0, rfl⟩⟩
    show 2 ≤ sizeLine
    decide
  refine I.step (g' := s.gens) (d' := s.drawn) (ch := fp) (fun b hb => ?_) (fun b o _ _ hc q _ => k b o hc q) (fun b o _ _ hc q _ => ⟨o.slots, k b o hc q⟩) (fun b o _ q n => ?_) (fun b o hc q => ⟨o, k b o hc q⟩)
    (fun b xs q => by rw [upd_ne (ne_of_none q fresh)]; exact q) (fun b o xs q => by rw [upd_ne (ne_of_none q fresh)]; exact q) (fun b ps q => ⟨#[], by rw [upd_ne (ne_of_none q fresh), q]; simp⟩) (fun m hm => ?_) (fun b ob q => ?_) I.bare
  · obtain ⟨f0, f1, f2, f3, f4, f5⟩ := hf b hb
    exact ⟨f3, f1, f4, f5⟩
  · rw [upd_ne (Nat.ne_of_lt (Heap.lt_size q))]
    exact n
  · obtain ⟨o, es, ep, ho, r⟩ := hm
    exact ⟨o, es, ep, k _ o (fun z => (hf _ z).2.1 rfl) ho, r⟩
  · by_cases hb : b = s.heap.objs.size
    · subst hb
      rw [upd_same] at q; cases q
      exact newOk
    · rw [upd_ne hb] at q
      refine (I.hok b ob q).stay (fun c v hc r => k c v ?_ r) (fun c r => by rw [upd_ne (ne_of_none r fresh)]; exact r) fun c xs r => by rw [upd_ne (ne_of_none r fresh)]; exact r
      rcases hc with z | z
      · rw [z]; exact nit b ob q
      · exact nit c _ z
/-- several untracked records of ours have turned -/
theorem Inv.turnedAll {X : Cx} {pins : List (Addr × Obj)} {σ : St} {H : Hp} {s : Shared} {h' : Heap} {fp : List Addr} {tk : Nat} (I : Inv X pins σ H s) (hf : ∀ b ∈ fp, FpOk X pins H b) (k : ∀ b o, b ∉ fp → s.heap.get? b = some o → h'.get? b = some o) :
    Inv X pins σ H { s with heap := h', toks := tk } := by
  have nit : ∀ b o, H b = some o → b ∉ fp := fun b o q z => by rw [(hf b z).1] at q; cases q
  refine I.step (g' := s.gens) (d' := s.drawn) (ch := fp) (fun b hb => ?_) (fun b o _ _ hc q _ => k b o hc q) (fun b o _ _ hc q _ => ⟨o.slots, k b o hc q⟩) (fun b o _ q n => n) (fun b o hc q => ⟨o, k b o hc q⟩) (fun _ _ q => q) (fun _ _ _ q => q) (fun b ps q => ⟨#[], by rw [q]; simp⟩) (fun m hm => ?_) (fun b ob q => ?_) I.bare
  · obtain ⟨f0, f1, f2, f3, f4, f5⟩ := hf b hb
    exact ⟨f3, f1, f4, f5⟩
  · obtain ⟨o, es, ep, ho, r⟩ := hm
    exact ⟨o, es, ep, k _ o (fun z => (hf _ z).2.1 rfl) ho, r⟩
  · refine (I.hok b ob q).stay (fun c v hc r => k c v ?_ r) (fun _ q => q) fun _ _ q => q
    rcases hc with z | z
    · rw [z]; exact nit b ob q
    · exact nit c _ z
end L2

set_option Elab.async false
set_option linter.all false
set_option maxRecDepth 100000
set_option maxHeartbeats 4000000
namespace L2
open PySem PySem.Spec PyProof.Rows PySem.SeqAt
section
variable {X : Cx}
/-! ### ints of many bits -/
theorem op_fdivB : OpR X (binaryOp .FloorDiv) (rI (fun _ j => 0 < j ∧ Builtin.Int.intBits j ≤ 8000) fun i j => .int (i / j)) := opI fun i j _ _ _ _ _ hc q => by
  have h1 : (0 : Int) < j := hc.1
  have h2 : j.natAbs < 2 ^ 8000 := intBits_le_iff.mp hc.2
  refine floordiv_int (by omega) (by rw [Int.fdiv_eq_ediv_of_nonneg i (by omega)]; exact q) (.inl (PyProof.noPylong_of_log2 ?_))
  have h3 : j.natAbs.log2 < 8000 := (Nat.log2_lt (by omega)).mpr h2
  omega
/-! ### tuples of ints compared -/
/-! ### sum(..) of a tuple of ints -/
theorem call_sumT (hc : X.calm = true) : CallR X (.builtin "sum") (fun xs H Q => ∃ (a : Addr) (ns : List Int), xs = [.ref a] ∧ SqT X.K H a (ns.map V.int) ∧ Q (.int ns.sum) H) := by
  intro pins s σ H xs us Q I r h
  obtain ⟨a, ns, rfl, hq, q⟩ := h
  obtain ⟨u, rfl, r1⟩ := vals1 r
  cases r1
  obtain ⟨its, rv, p0, hz⟩ := I.tuple hq
  have p : s.heap.IsTuple a its.toArray := p0
  refine call_sum_walkG (wpAny_pyIter_tuple p ?_)
  have hlt : a < s.heap.objs.size := by obtain ⟨o, e, _⟩ := p; exact Heap.lt_size e
  have hne : a ≠ s.heap.objs.size := Nat.ne_of_lt hlt
  have hlen : its.toArray.size = ns.length := by rw [List.size_toArray, ← rv.length, List.length_map]
  refine ⟨s.heap.objs.size, _, _, _, _, _, fun i => ns.getD i 0, rfl, Walks.tuple (A := X.A.in1) (I.ok.hd hc) _ a hne its.toArray, ⟨⟨_, Heap.get?_push_size _ rfl, rfl, rfl⟩, ?_⟩, ?_, ?_, ?_⟩
  · obtain ⟨o, e, c, d⟩ := p
    exact ⟨o, Heap.get?_push_of_some _ e, c, d⟩
  · intro b hb
    rcases List.mem_cons.mp hb with z | z
    · rw [z, Heap.size_push]; exact Nat.lt_succ_self _
    · have z : b = a := by simpa using z
      rw [z, Heap.size_push]
      exact Nat.lt_succ_of_lt hlt
  · intro i v e
    have hi : i < its.toArray.size := (Array.getElem?_eq_some_iff.mp e).1
    obtain ⟨t, q⟩ := ints_at rv hi
    rw [Array.getElem?_eq_getElem hi] at e
    have e' := Option.some.inj e
    rw [q] at e'
    exact ⟨t, e'.symm⟩
  · intro h' tk t' k
    refine ⟨.int ns.sum, H, I.kept (h' := h') (t' := tk) fun b o e => k b o ?_ (Heap.get?_push_of_some _ e), ⟨t', ?_⟩, q⟩
    · intro hm
      have : b = s.heap.objs.size := by simpa using hm
      rw [this] at e
      exact absurd (Heap.lt_size e) (Nat.lt_irrefl _)
    · rw [hlen, preSum_take ns _ (Nat.le_refl _), List.take_length]
/-! ### f(e, .., k = v), f a built-in function -/
end
section
variable {prog : Program} {w : World} {A : Around} {E : Value → Shared → Prop} {s : Shared}
end
section
variable {X : Cx}
end
/-! ### comprehensions over a tuple -/
theorem comp_tup {K : PySem.W.Frag} {own : List Str} {js : List Nat} {g : TG} {tt : TT} {te : TE} {σ : St} {H1 : Hp} {Q : VK} {a : Addr} {xs : List V} (Pv : Addr → Nat → Hp → Prop) (h0 : ∀ acc, H1 acc = none → Pv acc 0 (upd H1 acc (.lst []))) (hl : ∀ acc i H, H1 acc = none → i ≤ xs.length → Pv acc i H → SqT K H a xs)
    (hs : ∀ acc i x H, H1 acc = none → xs[i]? = some x → Pv acc i H → g x (blkσ own js σ) H fun τ H4 => tt τ H4 fun c H5 =>
      if c = true then te τ H5 fun y H6 => ∃ ys, H6 acc = some (.lst ys) ∧ ys.length < sizeLine ∧ (i + 1 ≤ xs.length ∧ Pv acc (i + 1) (upd H6 acc (.lst (ys ++ [y])))) else (i + 1 ≤ xs.length ∧ Pv acc (i + 1) H5))
    (hd : ∀ acc H, H1 acc = none → Pv acc xs.length H → Q (.ref acc) H) : tCompW own js g tt te σ (Itt K a) H1 Q := by
  intro acc hacc
  refine ⟨fun i H => i ≤ xs.length ∧ Pv acc i H, xs.length, ⟨Nat.zero_le _, h0 acc hacc⟩, ?_⟩
  rintro i H ⟨hi, p⟩
  have q := hl acc i H hacc hi p
  by_cases hlt : i < xs.length
  · refine .inr ⟨hlt, ⟨xs, xs[i], q, by simp [hlt]⟩, fun x H' y => ?_⟩
    obtain ⟨e, y⟩ := y
    subst e
    exact hs acc i x _ hacc (y xs q) p
  · have e : i = xs.length := by omega
    subst e
    exact .inl ⟨⟨xs, q, Nat.le_refl _⟩, hd acc H hacc p⟩
end L2

set_option Elab.async false
set_option linter.all false
set_option maxRecDepth 100000
set_option maxHeartbeats 4000000
namespace Lv
open PySem L2
theorem pe_ty {X : Cx} {x : Str} {T : String} {pos : Pos} (hg : Gl X x) (hm : X.mg x = none) (hv : bootBuiltins x = some (.type T)) (hn : x ≠ "__name__" := by decide) (hd : (x == ("__debug__" : Str)) = false := by decide) : PE X (.Name x pos) (tC (.ty T)) :=
  pe_bltn hg hm hv rfl hn hd
theorem pe_gint {X : Cx} {x : Str} {i : Int} {t : Tok} {pos : Pos} (hg : Gl X x) (hm : X.mg x = some (.int i t)) (hd : (x == ("__debug__" : Str)) = false := by decide) : PE X (.Name x pos) (tC (.int i)) :=
  pe_glob hg hm ⟨t, rfl⟩ hd
/-- the names of the module that are none of the text's own -/
structure Txt (mg : Str → Option Value) : Prop where
  isinstance : mg "isinstance" = none
  int : mg "int" = none
  bool : mg "bool" = none
  list : mg "list" = none
  tuple : mg "tuple" = none
  min : mg "min" = none
  max : mg "max" = none
  len : mg "len" = none
  range : mg "range" = none
  all : mg "all" = none
  sum : mg "sum" = none
  sorted : mg "sorted" = none
  zip : mg "zip" = none
theorem b_isinstance : bootBuiltins "isinstance" = some (.builtin "isinstance") := by decide +kernel
theorem b_int : bootBuiltins "int" = some (.type "int") := by decide +kernel
theorem b_bool : bootBuiltins "bool" = some (.type "bool") := by decide +kernel
theorem b_tuple : bootBuiltins "tuple" = some (.type "tuple") := by decide +kernel
theorem b_min : bootBuiltins "min" = some (.builtin "min") := by decide +kernel
theorem b_max : bootBuiltins "max" = some (.builtin "max") := by decide +kernel
theorem b_all : bootBuiltins "all" = some (.builtin "all") := by decide +kernel
theorem b_sum : bootBuiltins "sum" = some (.builtin "sum") := by decide +kernel
theorem kit_int_int {K : PySem.W.Frag} : PySem.W.kitOne K (.type "int") (.type "int") = some true := by rfl
theorem kit_int_bool {K : PySem.W.Frag} : PySem.W.kitOne K (.type "int") (.type "bool") = some false := by with_unfolding_all rfl
theorem kit_tuple_tuple {K : PySem.W.Frag} : PySem.W.kitOne K (.type "tuple") (.type "tuple") = some true := by rfl
/-- a def of the text that is called by its name -/
structure Cal (P : Program) (w : World) (K : PySem.W.Frag) (mg : Str → Option Value) (base : Heap) (k : Nat) (x : Str) (ps : List Str) (sp : Sp) (f : Addr) (fd : FuncData) : Prop where
  ok : FnOk P w K mg base CX0 k f fd ps sp
  mg : mg x = some (.ref f)
  kp : PySem.W.keepIn K (.ref f) = true
  bd : Binds K fd ps []
theorem pe_cal {X : Cx} {k : Nat} {x : Str} {ps : List Str} {sp : Sp} {f : Addr} {fd : FuncData} {e : Expr} {es : List Expr} {t : TA} {p pos : Pos} (C : Cal X.prog X.w X.K X.mg X.base k x ps sp f fd) (hr : Room k X.A) (hg : Gl X x) (ha : PA X (e :: es) t)
    (hdb : (x == ("__debug__" : Str)) = false := by decide) (he : starEach (e :: es) X.env = (false, eval e X.env) :: starEach es X.env := by rfl) (hpl : (backTo pos (starEach es X.env)).any (·.1) = false := by rfl) :
    PE X (.Call (.Name x p) (e :: es) [] pos) (tCall sp [] E0 t) := pe_call C.ok hr hg C.mg C.kp C.bd .nil pass0 ha hdb he hpl
theorem ixK_tup (K : PySem.W.Frag) {X : Cx} (hK : X.K = K := by rfl) : IxR X (rIxT K) := by subst hK; exact ix_tup
theorem map_get {xs : List Int} {i : Nat} {x : V} (h : (xs.map V.int)[i]? = some x) : ∃ p, xs[i]? = some p ∧ x = .int p := by
  rw [List.getElem?_map] at h
  cases e : xs[i]? with
  | none => rw [e] at h; cases h
  | some p => rw [e] at h; exact ⟨p, rfl, (Option.some.inj h).symm⟩
theorem _root_.L2.Same.new {q : Addr} {H : Hp} {o : HO} (h : H q = none) : Same H (upd H q o) := fun b u e => by rw [upd_ne (ne_of_none e h)]; exact e
theorem _root_.L2.Same.put {q : Addr} {H H' : Hp} {o : HO} (s : Same H H') (h : H q = none) : Same H (upd H' q o) := fun b u e => by rw [upd_ne (ne_of_none e h)]; exact s b u e
theorem _root_.L2.Same.tup {K : PySem.W.Frag} {H H' : Hp} {a : Addr} {xs : List V} (e : Same H H') (h : SqT K H a xs) : SqT K H' a xs := by
  rcases h with (h | ⟨o, h⟩) | h
  · exact .inl (.inl (e _ _ h))
  · exact .inl (.inr ⟨o, e _ _ h⟩)
  · exact .inr h
theorem ixN_of {n : Nat} {x : Int} (h0 : 0 ≤ x) (h1 : x < n) : ixN n x = some x.toNat := by
  unfold ixN
  rw [if_pos h0, if_pos h1]
theorem atI_int {fs : List Int} {x : Int} (h0 : 0 ≤ x) (h1 : x < fs.length) : atI (fs.map V.int) x = some (.int (fs.getD x.toNat 0)) := by
  unfold atI
  have hx : x.toNat < fs.length := by omega
  rw [List.length_map, ixN_of h0 h1]
  show (fs.map V.int)[x.toNat]? = _
  rw [List.getElem?_map, List.getElem?_eq_getElem hx, List.getD_eq_getElem?_getD, List.getElem?_eq_getElem hx]
  rfl
theorem atI_head {c0 : Int} {cr : List Int} : atI ((c0 :: cr).map V.int) 0 = some (.int c0) := atI_nat (j := 0) rfl
theorem all_true (n : Nat) : (List.replicate n true).all id = true := by
  rw [List.all_eq_true]
  intro b hb
  exact (List.mem_replicate.mp hb).2
/-! ### a text cut in two -/
theorem cut1 {a R : TS} {D : Ends} {σ : St} {H : Hp} (M : St → Hp → Prop) (h1 : ∀ R' : TS, (∀ σ' H', M σ' H' → R' D σ' H') → tSeq a R' D σ H) (h2 : ∀ σ' H', M σ' H' → R D σ' H') : tSeq a R D σ H := h1 R h2
theorem cutG {i : Nat} {x : V} {a R : TS} {D : Ends} {σ : St} {H : Hp} (M : St → Hp → Prop) (h1 : ∀ R' : TS, (∀ σ' H', M σ' H' → R' D σ' H') → gName i x σ H (tSeq a R' D)) (h2 : ∀ σ' H', M σ' H' → R D σ' H') : gName i x σ H (tSeq a R D) := h1 R h2
/-! ### pools of two ints -/
def Pool (H : Hp) (p : Addr) : Prop := ∃ a b : Int, H p = some (.lst [.int a, .int b])
/-- all but p as it was -/
def Sm (p : Addr) (H H' : Hp) : Prop := ∀ b o, H b = some o → b ≠ p → H' b = some o
theorem Sm.trans {p : Addr} {H H1 H2 : Hp} (a : Sm p H H1) (b : Sm p H1 H2) : Sm p H H2 := fun c o h n => b c o (a c o h n) n
theorem Sm.refl (p : Addr) (H : Hp) : Sm p H H := fun _ _ h _ => h
theorem Sm.of {p : Addr} {H H' : Hp} (h : Same H H') : Sm p H H' := fun b o e _ => h b o e
theorem Sm.new {p q : Addr} {H : Hp} {o : HO} (h : H q = none) : Sm p H (upd H q o) := fun b u e _ => by rw [upd_ne (ne_of_none e h)]; exact e
theorem Sm.put {p : Addr} {H : Hp} {o : HO} : Sm p H (upd H p o) := fun b u e n => by rw [upd_ne n]; exact e
theorem Sm.free {p q : Addr} {H H' : Hp} (s : Sm p H H') (hn : q ≠ p) (h : H' q = none) : H q = none := by
  cases e : H q with
  | none => rfl
  | some o => rw [s q o e hn] at h; cases h
theorem Sm.after {p : Addr} {H H1 H2 : Hp} (s : Same H H1) (m : Sm p H1 H2) (h : H p = none) : Same H H2 := fun b o e => m b o (s b o e) (ne_of_none e h)
theorem Pool.put {H : Hp} {p q : Addr} {o : HO} (h : Pool H p) (hq : H q = none) : Pool (upd H q o) p := by
  obtain ⟨a, b, e⟩ := h
  exact ⟨a, b, by rw [upd_ne (ne_of_none e hq)]; exact e⟩
theorem Pool.ne {H : Hp} {p q : Addr} (h : Pool H p) (hq : H q = none) : q ≠ p := by
  obtain ⟨a, b, e⟩ := h
  exact Ne.symm (ne_of_none e hq)
theorem Pool.same {H H' : Hp} {p : Addr} (h : Pool H p) (s : Same H H') : Pool H' p := by
  obtain ⟨a, b, e⟩ := h
  exact ⟨a, b, s p _ e⟩
def spPool (K : PySem.W.Frag) : Sp := fun vs H Q _ => ∃ (a : Addr) (ns : List Int) (k : Int), vs = [.ref a, .int k] ∧ SqL K H a (ns.map V.int) ∧ 0 ≤ k ∧ k ≤ 1000 ∧ ∀ p H', H p = none → Pool H' p → Same H H' → Q (.ref p) H'
def spTake : Sp := fun vs H Q _ => ∃ p m, vs = [.ref p, .int m] ∧ Pool H p ∧ 0 < m ∧ Builtin.Int.intBits m ≤ 8000 ∧ ∀ d H', 0 ≤ d → d < m → Pool H' p → Sm p H H' → Q (.int d) H'
def spWhole : Sp := fun vs H Q _ => ∃ i, vs = [.int i] ∧ Q (.bl true) H
theorem bits_small {m : Int} (h0 : 0 ≤ m) (h1 : m < 2 ^ 64) : Builtin.Int.intBits m ≤ 8000 := Nat.le_trans (intBits_le_64 (by omega) h1) (by decide)
/-! ### counts of levels, in plain Lean -/
def nextC (c : List Int) : List Int := (c.tail.map (c.getD 0 0 + ·)) ++ [c.getD 0 0]
def firstC (p : Nat) : List Int := 1 :: List.replicate (p - 1) 0
def cnt (p : Nat) : Nat → List Int
  | 0 => firstC p
  | n + 1 => nextC (cnt p n)
theorem nextC_len {c : List Int} (h : c ≠ []) : (nextC c).length = c.length := by
  cases c with
  | nil => exact absurd rfl h
  | cons x r => simp [nextC]
theorem cnt_len {p : Nat} (hp : 1 ≤ p) : ∀ n, (cnt p n).length = p
  | 0 => by simp [cnt, firstC]; omega
  | n + 1 => by
    have := cnt_len hp n
    show (nextC (cnt p n)).length = p
    rw [nextC_len (by intro z; rw [z] at this; simp at this; omega), this]
def Down (c : List Int) : Prop := c.Pairwise (· ≥ ·) ∧ ∀ x ∈ c, 0 ≤ x
theorem down_next {c : List Int} (h : Down c) : Down (nextC c) := by
  cases c with
  | nil => exact ⟨by simp [nextC], by intro x hx; simp [nextC] at hx; omega⟩
  | cons a r =>
    obtain ⟨h1, h2⟩ := h
    have h3 := List.pairwise_cons.mp h1
    have h0 : 0 ≤ a := h2 a (by simp)
    refine ⟨?_, ?_⟩
    · show ((r.map (a + ·)) ++ [a]).Pairwise (· ≥ ·)
      rw [List.pairwise_append]
      refine ⟨?_, by simp, ?_⟩
      · rw [List.pairwise_map]
        exact h3.2.imp fun h => by omega
      · intro x hx y hy
        obtain ⟨z, hz, rfl⟩ := List.mem_map.mp hx
        have := h2 z (by simp [hz])
        have : y = a := by simpa using hy
        omega
    · show ∀ x ∈ (r.map (a + ·)) ++ [a], 0 ≤ x
      intro x hx
      rcases List.mem_append.mp hx with hx | hx
      · obtain ⟨z, hz, rfl⟩ := List.mem_map.mp hx
        have := h2 z (by simp [hz])
        omega
      · have : x = a := by simpa using hx
        omega
theorem down_cnt (p : Nat) : ∀ n, Down (cnt p n)
  | 0 => by
    refine ⟨?_, ?_⟩
    · show (1 :: List.replicate (p - 1) (0 : Int)).Pairwise (· ≥ ·)
      rw [List.pairwise_cons]
      refine ⟨fun y hy => ?_, ?_⟩
      · have := (List.mem_replicate.mp hy).2
        omega
      · rw [List.pairwise_replicate]
        exact .inr (Int.le_refl _)
    · intro x hx
      rcases List.mem_cons.mp hx with rfl | hx
      · decide
      · have := (List.mem_replicate.mp hx).2
        omega
  | n + 1 => down_next (down_cnt p n)
def spWays : Sp := fun vs H Q _ => ∃ i, vs = [.int i] ∧ 2 ≤ i ∧ i ≤ 7 ∧ Q .non H
def spFirst : Sp := fun vs H Q _ => ∃ p : Nat, vs = [.int p] ∧ 2 ≤ p ∧ p ≤ 7 ∧ ∀ l H', H l = none → H' l = some (.tup ((firstC p).map V.int)) → Same H H' → Q (.ref l) H'
def spNext (K : PySem.W.Frag) : Sp := fun vs H Q _ => ∃ (a : Addr) (c : List Int), vs = [.ref a] ∧ SqT K H a (c.map V.int) ∧ 2 ≤ c.length ∧ c.length ≤ 7 ∧ ∀ l H', H l = none → H' l = some (.tup ((nextC c).map V.int)) → Same H H' → Q (.ref l) H'
def spCounts : Sp := fun vs H Q _ => ∃ p n : Nat, vs = [.int p, .int n] ∧ 2 ≤ p ∧ p ≤ 7 ∧ n ≤ 300 ∧ ∀ l H', H l = none → H' l = some (.tup ((cnt p n).map V.int)) → Same H H' → Q (.ref l) H'
def spTotal : Sp := fun vs H Q _ => ∃ p n : Nat, vs = [.int p, .int n] ∧ 2 ≤ p ∧ p ≤ 7 ∧ n ≤ 300 ∧ ∀ H', Same H H' → Q (.int (cnt p n).sum) H'
def spLaw (K : PySem.W.Frag) : Sp := fun vs H Q _ => ∃ (a : Addr) (ns : List Int), vs = [.ref a] ∧ SqL K H a (ns.map V.int) ∧ ns.length ≤ 63 ∧ ∀ H', Q (.bl true) H'
end Lv

set_option Elab.async false
set_option linter.all false
set_option maxRecDepth 100000
set_option maxHeartbeats 4000000
namespace Lv
open PySem L2
def hd (p n : Nat) : Int := (cnt p n).getD 0 0
def tot (p n : Nat) : Int := (cnt p n).sum
theorem cnt_cons {p : Nat} (hp : 2 ≤ p) (n : Nat) : ∃ a b r, cnt p n = a :: b :: r ∧ r.length = p - 2 := by
  have h := cnt_len (p := p) (by omega) n
  match hc : cnt p n with
  | [] => rw [hc] at h; simp at h; omega
  | [x] => rw [hc] at h; simp at h; omega
  | a :: b :: r => rw [hc] at h; exact ⟨a, b, r, rfl, by simp at h; omega⟩
theorem hd_pos {p : Nat} (hp : 2 ≤ p) : ∀ n, 1 ≤ hd p n
  | 0 => by simp [hd, cnt, firstC]
  | n + 1 => by
    obtain ⟨a, b, r, e, _⟩ := cnt_cons hp n
    have ih := hd_pos hp n
    have nn := (down_cnt p n).2 b (by rw [e]; simp)
    unfold hd at ih ⊢
    show 1 ≤ (nextC (cnt p n)).getD 0 0
    rw [e] at ih ⊢
    simp [nextC] at ih ⊢
    omega
theorem sum_add (c : Int) : ∀ r : List Int, (r.map (c + ·)).sum = r.length * c + r.sum
  | [] => by simp
  | x :: r => by
    rw [List.map_cons, List.sum_cons, sum_add c r, List.sum_cons, List.length_cons, Int.natCast_succ, Int.add_mul]
    omega
theorem sum_next (a : Int) (r : List Int) : (nextC (a :: r)).sum = (a :: r).sum + r.length * a := by
  show ((r.map (a + ·)) ++ [a]).sum = _
  rw [List.sum_append, sum_add, List.sum_cons, List.sum_cons, List.sum_nil]
  omega
theorem tot_succ {p : Nat} (hp : 2 ≤ p) (n : Nat) : tot p (n + 1) = tot p n + (p - 1 : Nat) * hd p n := by
  obtain ⟨a, b, r, e, hr⟩ := cnt_cons hp n
  unfold tot hd
  show (nextC (cnt p n)).sum = _
  rw [e, sum_next]
  have : (b :: r).length = p - 1 := by simp; omega
  rw [this]
  rfl
theorem tot_lt {p : Nat} (hp : 2 ≤ p) (n : Nat) : tot p n + 1 ≤ tot p (n + 1) := by
  rw [tot_succ hp]
  have h1 := hd_pos hp n
  have h2 : ((1 : Nat) : Int) * 1 ≤ ((p - 1 : Nat) : Int) * hd p n := Int.mul_le_mul (by omega) h1 (by decide) (by omega)
  omega
theorem tot_mono {p : Nat} (hp : 2 ≤ p) {m n : Nat} (h : m ≤ n) : tot p m ≤ tot p n := by
  induction n with
  | zero => have : m = 0 := by omega
            subst this; exact Int.le_refl _
  | succ n ih =>
    by_cases e : m = n + 1
    · subst e; exact Int.le_refl _
    · have := ih (by omega)
      have := tot_lt hp n
      omega
theorem tot_ge {p : Nat} (hp : 2 ≤ p) : ∀ n : Nat, (n : Int) + 1 ≤ tot p n
  | 0 => by
    have h : ∀ m : Nat, (List.replicate m (0 : Int)).sum = 0 := fun m => by
      induction m with
      | zero => rfl
      | succ m ih => rw [List.replicate_succ, List.sum_cons, ih]; rfl
    simp [tot, cnt, firstC, h]
  | n + 1 => by
    have := tot_ge hp n
    have := tot_lt hp n
    omega
theorem sum_ge {c : List Int} (h : ∀ x ∈ c, 0 ≤ x) : c.getD 0 0 ≤ c.sum := by
  cases c with
  | nil => simp
  | cons a r =>
    have : ∀ l : List Int, (∀ x ∈ l, 0 ≤ x) → 0 ≤ l.sum := by
      intro l
      induction l with
      | nil => intro _; simp
      | cons x y ih =>
        intro h
        rw [List.sum_cons]
        have := h x (by simp)
        have := ih fun z hz => h z (by simp [hz])
        omega
    have := this r fun x hx => h x (by simp [hx])
    rw [List.sum_cons]
    simp
    omega
theorem tot_le {p : Nat} (hp : 2 ≤ p) (h7 : p ≤ 7) : ∀ n : Nat, tot p n ≤ 7 ^ n
  | 0 => by
    have h : ∀ m : Nat, (List.replicate m (0 : Int)).sum = 0 := fun m => by
      induction m with
      | zero => rfl
      | succ m ih => rw [List.replicate_succ, List.sum_cons, ih]; rfl
    simp [tot, cnt, firstC, h]
  | n + 1 => by
    have ih := tot_le hp h7 n
    have h1 : hd p n ≤ tot p n := sum_ge (down_cnt p n).2
    have h0 := hd_pos hp n
    rw [tot_succ hp, Int.pow_succ]
    have h2 : ((p - 1 : Nat) : Int) * hd p n ≤ 6 * tot p n := Int.mul_le_mul (by omega) h1 (by omega) (by decide)
    omega
end Lv

set_option Elab.async false
set_option linter.all false
set_option maxRecDepth 100000
set_option maxHeartbeats 4000000
namespace L2
open PySem PySem.Spec PyProof.Rows PySem.SeqAt
/-! ### zip of lists and tuples, true a list, false a tuple -/
def HIt (b : Bool) (h : Heap) (it l : Addr) (i : Nat) : Prop := match b with | true => h.IsListIter it l i | false => h.IsTupleIter it l i
def HSq (b : Bool) (h : Heap) (l : Addr) (xs : Array Value) : Prop := match b with | true => h.IsList l xs | false => h.IsTuple l xs
theorem HIt.at {b : Bool} {h h' : Heap} {it l : Addr} {i : Nat} (x : HIt b h it l i) (e : ∀ o, h.get? it = some o → h'.get? it = some o) : HIt b h' it l i := by
  cases b
  · exact Heap.IsTupleIter.at x e
  · exact Heap.IsListIter.at x e
theorem HIt.ext {b : Bool} {h h' : Heap} {it l c : Addr} {i : Nat} (x : HIt b h it l i) (hs : Heap.ExtBut c h h') (n : it ≠ c) : HIt b h' it l i := x.at fun o e => hs _ _ n e
theorem HIt.obj {b : Bool} {h : Heap} {it l : Addr} {i : Nat} (x : HIt b h it l i) : ∃ o, h.get? it = some o ∧ ∀ v : Option Value, o.data ≠ .cell v := by
  cases b
  · obtain ⟨o, e, _, d⟩ := x
    exact ⟨o, e, fun v q => by rw [d] at q; cases q⟩
  · obtain ⟨o, e, _, d⟩ := x
    exact ⟨o, e, fun v q => by rw [d] at q; cases q⟩
theorem HSq.ext {b : Bool} {h h' : Heap} {l c : Addr} {xs : Array Value} (x : HSq b h l xs) (hs : Heap.ExtBut c h h') (n : l ≠ c) : HSq b h' l xs := by
  cases b
  · exact Heap.IsTuple.extBut x hs n
  · exact Heap.IsList.extBut x hs n
section
variable {prog : Program} {w : World} {A : Around} {E : Value → Shared → Prop} {s : Shared}
theorem nextB {b : Bool} {it l : Addr} {i : Nat} {items : Array Value} {x : Value} {Q : Value → Shared → Prop} (hit : HIt b s.heap it l i) (hl : HSq b s.heap l items) (hx : items[i]? = some x) (hQ : ∀ h', HIt b h' it l (i + 1) → Heap.SameBut it s.heap h' → Q x { s with heap := h' }) :
    wpAny (model prog w) A (Builtin.SmallTypes.nextOf (.ref it)) Q E s := by
  cases b
  · exact nextOf_tup hit hl hx hQ
  · exact wpAny_nextOf_list_item hit hl hx hQ
theorem nextB_end {b : Bool} {it l : Addr} {i : Nat} {items : Array Value} {Q : Value → Shared → Prop} (hh : A.handled = none) (hit : HIt b s.heap it l i) (hl : HSq b s.heap l items) (hx : items[i]? = none)
    (hE : ∀ h' e, Heap.ExtBut it s.heap h' → (∃ o, h'.get? e = some o ∧ o.cls = .type "StopIteration") → E (.ref e) { s with heap := h' }) : wpAny (model prog w) A (Builtin.SmallTypes.nextOf (.ref it)) Q E s := by
  cases b
  · exact nextOf_tup_end hh hit hl hx hE
  · exact wpAny_nextOf_list_end hh hit hl hx hE
theorem zipB_item {b1 b2 : Bool} {z TI TO i1 i2 l1 l2 : Addr} {k1 k2 : Nat} {xs ys : Array Value} {x y a b : Value} {Q : Value → Shared → Prop} (D : ZipApart z TI TO i1 i2 l1 l2) (hz : IsZip s.heap z TI TO .none) (hTI : IsPair s.heap TI (.ref i1) (.ref i2)) (hTO : IsPair s.heap TO a b)
    (h1 : HIt b1 s.heap i1 l1 k1) (h2 : HIt b2 s.heap i2 l2 k2) (hl1 : HSq b1 s.heap l1 xs) (hl2 : HSq b2 s.heap l2 ys) (hx : xs[k1]? = some x) (hy : ys[k2]? = some y)
    (hQ : ∀ h', IsZip h' z TI TO (rawInt s.heap.objs.size) → IsPair h' TO x y → HIt b1 h' i1 l1 (k1 + 1) → HIt b2 h' i2 l2 (k2 + 1) → IsPair h' s.heap.objs.size x y → h'.objs.size = s.heap.objs.size + 1 →
      (∀ c o, c ≠ z → c ≠ TO → c ≠ i1 → c ≠ i2 → s.heap.get? c = some o → h'.get? c = some o) → Q (.ref s.heap.objs.size) { s with heap := h' }) :
    wpAny (model prog w) A (Builtin.«zip.__next__» ⟨[.ref z], []⟩) (fun fin s' => ∃ v, fin = .done (.ret v) ∧ Q v s') E s := by
  refine wpAny_bind (m := field (.ref z) 2) (wpAny_field hz rfl (x := .bool false) rfl ?_)
  refine wpAny_bind (m := field (.ref z) 3) (wpAny_field hz rfl (x := .ref TI) rfl (wpAny_bind (wpAny_seqItems hTI rfl ?_)))
  refine wpAny_bind (m := Builtin.SmallTypes.ownedTupleIsFree (.ref z)) ?_
  unfold Builtin.SmallTypes.ownedTupleIsFree
  refine wpAny_bind (wpAny_field hz rfl (x := .none) rfl (wpAny_pure ?_))
  simp only [if_true]
  refine wpAny_bind (wpAny_rule (wpAny_bind (wpAny_field hz rfl (x := .ref TO) rfl ?_)))
  refine wpAny_bind (wpAny_setField_rec hz (by simp) fun h₁ hz₁ hs₁ => ?_)
  replace hz₁ : IsZip h₁ z TI TO .ellipsis := hz₁
  refine wpAny_bind ?_
  simp only [List.zipIdx_cons, List.zipIdx_nil, List.forIn_cons, List.forIn_nil]
  refine wpAny_bind (wpAny_bind (wpAny_onRaise (wpAny_bind (m := Builtin.SmallTypes.nextOf (.ref i1)) ?_)))
  refine nextB (h1.ext hs₁.extBut D.i1z) (hl1.ext hs₁.extBut D.l1z) hx fun h₂ h1₂ hs₂ => wpAny_pure ?_
  have t2 : IsPair h₂ TO a b := hs₂.extBut _ _ D.TOi1 (hs₁.extBut _ _ D.TOz hTO)
  refine wpAny_bind (wpAny_seqItems t2 rfl (wpAny_bind (wpAny_updateSeq_pair t2 fun h₃ hTO₃ hs₃ => ?_)))
  replace hTO₃ : IsPair h₃ TO x b := hTO₃
  refine wpAny_bind (wpAny_letGo (wpAny_pure (wpAny_bind (wpAny_bind (wpAny_onRaise (wpAny_bind (m := Builtin.SmallTypes.nextOf (.ref i2)) ?_))))))
  refine nextB (((h2.ext hs₁.extBut D.i2z).ext hs₂.extBut D.i12.symm).ext hs₃.extBut D.TOi2.symm) (((hl2.ext hs₁.extBut D.l2z).ext hs₂.extBut D.l2i1).ext hs₃.extBut D.l2TO) hy fun h₄ h2₄ hs₄ => wpAny_pure ?_
  have t4 : IsPair h₄ TO x b := hs₄.extBut _ _ D.TOi2 hTO₃
  refine wpAny_bind (wpAny_seqItems t4 rfl (wpAny_bind (wpAny_updateSeq_pair t4 fun h₅ hTO₅ hs₅ => ?_)))
  replace hTO₅ : IsPair h₅ TO x y := hTO₅
  refine wpAny_bind (wpAny_letGo (wpAny_pure (wpAny_pure (wpAny_bind (wpAny_seqItems hTO₅ rfl (wpAny_bind (wpAny_newTuple ?_)))))))
  have hsz : h₅.objs.size = s.heap.objs.size := by rw [hs₅.1, hs₄.1, hs₃.1, hs₂.1, hs₁.1]
  have hz₅ : IsZip h₅ z TI TO .ellipsis := hs₅.extBut _ _ D.TOz.symm (hs₄.extBut _ _ D.i2z.symm (hs₃.extBut _ _ D.TOz.symm (hs₂.extBut _ _ D.i1z.symm hz₁)))
  have k5 : ∀ c o, c ≠ z → c ≠ TO → c ≠ i1 → c ≠ i2 → s.heap.get? c = some o → h₅.get? c = some o := fun c o c1 c2 c3 c4 e => hs₅.extBut _ _ c2 (hs₄.extBut _ _ c4 (hs₃.extBut _ _ c2 (hs₂.extBut _ _ c3 (hs₁.extBut _ _ c1 e))))
  have j1 : HIt b1 h₅ i1 l1 (k1 + 1) := ((h1₂.ext hs₃.extBut D.TOi1.symm).ext hs₄.extBut D.i12).ext hs₅.extBut D.TOi1.symm
  have j2 : HIt b2 h₅ i2 l2 (k2 + 1) := h2₄.ext hs₅.extBut D.TOi2.symm
  have zlt : z < h₅.objs.size := Heap.lt_size hz₅
  refine wpAny_bind (m := Builtin.SmallTypes.ownedTupleHandOut (.ref z) (.ref h₅.objs.size)) ?_
  unfold Builtin.SmallTypes.ownedTupleHandOut
  have hz₆ : IsZip (h₅.push { cls := .type "tuple", data := .seq #[x, y] }) z TI TO .ellipsis := Heap.get?_push_of_some _ hz₅
  refine wpAny_bind (wpAny_setField_rec hz₆ (by simp) fun h₇ hz₇ hs₇ => ?_)
  replace hz₇ : IsZip h₇ z TI TO (rawInt h₅.objs.size) := hz₇
  refine wpAny_setField_rec hz₇ (by simp) fun h₈ hz₈ hs₈ => ?_
  replace hz₈ : IsZip h₈ z TI TO (rawInt h₅.objs.size) := hz₈
  have up : ∀ c o, c ≠ z → h₅.get? c = some o → h₈.get? c = some o := fun c o c1 e => hs₈.extBut _ _ c1 (hs₇.extBut _ _ c1 (Heap.get?_push_of_some _ e))
  have t8 : IsPair h₈ h₅.objs.size x y := hs₈.extBut _ _ (Nat.ne_of_gt zlt) (hs₇.extBut _ _ (Nat.ne_of_gt zlt) (Heap.get?_push_size _ rfl))
  have z8 : h₈.objs.size = h₅.objs.size + 1 := by rw [hs₈.1, hs₇.1, Heap.size_push]
  rw [hsz] at hz₈ t8 z8
  refine wpAny_pure ⟨_, rfl, ?_⟩
  show Q (.ref h₅.objs.size) _
  rw [hsz]
  exact hQ h₈ hz₈ (up _ _ D.TOz hTO₅) (j1.at fun o e => up _ o D.i1z e) (j2.at fun o e => up _ o D.i2z e) t8 z8 fun c o c1 c2 c3 c4 e => up c o c1 (k5 c o c1 c2 c3 c4 e)
theorem zipB_end {b1 b2 : Bool} {z TI TO i1 i2 l1 l2 : Addr} {k1 k2 : Nat} {xs ys : Array Value} {a b : Value} {Q : Fin → Shared → Prop} (hh : A.handled = none) (D : ZipApart z TI TO i1 i2 l1 l2) (hz : IsZip s.heap z TI TO .none) (hTI : IsPair s.heap TI (.ref i1) (.ref i2)) (hTO : IsPair s.heap TO a b)
    (h1 : HIt b1 s.heap i1 l1 k1) (h2 : HIt b2 s.heap i2 l2 k2) (hl1 : HSq b1 s.heap l1 xs) (hl2 : HSq b2 s.heap l2 ys) (hend : xs[k1]? = none ∨ ys[k2]? = none)
    (hE : ∀ h' e, (∀ c o, c ≠ z → c ≠ TO → c ≠ i1 → c ≠ i2 → s.heap.get? c = some o → h'.get? c = some o) → (∃ o, h'.get? e = some o ∧ o.cls = .type "StopIteration") → E (.ref e) { s with heap := h' }) : wpAny (model prog w) A (Builtin.«zip.__next__» ⟨[.ref z], []⟩) Q E s := by
  refine wpAny_bind (m := field (.ref z) 2) (wpAny_field hz rfl (x := .bool false) rfl ?_)
  refine wpAny_bind (m := field (.ref z) 3) (wpAny_field hz rfl (x := .ref TI) rfl (wpAny_bind (wpAny_seqItems hTI rfl ?_)))
  refine wpAny_bind (m := Builtin.SmallTypes.ownedTupleIsFree (.ref z)) ?_
  unfold Builtin.SmallTypes.ownedTupleIsFree
  refine wpAny_bind (wpAny_field hz rfl (x := .none) rfl (wpAny_pure ?_))
  simp only [if_true]
  refine wpAny_bind (wpAny_rule (wpAny_bind (wpAny_field hz rfl (x := .ref TO) rfl ?_)))
  refine wpAny_bind (wpAny_setField_rec hz (by simp) fun h₁ hz₁ hs₁ => ?_)
  replace hz₁ : IsZip h₁ z TI TO .ellipsis := hz₁
  refine wpAny_bind ?_
  simp only [List.zipIdx_cons, List.zipIdx_nil, List.forIn_cons, List.forIn_nil]
  refine wpAny_bind (wpAny_bind (wpAny_onRaise (wpAny_bind (m := Builtin.SmallTypes.nextOf (.ref i1)) ?_)))
  cases hx : xs[k1]? with
  | none =>
    refine nextB_end hh (h1.ext hs₁.extBut D.i1z) (hl1.ext hs₁.extBut D.l1z) hx fun h₂ e hs₂ ⟨oe, hoe, hce⟩ => ?_
    have hz₂ : IsZip h₂ z TI TO .ellipsis := hs₂ _ _ D.i1z.symm hz₁
    have ez : e ≠ z := fun x => by subst x; rw [hz₂] at hoe; cases hoe; simp at hce
    exact wpAny_setField_rec hz₂ (by simp) fun h₃ _ hs₃ => hE h₃ e (fun c o c1 _ c3 _ x => hs₃.extBut _ _ c1 (hs₂ _ _ c3 (hs₁.extBut _ _ c1 x))) ⟨oe, hs₃.extBut _ _ ez hoe, hce⟩
  | some x =>
    have hy : ys[k2]? = none := hend.resolve_left (by rw [hx]; simp)
    refine nextB (h1.ext hs₁.extBut D.i1z) (hl1.ext hs₁.extBut D.l1z) hx fun h₂ h1₂ hs₂ => wpAny_pure ?_
    have t2 : IsPair h₂ TO a b := hs₂.extBut _ _ D.TOi1 (hs₁.extBut _ _ D.TOz hTO)
    refine wpAny_bind (wpAny_seqItems t2 rfl (wpAny_bind (wpAny_updateSeq_pair t2 fun h₃ hTO₃ hs₃ => ?_)))
    refine wpAny_bind (wpAny_letGo (wpAny_pure (wpAny_bind (wpAny_bind (wpAny_onRaise (wpAny_bind (m := Builtin.SmallTypes.nextOf (.ref i2)) ?_))))))
    refine nextB_end hh (((h2.ext hs₁.extBut D.i2z).ext hs₂.extBut D.i12.symm).ext hs₃.extBut D.TOi2.symm) (((hl2.ext hs₁.extBut D.l2z).ext hs₂.extBut D.l2i1).ext hs₃.extBut D.l2TO) hy fun h₄ e hs₄ ⟨oe, hoe, hce⟩ => ?_
    have hz₄ : IsZip h₄ z TI TO .ellipsis := hs₄ _ _ D.i2z.symm (hs₃.extBut _ _ D.TOz.symm (hs₂.extBut _ _ D.i1z.symm hz₁))
    have ez : e ≠ z := fun x => by subst x; rw [hz₄] at hoe; cases hoe; simp at hce
    exact wpAny_setField_rec hz₄ (by simp) fun h₅ _ hs₅ => hE h₅ e (fun c o c1 c2 c3 c4 x => hs₅.extBut _ _ c1 (hs₄ _ _ c4 (hs₃.extBut _ _ c2 (hs₂.extBut _ _ c3 (hs₁.extBut _ _ c1 x))))) ⟨oe, hs₅.extBut _ _ ez hoe, hce⟩
theorem pyNextB_item {b1 b2 : Bool} {z TI TO i1 i2 l1 l2 : Addr} {k1 k2 : Nat} {xs ys : Array Value} {x y a b : Value} {Q : Option Value → Shared → Prop} (D : ZipApart z TI TO i1 i2 l1 l2) (hz : IsZip s.heap z TI TO .none) (hTI : IsPair s.heap TI (.ref i1) (.ref i2)) (hTO : IsPair s.heap TO a b)
    (h1 : HIt b1 s.heap i1 l1 k1) (h2 : HIt b2 s.heap i2 l2 k2) (hl1 : HSq b1 s.heap l1 xs) (hl2 : HSq b2 s.heap l2 ys) (hx : xs[k1]? = some x) (hy : ys[k2]? = some y)
    (hQ : ∀ h', IsZip h' z TI TO (rawInt s.heap.objs.size) → IsPair h' TO x y → HIt b1 h' i1 l1 (k1 + 1) → HIt b2 h' i2 l2 (k2 + 1) → IsPair h' s.heap.objs.size x y → h'.objs.size = s.heap.objs.size + 1 →
      (∀ c o, c ≠ z → c ≠ TO → c ≠ i1 → c ≠ i2 → s.heap.get? c = some o → h'.get? c = some o) → Q (some (.ref s.heap.objs.size)) { s with heap := h' }) : wpAny (model prog w) A (pyNext (.ref z)) Q E s := by
  have hT : s.TypeIs (.ref z) "zip" := ⟨_, hz, rfl⟩
  unfold pyNext
  exact wpAny_bind (wpAny_attempt (wpAny_callSpecial?_slot (name := Str.ofString "__next__") hT F.slot_zip_next (wpAny_call_entry F.slot_zip_next hT F.entry_zip_next (zipB_item D hz hTI hTO h1 h2 hl1 hl2 hx hy fun h' a1 a2 a3 a4 a5 a6 a7 => wpAny_pure (hQ h' a1 a2 a3 a4 a5 a6 a7)) (F.args_zip_next_1 _))))
theorem pyNextB_end {b1 b2 : Bool} {z TI TO i1 i2 l1 l2 : Addr} {k1 k2 : Nat} {xs ys : Array Value} {a b : Value} {Q : Option Value → Shared → Prop} (hh : A.handled = none) (D : ZipApart z TI TO i1 i2 l1 l2) (hz : IsZip s.heap z TI TO .none) (hTI : IsPair s.heap TI (.ref i1) (.ref i2)) (hTO : IsPair s.heap TO a b)
    (h1 : HIt b1 s.heap i1 l1 k1) (h2 : HIt b2 s.heap i2 l2 k2) (hl1 : HSq b1 s.heap l1 xs) (hl2 : HSq b2 s.heap l2 ys) (hend : xs[k1]? = none ∨ ys[k2]? = none)
    (hQ : ∀ h', (∀ c o, c ≠ z → c ≠ TO → c ≠ i1 → c ≠ i2 → s.heap.get? c = some o → h'.get? c = some o) → Q none { s with heap := h' }) : wpAny (model prog w) A (pyNext (.ref z)) Q E s := by
  have hT : s.TypeIs (.ref z) "zip" := ⟨_, hz, rfl⟩
  unfold pyNext
  refine wpAny_bind (wpAny_attempt (wpAny_callSpecial?_slot (name := Str.ofString "__next__") hT F.slot_zip_next (wpAny_call_entry F.slot_zip_next hT F.entry_zip_next (zipB_end hh D hz hTI hTO h1 h2 hl1 hl2 hend fun h' e hk ⟨o, ho, hc⟩ => ?_) (F.args_zip_next_1 _))))
  exact wpAny_bind (wpAny_isInstance (T := "StopIteration") (b := true) ⟨o, ho, hc⟩ isSubtype_stop (wpAny_pure (hQ _ hk)))
def itCls (b : Bool) : String := match b with | true => "list_iterator" | false => "tuple_iterator"
def zB1 (b1 : Bool) (h : Heap) (l1 : Addr) : Heap := h.push { cls := .type (itCls b1), data := .fields #[.ref l1, .int 0 0] }
def zB2 (b1 b2 : Bool) (h : Heap) (l1 l2 : Addr) : Heap := (zB1 b1 h l1).push { cls := .type (itCls b2), data := .fields #[.ref l2, .int 0 0] }
def zB3 (b1 b2 : Bool) (h : Heap) (l1 l2 : Addr) : Heap := (zB2 b1 b2 h l1 l2).push { cls := .type "tuple", data := .seq #[.ref h.objs.size, .ref (zB1 b1 h l1).objs.size] }
def zB4 (b1 b2 : Bool) (h : Heap) (l1 l2 : Addr) : Heap := (zB3 b1 b2 h l1 l2).push { cls := .type "tuple", data := .seq #[.none, .none] }
def zB5 (b1 b2 : Bool) (h : Heap) (l1 l2 : Addr) : Heap := (zB4 b1 b2 h l1 l2).push { cls := .type "zip", data := .fields #[.none, .bool false, .bool false, .ref (zB2 b1 b2 h l1 l2).objs.size, .ref (zB3 b1 b2 h l1 l2).objs.size] }
theorem zipB_new (b1 b2 : Bool) (l1 l2 : Addr) (xs ys : Array Value) :
    Meets (Builtin.«zip.__new__» ⟨[.type "zip", .ref l1, .ref l2], []⟩) (fun _ R s => HSq b1 s.heap l1 xs ∧ HSq b2 s.heap l2 ys ∧ R (.ok (.ret (.ref (zB4 b1 b2 s.heap l1 l2).objs.size))) { s with heap := zB5 b1 b2 s.heap l1 l2 }) :=
  .of_wp fun prog w A R s h => by
    obtain ⟨hp, g, d, tk, os⟩ := s
    obtain ⟨hl1, hl2, h⟩ := h
    have hsub := sub_zip
    cases b1 <;> cases b2
    · have p1 : Heap.IsTuple (Shared.heap ⟨hp, g, d, tk, os⟩) l1 xs := hl1
      have p2 : Heap.IsTuple (Shared.heap ⟨hp.push { cls := .type "tuple_iterator", data := .fields #[.ref l1, .int 0 0] }, g, d, tk, os⟩) l2 ys := Heap.IsTuple.push hl2 _
      wp_walk using wpAny_pyIter_tuple p1, wpAny_pyIter_tuple p2
      exact ⟨_, rfl, h⟩
    · have p1 : Heap.IsTuple (Shared.heap ⟨hp, g, d, tk, os⟩) l1 xs := hl1
      have p2 : Heap.IsList (Shared.heap ⟨hp.push { cls := .type "tuple_iterator", data := .fields #[.ref l1, .int 0 0] }, g, d, tk, os⟩) l2 ys := Heap.IsList.push hl2 _
      wp_walk using wpAny_pyIter_tuple p1, wpAny_pyIter_list p2
      exact ⟨_, rfl, h⟩
    · have p1 : Heap.IsList (Shared.heap ⟨hp, g, d, tk, os⟩) l1 xs := hl1
      have p2 : Heap.IsTuple (Shared.heap ⟨hp.push { cls := .type "list_iterator", data := .fields #[.ref l1, .int 0 0] }, g, d, tk, os⟩) l2 ys := Heap.IsTuple.push hl2 _
      wp_walk using wpAny_pyIter_list p1, wpAny_pyIter_tuple p2
      exact ⟨_, rfl, h⟩
    · have p1 : Heap.IsList (Shared.heap ⟨hp, g, d, tk, os⟩) l1 xs := hl1
      have p2 : Heap.IsList (Shared.heap ⟨hp.push { cls := .type "list_iterator", data := .fields #[.ref l1, .int 0 0] }, g, d, tk, os⟩) l2 ys := Heap.IsList.push hl2 _
      wp_walk using wpAny_pyIter_list p1, wpAny_pyIter_list p2
      exact ⟨_, rfl, h⟩
theorem HIt.made {b : Bool} {h : Heap} {it l : Addr} (e : h.get? it = some { cls := .type (itCls b), data := .fields #[.ref l, .int 0 0] }) : HIt b h it l 0 := by
  cases b
  · exact ⟨_, e, rfl, rfl⟩
  · exact ⟨_, e, rfl, rfl⟩
theorem call_zipB {b1 b2 : Bool} {l1 l2 : Addr} {xs ys : Array Value} {Q : Value → Shared → Prop} (hl1 : HSq b1 s.heap l1 xs) (hl2 : HSq b2 s.heap l2 ys)
    (h : ∀ h', IsZip h' (s.heap.objs.size + 4) (s.heap.objs.size + 2) (s.heap.objs.size + 3) .none → IsPair h' (s.heap.objs.size + 2) (.ref s.heap.objs.size) (.ref (s.heap.objs.size + 1)) → IsPair h' (s.heap.objs.size + 3) .none .none →
      HIt b1 h' s.heap.objs.size l1 0 → HIt b2 h' (s.heap.objs.size + 1) l2 0 → (∀ c o, s.heap.get? c = some o → h'.get? c = some o) → Q (.ref (s.heap.objs.size + 4)) { s with heap := h' }) : wpAny (model prog w) A (call (.type "zip") [.ref l1, .ref l2]) Q E s := by
  refine callType_new F.called_zip (by decide) (F.typeCall_zip_2 _ _) (F.newCall_zip_2 _ _) (fun obj => F.args_object_init_3 obj _ _) F.entry_zip_new (zipB_new b1 b2 l1 l2 xs ys) ⟨hl1, hl2, ?_⟩
  have z1 : (zB1 b1 s.heap l1).objs.size = s.heap.objs.size + 1 := Heap.size_push ..
  have z2 : (zB2 b1 b2 s.heap l1 l2).objs.size = s.heap.objs.size + 2 := by unfold zB2; rw [Heap.size_push, z1]
  have z3 : (zB3 b1 b2 s.heap l1 l2).objs.size = s.heap.objs.size + 3 := by unfold zB3; rw [Heap.size_push, z2]
  have z4 : (zB4 b1 b2 s.heap l1 l2).objs.size = s.heap.objs.size + 4 := by unfold zB4; rw [Heap.size_push, z3]
  have g5 : (zB5 b1 b2 s.heap l1 l2).get? (zB4 b1 b2 s.heap l1 l2).objs.size = some _ := Heap.get?_push_size _ rfl
  have g4 : (zB5 b1 b2 s.heap l1 l2).get? (zB3 b1 b2 s.heap l1 l2).objs.size = some _ := Heap.get?_push_of_some _ (Heap.get?_push_size _ rfl)
  have g3 : (zB5 b1 b2 s.heap l1 l2).get? (zB2 b1 b2 s.heap l1 l2).objs.size = some _ := Heap.get?_push_of_some _ (Heap.get?_push_of_some _ (Heap.get?_push_size _ rfl))
  have g2 : (zB5 b1 b2 s.heap l1 l2).get? (zB1 b1 s.heap l1).objs.size = some _ := Heap.get?_push_of_some _ (Heap.get?_push_of_some _ (Heap.get?_push_of_some _ (Heap.get?_push_size _ rfl)))
  have g1 : (zB5 b1 b2 s.heap l1 l2).get? s.heap.objs.size = some _ := Heap.get?_push_of_some _ (Heap.get?_push_of_some _ (Heap.get?_push_of_some _ (Heap.get?_push_of_some _ (Heap.get?_push_size _ rfl))))
  show _ ∧ _
  rw [z2, z3, z4] at g5
  rw [z1, z2] at g3
  rw [z3] at g4
  rw [z1] at g2
  rw [z4]
  exact ⟨⟨_, g5, rfl⟩, h _ g5 g3 g4 (HIt.made g1) (HIt.made g2) fun c o x => Heap.get?_push_of_some _ (Heap.get?_push_of_some _ (Heap.get?_push_of_some _ (Heap.get?_push_of_some _ (Heap.get?_push_of_some _ x))))⟩
end
theorem SqB.heap {X : Cx} {b : Bool} {pins : List (Addr × Obj)} {σ : St} {H : Hp} {s : Shared} {a : Addr} {xs : List V} (I : Inv X pins σ H s) (h : SqB b X.K H a xs) : ∃ its : List Value, Vals xs its ∧ HSq b s.heap a its.toArray := by
  cases b
  · obtain ⟨its, r, p, _⟩ := I.tuple h
    exact ⟨its, r, p⟩
  · obtain ⟨its, r, p, _⟩ := I.list h
    exact ⟨its, r, p.isList⟩
theorem HSq.lt {b : Bool} {h : Heap} {l : Addr} {xs : Array Value} (x : HSq b h l xs) : l < h.objs.size := by
  cases b
  · obtain ⟨o, e, _⟩ := x
    exact Heap.lt_size e
  · obtain ⟨o, e, _⟩ := x
    exact Heap.lt_size e
theorem SqB.inj {X : Cx} {b : Bool} {pins : List (Addr × Obj)} {σ : St} {H : Hp} {s : Shared} {a : Addr} {xs ys : List V} (I : Inv X pins σ H s) (h : SqB b X.K H a xs) (g : SqB b X.K H a ys) : xs = ys := by
  cases b
  · exact I.tuple_inj h g
  · exact I.list_inj h g
/-- zip of two: a new pair at each turn -/
def ItzB (b1 b2 : Bool) (K : PySem.W.Frag) (a b : Addr) : It :=
  ⟨fun i H => ∃ xs ys x y, SqB b1 K H a xs ∧ SqB b2 K H b ys ∧ xs[i]? = some x ∧ ys[i]? = some y,
   fun i H z H' => ∃ p x y, H p = none ∧ z = .ref p ∧ H' = upd H p (.tup [x, y]) ∧ (∀ xs, SqB b1 K H a xs → xs[i]? = some x) ∧ ∀ ys, SqB b2 K H b ys → ys[i]? = some y,
   fun i H => ∃ xs ys, SqB b1 K H a xs ∧ SqB b2 K H b ys ∧ (xs.length ≤ i ∨ ys.length ≤ i)⟩
end L2

set_option Elab.async false
set_option linter.all false
set_option maxRecDepth 100000
set_option maxHeartbeats 4000000
namespace L2
open PySem PySem.Spec PyProof.Rows PySem.SeqAt
def zipStB (b1 b2 : Bool) (z TI TO i1 i2 l1 l2 : Addr) (i : Nat) (h : Heap) : Prop := IsZip h z TI TO .none ∧ IsPair h TI (.ref i1) (.ref i2) ∧ (∃ a b, IsPair h TO a b) ∧ HIt b1 h i1 l1 i ∧ HIt b2 h i2 l2 i
theorem turn_zipB {P : Program} {w : World} {K : PySem.W.Frag} {es : List Expr} {x1} {pos : Pos} {b1 b2 : Bool} {z TI TO i1 i2 l1 l2 : Addr} (D : ZipApart z TI TO i1 i2 l1 l2) : Turn P w K (.Tuple es x1 pos) (ItzB b1 b2 K l1 l2) [z, TI, TO, i1, i2] z (zipStB b1 b2 z TI TO i1 i2 l1 l2) where
  mem := by simp
  obj := fun i h st b hb => by
    obtain ⟨h1, h2, ⟨a, c, h3⟩, h4, h5⟩ := st
    simp only [List.mem_cons, List.not_mem_nil, or_false] at hb
    rcases hb with rfl | rfl | rfl | rfl | rfl
    · exact ⟨_, h1, fun v q => nomatch q⟩
    · exact ⟨_, h2, fun v q => nomatch q⟩
    · exact ⟨_, h3, fun v q => nomatch q⟩
    · exact h4.obj
    · exact h5.obj
  keep := fun i h h' st k => by
    obtain ⟨h1, h2, ⟨a, c, h3⟩, h4, h5⟩ := st
    exact ⟨k z (by simp) _ h1, k TI (by simp) _ h2, ⟨a, c, k TO (by simp) _ h3⟩, h4.at fun o q => k i1 (by simp) o q, h5.at fun o q => k i2 (by simp) o q⟩
  item := by
    intro X hP hw hK hc i pins s σ H E I hf st hg
    subst hP hw hK
    obtain ⟨xs, ys, x, y, hq1, hq2, hx, hy⟩ := hg
    obtain ⟨its, rv, p⟩ := hq1.heap I
    obtain ⟨its2, rv2, p2⟩ := hq2.heap I
    obtain ⟨u, hu, ru⟩ := rv.get hx
    obtain ⟨u2, hu2, ru2⟩ := rv2.get hy
    obtain ⟨s1, s2, ⟨a, c, s3⟩, s4, s5⟩ := id st
    refine pyNextB_item D s1 s2 s3 s4 s5 p p2 (x := u) (y := u2) (by simpa using hu) (by simpa using hu2) fun h' g1 g2 g3 g4 g5 g6 hk => ?_
    refine ⟨_, rfl, ?_⟩
    refine wpAny_letOwnedTupleGo_zip g1 fun h'' he hs => ?_
    have live : ∀ b ∈ [z, TI, TO, i1, i2], b < s.heap.objs.size := fun b hb => by
      obtain ⟨h1, h2, ⟨a, c, h3⟩, h4, h5⟩ := st
      obtain ⟨o4, e4, _⟩ := h4.obj
      obtain ⟨o5, e5, _⟩ := h5.obj
      simp only [List.mem_cons, List.not_mem_nil, or_false] at hb
      rcases hb with rfl | rfl | rfl | rfl | rfl
      · exact Heap.lt_size h1
      · exact Heap.lt_size h2
      · exact Heap.lt_size h3
      · exact Heap.lt_size e4
      · exact Heap.lt_size e5
    have hsz : s.heap.objs.size ≠ z := Nat.ne_of_gt (live z (by simp))
    have k : ∀ b o, b ∉ [z, TI, TO, i1, i2] → s.heap.get? b = some o → h''.get? b = some o := fun b o hb q => by
      simp only [List.mem_cons, List.not_mem_nil, or_false, not_or] at hb
      exact (hs.2 b hb.1).trans (hk b o hb.1 hb.2.2.1 hb.2.2.2.1 hb.2.2.2.2 q)
    have st' : zipStB b1 b2 z TI TO i1 i2 l1 l2 (i + 1) h'' := by
      refine ⟨he, (hs.2 TI D.TIz).trans (hk TI _ D.TIz D.TITO D.TIi1 D.TIi2 s2), ⟨u, u2, (hs.2 TO D.TOz).trans g2⟩, ?_, ?_⟩
      · exact g3.ext hs.extBut D.i1z
      · exact g4.ext hs.extBut D.i2z
    have th : ∀ b ∈ [z, TI, TO, i1, i2], ∃ o, h''.get? b = some o := fun b hb => by
      obtain ⟨h1, h2, ⟨a, c, h3⟩, h4, h5⟩ := st'
      obtain ⟨o4, e4, _⟩ := h4.obj
      obtain ⟨o5, e5, _⟩ := h5.obj
      simp only [List.mem_cons, List.not_mem_nil, or_false] at hb
      rcases hb with rfl | rfl | rfl | rfl | rfl
      · exact ⟨_, h1⟩
      · exact ⟨_, h2⟩
      · exact ⟨_, h3⟩
      · exact ⟨_, e4⟩
      · exact ⟨_, e5⟩
    have fresh : H s.heap.objs.size = none := I.hok.fresh (Nat.le_refl _)
    refine ⟨.ref s.heap.objs.size, _, I.pairOut (fp := [z, TI, TO, i1, i2]) (tk := s.toks) hf k ((hs.2 _ hsz).trans g5) live th ru ru2, rfl, ⟨s.heap.objs.size, x, y, fresh, rfl, rfl, fun ys hy => by rw [hy.inj I hq1]; exact hx, fun zs hz => by rw [hz.inj I hq2]; exact hy⟩, st', fun b hb => ?_⟩
    rw [upd_ne (Nat.ne_of_lt (live b hb))]
    exact (hf b hb).1
  done := by
    intro X hP hw hK hc i pins s σ H E I hf st hg
    subst hP hw hK
    obtain ⟨xs, ys, hq1, hq2, hx⟩ := hg
    obtain ⟨its, rv, p⟩ := hq1.heap I
    obtain ⟨its2, rv2, p2⟩ := hq2.heap I
    obtain ⟨s1, s2, ⟨a, c, s3⟩, s4, s5⟩ := st
    have e1 := rv.length
    have e2 := rv2.length
    refine pyNextB_end (I.ok.hd hc) D s1 s2 s3 s4 s5 p p2 (by rcases hx with q | q; exact .inl (by simp; omega); exact .inr (by simp; omega)) fun h' hk => ⟨rfl, I.turnedAll (fp := [z, TI, TO, i1, i2]) (tk := s.toks) hf fun b o hb q => ?_⟩
    simp only [List.mem_cons, List.not_mem_nil, or_false, not_or] at hb
    exact hk b o hb.1 hb.2.2.1 hb.2.2.2.1 hb.2.2.2.2 q
  self := fun _ _ _ _ _ st h => wpAny_pyIter_zip st.1 h
def iZipB (K : PySem.W.Frag) (ta : TA) : TI := fun σ H R => ta σ H fun vs H1 => ∃ b1 b2 a b, vs = [.ref a, .ref b] ∧ (∃ xs, SqB b1 K H1 a xs) ∧ (∃ ys, SqB b2 K H1 b ys) ∧ R (ItzB b1 b2 K a b) H1
theorem pi_zipB {X : Cx} {es : List Expr} {x1} {tpos : Pos} {e f : Expr} {ta : TA} {p pos : Pos} (hg : Gl X "zip") (hm : X.mg "zip" = none) (ha : PA X [e, f] ta) (hs : starEach [e, f] X.env = [(false, eval e X.env), (false, eval f X.env)] := by rfl) (hs2 : starEach [f] X.env = [(false, eval f X.env)] := by rfl) :
    PI X (.Tuple es x1 tpos) (.Call (.Name "zip" p) [e, f] [] pos) (iZipB X.K ta) := by
  intro pins s σ H R I h
  refine Call_ (ld_blt I hg hm (show bootBuiltins "zip" = some (.type "zip") by decide +kernel) (PyProof.Rows.callWith_type1 (thn (ha pos pins s σ H _ I h) fun us s1 ⟨vs, H1, I1, r1, q1⟩ => ?_) (by rw [hs, hs2]) (by rw [hs2]; rfl)))
  obtain ⟨b1, b2, a, b, e1, ⟨xs, hq⟩, ⟨ys, hq2⟩, q⟩ := q1
  subst e1
  obtain ⟨u, u2, rfl, r, r2⟩ := vals2 r1
  cases r
  cases r2
  obtain ⟨its, rv, pl⟩ := hq.heap I1
  obtain ⟨its2, rv2, pl2⟩ := hq2.heap I1
  have la := pl.lt
  have lb := pl2.lt
  have ne : ∀ {i j : Nat}, i ≠ j → s1.heap.objs.size + i ≠ s1.heap.objs.size + j := fun h z => h (Nat.add_left_cancel z)
  have nl : ∀ {c : Addr} (i : Nat), c < s1.heap.objs.size → c ≠ s1.heap.objs.size + i := fun i h => Nat.ne_of_lt (Nat.lt_of_lt_of_le h (Nat.le_add_right _ _))
  refine call_zipB pl pl2 fun h' g1 g2 g3 g4 g5 k => wpAny_pyIter_zip g1 ?_
  have D : ZipApart (s1.heap.objs.size + 4) (s1.heap.objs.size + 2) (s1.heap.objs.size + 3) (s1.heap.objs.size + 0) (s1.heap.objs.size + 1) a b :=
    ⟨ne (by decide), ne (by decide), ne (by decide), ne (by decide), ne (by decide), ne (by decide), ne (by decide), ne (by decide), ne (by decide), ne (by decide), nl 4 la, nl 3 la, nl 0 la, nl 1 la, nl 4 lb, nl 3 lb, nl 0 lb, nl 1 lb⟩
  refine ⟨s1.heap.objs.size + 4, [s1.heap.objs.size + 4, s1.heap.objs.size + 2, s1.heap.objs.size + 3, s1.heap.objs.size + 0, s1.heap.objs.size + 1], _, _, H1, rfl, I1.kept (t' := s1.toks) k, turn_zipB D, ⟨g1, g2, ⟨_, _, g3⟩, g4, g5⟩, fun c hc => ?_, q⟩
  have ge : s1.heap.objs.size ≤ c := by
    simp only [List.mem_cons, List.not_mem_nil, or_false] at hc
    rcases hc with rfl | rfl | rfl | rfl | rfl <;> exact Nat.le_add_right _ _
  exact I1.fpOk ge (I1.hok.fresh ge)
/-- a comprehension over zip of two of like length that the block leaves as they are -/
theorem comp_zip {b1 b2 : Bool} {K : PySem.W.Frag} {own : List Str} {js : List Nat} {g : TG} {tt : TT} {te : TE} {σ : St} {H1 : Hp} {Q : VK} {a b : Addr} {xs ys : List V} (hlen : xs.length ≤ ys.length) (Pv : Addr → Nat → Hp → Prop) (h0 : ∀ acc, H1 acc = none → Pv acc 0 (upd H1 acc (.lst [])))
    (hl : ∀ acc i H, H1 acc = none → i ≤ xs.length → Pv acc i H → SqB b1 K H a xs ∧ SqB b2 K H b ys)
    (hs : ∀ acc i x y p H, H1 acc = none → xs[i]? = some x → ys[i]? = some y → Pv acc i H → H p = none → g (.ref p) (blkσ own js σ) (upd H p (.tup [x, y])) fun τ H4 => tt τ H4 fun c H5 =>
      if c = true then te τ H5 fun y H6 => ∃ ys, H6 acc = some (.lst ys) ∧ ys.length < sizeLine ∧ (i + 1 ≤ xs.length ∧ Pv acc (i + 1) (upd H6 acc (.lst (ys ++ [y])))) else (i + 1 ≤ xs.length ∧ Pv acc (i + 1) H5))
    (hd : ∀ acc H, H1 acc = none → Pv acc xs.length H → Q (.ref acc) H) : tCompW own js g tt te σ (ItzB b1 b2 K a b) H1 Q := by
  intro acc hacc
  refine ⟨fun i H => i ≤ xs.length ∧ Pv acc i H, xs.length, ⟨Nat.zero_le _, h0 acc hacc⟩, ?_⟩
  rintro i H ⟨hi, p⟩
  obtain ⟨q1, q2⟩ := hl acc i H hacc hi p
  by_cases hlt : i < xs.length
  · have hl2 : i < ys.length := by omega
    refine .inr ⟨hlt, ⟨xs, ys, xs[i], ys[i], q1, q2, by simp [hlt], by simp [hl2]⟩, fun x H' y => ?_⟩
    obtain ⟨pa, z1, z2, hp, e1, e2, y1, y2⟩ := y
    subst e1 e2
    exact hs acc i z1 z2 pa H hacc (y1 xs q1) (y2 ys q2) p hp
  · have e : i = xs.length := by omega
    subst e
    exact .inl ⟨⟨xs, ys, q1, q2, .inl (Nat.le_refl _)⟩, hd acc H hacc p⟩
end L2

set_option Elab.async false
set_option linter.all false
set_option maxRecDepth 100000
set_option maxHeartbeats 4000000
namespace Lv
open PySem L2
theorem pgK_tup (K : PySem.W.Frag) {X : Cx} {es : List Expr} {k : Nat} {t : TGs} {n : Nat} {pos : Pos} (hc : X.calm = true) (h : PGs X es t) (hK : X.K = K := by rfl) (hn : (assignEach es X.env).length = n := by rfl) (hst : (assignEach es X.env).findIdx? (·.1) = none := by rfl) : PG X (.Tuple es k pos) (gTup K n t) := by
  subst hK; exact pg_tup hc h hn hst
end Lv

set_option Elab.async false
set_option linter.all false
set_option maxRecDepth 100000
set_option maxHeartbeats 4000000
namespace L2
open PySem PySem.Spec PyProof.Rows PySem.SeqAt
theorem noFill_tup_mul : fillsNumberSlot (.type "tuple") "mul" = pure false :=
  PySem.fillsNumberSlot_seq (id := "tuple.__mul__") (r := some (.builtin "tuple.__rmul__")) F.slot_tuple_mul.lookup (by decide +kernel) F.slot_tuple_rmul.lookup (by decide +kernel)
theorem rep_tup : seqRepeat? (.type "tuple") = pure (some (.builtin "tuple.__mul__")) := by
  unfold seqRepeat?
  rw [PySem.seqSlot_of (T := "tuple") (name := "__mul__") (id := "tuple.__mul__") F.slot_tuple_mul.lookup (by decide +kernel), PySem.seqSlot_of (T := "tuple") (name := "__rmul__") (id := "tuple.__rmul__") F.slot_tuple_rmul.lookup (by decide +kernel)]
  rfl
theorem rmul_int_tup (a : Int) (t : Tok) (l : Addr) (items : Array Value) (n : Nat) (dct : Option Addr) (sl : Array (Option Value)) :
    Meets (Builtin.«int.__rmul__» ⟨[.int a t, .ref l], []⟩) (fun _ R s => s.heap.get? l = some { cls := .type "tuple", dict := dct, data := .seq items n, slots := sl } ∧ R (.ok (.ret Value.notImplemented)) s) :=
  .of_wp fun prog w A R s h => by
    obtain ⟨hp, g, d, tk, os⟩ := s
    obtain ⟨hl, h⟩ := h
    wp_walk
    exact ⟨_, rfl, h⟩
theorem mul_tup1 (l : Addr) (items : Array Value) (n : Nat) (dct : Option Addr) (sl : Array (Option Value)) (u : Tok) :
    Meets (Builtin.«tuple.__mul__» ⟨[.ref l, .int 1 u], []⟩) (fun _ R s => s.heap.get? l = some { cls := .type "tuple", dict := dct, data := .seq items n, slots := sl } ∧ R (.ok (.ret (.ref l))) s) :=
  .of_wp fun prog w A R s h => by
    obtain ⟨hp, g, d, tk, os⟩ := s
    obtain ⟨hl, h⟩ := h
    unfold Builtin.«tuple.__mul__»
    wp_walk
    exact ⟨_, rfl, h⟩
theorem mul_tupN (l : Addr) (items : Array Value) (n : Nat) (dct : Option Addr) (sl : Array (Option Value)) (k : Int) (u : Tok) (h0 : ¬ (decide (k < -(2 ^ 63)) || decide (k ≥ 2 ^ 63)) = true) (h1 : ¬ (items.isEmpty || k == 1) = true) (h2 : ¬ (decide (k ≤ 0) || items.isEmpty) = true) (h3 : ¬ items.size * k > (2 ^ 63 - 1) / 8) (h4 : ¬ Builtin.Tuple.tupleTooMany (items.size * k) = true) (h5 : ¬ (List.foldl (fun x1 x2 => x1 ++ x2) #[] (List.replicate k.toNat items)).size > sizeLine) :
    Meets (Builtin.«tuple.__mul__» ⟨[.ref l, .int k u], []⟩) (fun _ R s => s.heap.get? l = some { cls := .type "tuple", dict := dct, data := .seq items n, slots := sl } ∧
      R (.ok (.ret (.ref s.heap.objs.size))) { s with heap := s.heap.push { cls := .type "tuple", data := .seq ((List.replicate k.toNat items).foldl (fun x1 x2 => x1 ++ x2) #[]) } }) :=
  .of_wp fun prog w A R s h => by
    obtain ⟨hp, g, d, tk, os⟩ := s
    obtain ⟨hl, h⟩ := h
    unfold Builtin.«tuple.__mul__»
    wp_walk
    rw [if_neg h0]
    wp_walk
    rw [if_neg h3]
    wp_walk
    exact ⟨_, rfl, h⟩
/-! ### rules with the fragment named: within a block -/
theorem opK_catT (K : PySem.W.Frag) {X : Cx} (hK : X.K = K := by rfl) : OpR X (binaryOp .Add) (rCatT K) := by subst hK; exact op_catT
theorem callK_isinst (K : PySem.W.Frag) {X : Cx} (hK : X.K = K := by rfl) : CallR X (.builtin "isinstance") (fun xs H Q => ∃ x T t b, xs = [x, .ty T] ∧ TyOf K H x t ∧ PySem.W.kitOne K t (.type T) = some b ∧ Q (.bl b) H) := by subst hK; exact call_isinst
section
variable {X : Cx}
/-- a tuple that isn't empty times a positive int: 1 gives the tuple itself -/
def rRepT (K : PySem.W.Frag) : R2 := fun x y H Q => ∃ (l : Addr) (k : Int) (xs : List V), x = .ref l ∧ y = .int k ∧ SqT K H l xs ∧ xs ≠ [] ∧ 1 ≤ k ∧ k ≤ 1000 ∧ xs.length * k.toNat ≤ 1000 ∧ (k = 1 → Q (.ref l) H) ∧ (k ≠ 1 → ∀ p, H p = none → Q (.ref p) (upd H p (.tup (List.replicate k.toNat xs).flatten)))
theorem op_repT : OpR X (binaryOp .Mult) (rRepT X.K) := by
  intro pins s σ H x y v u Q I rx ry h
  obtain ⟨l, k, xs, rfl, rfl, hH, hne, k1, k2, hz, q1, q2⟩ := h
  cases rx
  obtain ⟨t, rfl⟩ := ry
  obtain ⟨its, r, p, _⟩ := I.tuple hH
  obtain ⟨⟨c, dct, dt, sl⟩, hl, hc, n, hd⟩ := (show s.heap.IsTuple l its.toArray from p)
  replace hc : c = .type "tuple" := hc
  replace hd : dt = .seq its.toArray n := hd
  subst hc hd
  have hlen := r.length
  refine wpAny_binaryOp_repeat_ref (T := "tuple") (U := "int") (by decide) ⟨_, hl, rfl⟩ (fun s' => typeIs_int s' k t) noFill_tup_mul F.fills_int_mul F.slot_int_rmul rep_tup F.slot_int_index.lookup
    (call_meets F.slot_int_rmul (typeIs_int s k t) F.entry_int_rmul (F.args_int_rmul_2 _ _) (rmul_int_tup k t l its.toArray n dct sl) ⟨hl, rfl, ⟨_, hl, rfl⟩, ?_⟩)
  by_cases e : k = 1
  · subst e
    exact call_meets F.slot_tuple_mul ⟨_, hl, rfl⟩ F.entry_tuple_mul (F.args_tuple_mul_2 _ _) (mul_tup1 l its.toArray n dct sl t) ⟨hl, ⟨.ref l, H, I, rfl, q1 rfl⟩⟩
  · have hpos : 0 < its.length := by rw [← hlen]; exact List.length_pos_iff.mpr hne
    have hne' : its.toArray.isEmpty = false := by
      cases its with
      | nil => simp at hpos
      | cons => rfl
    have hm : (its.toArray.size : Int) * k ≤ 1000 := by
      rw [List.size_toArray, ← hlen]
      have : ((xs.length * k.toNat : Nat) : Int) ≤ 1000 := by omega
      rw [Int.natCast_mul, Int.toNat_of_nonneg (by omega)] at this
      exact this
    have f0 : List.foldl (fun x1 x2 => x1 ++ x2) #[] (List.replicate k.toNat its.toArray) = (List.replicate k.toNat its).flatten.toArray := by
      have := foldl_rep its k.toNat []
      rw [List.nil_append] at this
      exact this
    refine call_meets F.slot_tuple_mul ⟨_, hl, rfl⟩ F.entry_tuple_mul (F.args_tuple_mul_2 _ _) (mul_tupN l its.toArray n dct sl k t ?_ ?_ ?_ ?_ ?_ ?_) ⟨hl, ?_⟩
    · simp; omega
    · rw [hne']; simp; exact e
    · rw [hne']; simp; omega
    · omega
    · unfold Builtin.Tuple.tupleTooMany
      rw [decide_eq_true_iff, sizeLine_eq]
      omega
    · rw [f0, List.size_toArray, len_rep, Nat.mul_comm, ← hlen]
      exact Nat.not_lt.mpr (Nat.le_of_lt (small1000 hz))
    · rw [f0]
      refine ⟨.ref s.heap.objs.size, _, I.laid (t' := s.toks) (o := .tup (List.replicate k.toNat xs).flatten) (fun b ob q => Heap.get?_push_of_some _ q) (Nat.le_refl _) ?_, rfl, q2 e _ (I.hok.fresh (Nat.le_refl _))⟩
      exact ⟨by rw [len_rep, Nat.mul_comm]; exact Nat.le_of_lt (small1000 hz), _, r.rep k.toNat, IsTupD.new _ _⟩
/-! ### lists of lists, tuples of tuples -/
/-- a list of refs, each to a list of ints -/
def LLs (H : Hp) (rs : List Addr) (N : List (List Int)) : Prop := rs.length = N.length ∧ ∀ (j : Nat) r xs, rs[j]? = some r → N[j]? = some xs → H r = some (.lst (xs.map V.int))
def TTs (H : Hp) (rs : List Addr) (N : List (List Int)) : Prop := rs.length = N.length ∧ ∀ (j : Nat) r xs, rs[j]? = some r → N[j]? = some xs → H r = some (.tup (xs.map V.int))
theorem LLs.same {H H' : Hp} {rs : List Addr} {N : List (List Int)} (h : LLs H rs N) (s : Same H H') : LLs H' rs N := ⟨h.1, fun j r xs a b => s _ _ (h.2 j r xs a b)⟩
theorem TTs.same {H H' : Hp} {rs : List Addr} {N : List (List Int)} (h : TTs H rs N) (s : Same H H') : TTs H' rs N := ⟨h.1, fun j r xs a b => s _ _ (h.2 j r xs a b)⟩
theorem TTs.lst {H : Hp} {rs : List Addr} {N : List (List Int)} {acc : Addr} {ys zs : List V} (h : TTs H rs N) (e : H acc = some (.lst zs)) : TTs (upd H acc (.lst ys)) rs N := ⟨h.1, fun j r xs a b => by
  have := h.2 j r xs a b
  rw [upd_ne (by intro z; subst z; rw [e] at this; cases this)]
  exact this⟩
theorem LLs.lst {H : Hp} {rs : List Addr} {N : List (List Int)} {acc : Addr} {ys : List V} (h : LLs H rs N) (e : acc ∉ rs) : LLs (upd H acc (.lst ys)) rs N := ⟨h.1, fun j r xs a b => by
  rw [upd_ne (by intro z; subst z; exact e (List.mem_of_getElem? a))]
  exact h.2 j r xs a b⟩
theorem snoc_get {α : Type} {xs : List α} {x y : α} {j : Nat} (h : (xs ++ [x])[j]? = some y) : xs[j]? = some y ∨ (j = xs.length ∧ y = x) := by
  by_cases hj : j < xs.length
  · rw [List.getElem?_append_left hj] at h; exact .inl h
  · rw [List.getElem?_append_right (by omega)] at h
    have : j - xs.length = 0 := by
      cases e : j - xs.length with
      | zero => rfl
      | succ m => rw [e] at h; simp at h
    rw [this] at h
    exact .inr ⟨by omega, by simpa using h.symm⟩
theorem TTs.snoc {H : Hp} {rs : List Addr} {N : List (List Int)} {r : Addr} {x : List Int} (h : TTs H rs N) (e : H r = some (.tup (x.map V.int))) : TTs H (rs ++ [r]) (N ++ [x]) := ⟨by simp [h.1], fun j r' xs a b => by
  rcases snoc_get a with a | ⟨a, rfl⟩
  · rcases snoc_get b with b | ⟨b, _⟩
    · exact h.2 j r' xs a b
    · have := (List.getElem?_eq_some_iff.mp a).1; have := h.1; omega
  · rcases snoc_get b with b | ⟨_, rfl⟩
    · have := (List.getElem?_eq_some_iff.mp b).1; have := h.1; omega
    · exact e⟩
theorem LLs.snoc {H : Hp} {rs : List Addr} {N : List (List Int)} {r : Addr} {x : List Int} (h : LLs H rs N) (e : H r = some (.lst (x.map V.int))) : LLs H (rs ++ [r]) (N ++ [x]) := ⟨by simp [h.1], fun j r' xs a b => by
  rcases snoc_get a with a | ⟨a, rfl⟩
  · rcases snoc_get b with b | ⟨b, _⟩
    · exact h.2 j r' xs a b
    · have := (List.getElem?_eq_some_iff.mp a).1; have := h.1; omega
  · rcases snoc_get b with b | ⟨_, rfl⟩
    · have := (List.getElem?_eq_some_iff.mp b).1; have := h.1; omega
    · exact e⟩
theorem all_range (n : Nat) : ((List.range n).all fun _ => true) = true := by simp
end
end L2

set_option Elab.async false
set_option linter.all false
set_option maxRecDepth 100000
set_option maxHeartbeats 4000000
namespace Lv
open PySem L2
/-! ### numbers of levels, in plain Lean -/
def fstN (N : List (List Int)) : List Int := (N.headD []).map (· + 1)
def nextN (N : List (List Int)) : List (List Int) := (N.tail.map (fstN N ++ ·)) ++ [fstN N]
def num0 (p : Nat) : List (List Int) := [0] :: List.replicate (p - 1) []
def num (p : Nat) : Nat → List (List Int)
  | 0 => num0 p
  | n + 1 => nextN (num p n)
def lens (N : List (List Int)) : List Int := N.map fun l => (l.length : Int)
theorem lens_next (N : List (List Int)) : lens (nextN N) = nextC (lens N) := by
  cases N with
  | nil => simp [lens, nextN, nextC, fstN]
  | cons a r =>
    simp [lens, nextN, nextC, fstN, Function.comp_def]
theorem lens_num (p : Nat) : ∀ n, lens (num p n) = cnt p n
  | 0 => by simp [lens, num, num0, cnt, firstC]
  | n + 1 => by
    show lens (nextN (num p n)) = nextC (cnt p n)
    rw [lens_next, lens_num p n]
theorem num_len {p : Nat} (hp : 1 ≤ p) (n : Nat) : (num p n).length = p := by
  have := congrArg List.length (lens_num p n)
  rw [cnt_len hp] at this
  simpa [lens] using this
theorem le_sum {c : List Int} (h : ∀ x ∈ c, 0 ≤ x) {x : Int} (hx : x ∈ c) : x ≤ c.sum := by
  induction c with
  | nil => cases hx
  | cons a r ih =>
    have nn : ∀ l : List Int, (∀ x ∈ l, 0 ≤ x) → 0 ≤ l.sum := by
      intro l
      induction l with
      | nil => intro _; simp
      | cons x y ih =>
        intro h
        rw [List.sum_cons]
        have := h x (by simp)
        have := ih fun z hz => h z (by simp [hz])
        omega
    rw [List.sum_cons]
    have ha := h a (by simp)
    have hr : ∀ x ∈ r, 0 ≤ x := fun x hx => h x (by simp [hx])
    rcases List.mem_cons.mp hx with rfl | hx
    · have := nn r hr
      omega
    · have := ih hr hx
      omega
theorem num_le {p n : Nat} {xs : List Int} (h : xs ∈ num p n) : (xs.length : Int) ≤ tot p n := by
  refine le_sum (down_cnt p n).2 ?_
  rw [← lens_num p n]
  exact List.mem_map.mpr ⟨xs, h, rfl⟩
theorem num_cons {p : Nat} (hp : 2 ≤ p) (n : Nat) : ∃ a r, num p n = a :: r ∧ a ≠ [] ∧ r.length = p - 1 := by
  have h := num_len (p := p) (by omega) n
  cases e : num p n with
  | nil => rw [e] at h; simp at h; omega
  | cons a r =>
    rw [e] at h
    refine ⟨a, r, rfl, ?_, by simp at h; omega⟩
    rintro rfl
    have h1 := hd_pos hp n
    unfold hd at h1
    rw [← lens_num p n, e] at h1
    simp [lens] at h1
theorem small8000 {n : Nat} (h : n ≤ 8000) : n < sizeLine := Nat.lt_of_le_of_lt h (by decide)
theorem tot20 {p : Nat} (hp : 2 ≤ p) (h7 : p ≤ 7) : 4000 < tot p 20 := by
  have : p = 2 ∨ p = 3 ∨ p = 4 ∨ p = 5 ∨ p = 6 ∨ p = 7 := by omega
  rcases this with rfl | rfl | rfl | rfl | rfl | rfl <;> decide +kernel
theorem lev19 {p n : Nat} (hp : 2 ≤ p) (h7 : p ≤ 7) (h : tot p n ≤ 4000) : n ≤ 19 := by
  refine Classical.byContradiction fun z => ?_
  have := tot_mono hp (show 20 ≤ n by omega)
  have := tot20 hp h7
  omega
def spPlaces : Sp := fun vs H Q _ => ∃ p n : Nat, vs = [.int p, .int n] ∧ 2 ≤ p ∧ p ≤ 7 ∧ n ≤ 300 ∧ tot p n ≤ 4000 ∧ ∀ H', Same H H' → Q .non H'
def spNextN : Sp := fun vs H Q _ => ∃ (a : Addr) (rs : List Addr) (N : List (List Int)), vs = [.ref a] ∧ H a = some (.tup (rs.map V.ref)) ∧ TTs H rs N ∧ 2 ≤ N.length ∧ N.length ≤ 7 ∧ N.headD [] ≠ [] ∧ (∀ xs ∈ N, xs.length ≤ 4000) ∧
  ∀ l qs H', H l = none → H' l = some (.tup (qs.map V.ref)) → TTs H' qs (nextN N) → Same H H' → Q (.ref l) H'
def spNum : Sp := fun vs H Q _ => ∃ p n : Nat, vs = [.int p, .int n] ∧ 2 ≤ p ∧ p ≤ 7 ∧ n ≤ 300 ∧ tot p n ≤ 4000 ∧ ∀ l qs H', H l = none → H' l = some (.tup (qs.map V.ref)) → TTs H' qs (num p n) → Same H H' → Q (.ref l) H'
def spCell (K : PySem.W.Frag) : Sp := fun vs H Q _ => ∃ (a : Addr) (ns : List Int) (k : Int), vs = [.ref a, .int k] ∧ SqL K H a (ns.map V.int) ∧ 0 ≤ k ∧ ∀ c : Int, Q (.int c) H
/-- a level of at most so many places, drawn -/
def spLLev : Sp := fun vs H Q _ => ∃ (pl : Addr) (p : Nat) (m : Int), vs = [.ref pl, .int p, .int m] ∧ Pool H pl ∧ 2 ≤ p ∧ p ≤ 7 ∧ 1 ≤ m ∧ m ≤ 4000 ∧ ∀ (n : Nat) H', tot p n ≤ m → Pool H' pl → Sm pl H H' → Q (.int n) H'
theorem rep_get {α : Type} {n j : Nat} {x y : α} (h : (List.replicate n x)[j]? = some y) : y = x := by
  rw [List.getElem?_replicate] at h
  split at h
  · exact (Option.some.inj h).symm
  · cases h
theorem map_ref_get {rs : List Addr} {i : Nat} {x : V} (h : (rs.map V.ref)[i]? = some x) : ∃ r, rs[i]? = some r ∧ x = .ref r := by
  rw [List.getElem?_map] at h
  cases e : rs[i]? with
  | none => rw [e] at h; cases h
  | some p => rw [e] at h; exact ⟨p, rfl, (Option.some.inj h).symm⟩
def upN (L : Nat) : List Int := (List.range L).map fun (i : Nat) => (i : Int)
theorem upN_len (L : Nat) : (upN L).length = L := by simp [upN]
theorem upN_succ (L : Nat) : upN (L + 1) = upN L ++ [(L : Int)] := by simp [upN, List.range_succ]
theorem upN_get {L j : Nat} (h : j < L) : (upN L).getD j 0 = j := by
  rw [List.getD_eq_getElem?_getD]
  simp [upN, h]
theorem upN_at {L : Nat} {d : Int} (h0 : 0 ≤ d) (h1 : d < L) : atI ((upN L).map V.int) d = some (.int ((d.toNat : Nat) : Int)) := by
  rw [atI_int h0 (by rw [upN_len]; exact h1), upN_get (by omega)]
theorem upN_neg {L : Nat} {d : Int} (h0 : 0 ≤ d) (h1 : d < L) : atI ((upN L).map V.int) (-1 - d) = some (.int ((L - 1 - d.toNat : Nat) : Int)) := by
  have e := upN_at (L := L) (d := (L : Int) - 1 - d) (by omega) (by omega)
  have hx : ((L : Int) - 1 - d).toNat = L - 1 - d.toNat := by omega
  rw [hx] at e
  rw [← e]
  unfold atI ixN
  rw [if_neg (by omega), if_pos (by omega : (0 : Int) ≤ (L : Int) - 1 - d)]
  rw [List.length_map, upN_len, if_pos (by omega), if_pos (by omega)]
  rw [show (-1 - d + (L : Int)) = (L : Int) - 1 - d by omega]
def spTot : Sp := fun vs H Q _ => ∃ i, vs = [.int i] ∧ i ≤ 4000 ∧ Q .non H
def spFirstN : Sp := fun vs H Q _ => ∃ p : Nat, vs = [.int p] ∧ 2 ≤ p ∧ p ≤ 7 ∧ ∀ l qs H', H l = none → H' l = some (.tup (qs.map V.ref)) → TTs H' qs (num0 p) → Same H H' → Q (.ref l) H'
def spAfter (fn : Addr) : Sp := fun vs H Q _ => ∃ p n : Nat, vs = [.int p, .int n, .ref fn] ∧ 2 ≤ p ∧ p ≤ 7 ∧ n ≤ 300 ∧ tot p n ≤ 4000 ∧ ∀ l qs H', H l = none → H' l = some (.tup (qs.map V.ref)) → TTs H' qs (num p n) → Same H H' → Q (.ref l) H'
end Lv

set_option Elab.async false
set_option linter.all false
set_option maxRecDepth 100000
set_option maxHeartbeats 4000000
namespace Lv
open PySem L2 PySem.Spec PyProof.Rows
/-- a def of the text with defaults, which lie in the tuple at da -/
structure FunD (K : PySem.W.Frag) (x qual : Str) (st : Stmt) (f da : Addr) (fd : FuncData) : Prop where
  ex : ∃ (oc : Value) (od : Option Addr) (kV doc pm : Value) (an : Option Addr) (cdv ct : Value) (osl : Array (Option Value)),
    fd = PySem.W.fnOf x qual (defArgs st) (defBody st) (defScope st) (.ref da) kV doc pm an cdv ct ∧ K.lookup f = some ⟨oc, od, .func fd, osl⟩ ∧ PySem.W.codeIn K cdv qual = true
  kp : PySem.W.keepIn K (.ref f) = true
section
variable {P : Program} {w : World} {K : PySem.W.Frag} {mg : Str → Option Value} {base : Heap}
theorem FunD.ok {x qual : Str} {st : Stmt} {f da : Addr} {fd : FuncData} {N ps : List Str} {k : Nat} {sp : Sp} (F : FunD K x qual st f da fd) (S : FnScope N ps (defScope st)) (len : ∀ vs H Q E, sp vs H Q E → vs.length = ps.length)
    (hbody : ∀ (cdv : Value) (A : Around) (outer : List Env) (s : Shared) (H : Hp) (vs : List V) (Q : VK) (E : XK), Room k (A.deeper (envOfC qual (defScope st) s.heap.objs.size f cdv)) → sp vs H Q E →
      ∃ t, PSs (cxOf CX0 P w K mg base N qual (defScope st) f cdv A outer s H E).nox (defBody st) t ∧ t { nx := fun _ H' => Q .non H', rt := Q } (start N vs) H) : FnOk P w K mg base CX0 (k + 1) f fd ps sp := by
  obtain ⟨oc, od, kV, doc, pm, an, cdv, ct, osl, rfl, lk, hcd⟩ := F.ex
  refine fn_of lk hcd S len fun A outer s H vs Q E hr hsp => ?_
  obtain ⟨t, h, q⟩ := hbody cdv A outer s H vs Q E hr hsp
  exact ⟨t, h.nox, q⟩
theorem FunD.binds {x qual : Str} {st : Stmt} {f da : Addr} {fd : FuncData} {ps : List Str} {o : Obj} {items : Array Value} {n : Nat} (F : FunD K x qual st f da fd) (ho : K.lookup da = some o) (hs : o.data = .seq items n) (ds : List Value) (qs : List Str) (hq : qs.length + ds.length = ps.length)
    (h : ∀ (kV doc pm : Value) (an : Option Addr) (cdv ct : Value) (us : List Value), us.length = qs.length →
      ∃ k : Option (Array Value) → Sem (List (Str × Value)), bindArgs (PySem.W.fnOf x qual (defArgs st) (defBody st) (defScope st) (.ref da) kV doc pm an cdv ct) ⟨us, []⟩ = seqItems? (.ref da) >>= k ∧ k (some items) = pure (ps.zip (us ++ ds))) : Binds K fd ps ds := by
  obtain ⟨oc, od, kV, doc, pm, an, cdv, ct, osl, rfl, lk, hcd⟩ := F.ex
  intro s us X hl
  obtain ⟨k, h1, h2⟩ := h kV doc pm an cdv ct us (by rw [List.length_append] at hl; omega)
  exact PySem.W.binds_K X rfl ho hs h1 h2
theorem funD_mk {x qual : Str} {st : Stmt} {f da : Addr} {oc : Value} {od an : Option Addr} {osl : Array (Option Value)} {kV doc pm cdv ct : Value} (l : K.lookup f = some ⟨oc, od, .func (PySem.W.fnOf x qual (defArgs st) (defBody st) (defScope st) (.ref da) kV doc pm an cdv ct), osl⟩)
    (c : PySem.W.codeIn K cdv qual = true) (k : PySem.W.keepIn K (.ref f) = true) : FunD K x qual st f da (PySem.W.fnOf x qual (defArgs st) (defBody st) (defScope st) (.ref da) kV doc pm an cdv ct) := ⟨⟨oc, od, kV, doc, pm, an, cdv, ct, osl, rfl, l, c⟩, k⟩
end
/-- such a def, called with the last places left to their defaults dvs -/
structure CalD (P : Program) (w : World) (K : PySem.W.Frag) (mg : Str → Option Value) (base : Heap) (k : Nat) (x : Str) (ps : List Str) (dvs : List V) (sp : Sp) (f : Addr) (fd : FuncData) : Prop where
  ok : FnOk P w K mg base CX0 k f fd ps sp
  mg : mg x = some (.ref f)
  kp : PySem.W.keepIn K (.ref f) = true
  bd : ∃ ds, Binds K fd ps ds ∧ Vals dvs ds
theorem pe_calD {X : Cx} {k : Nat} {x : Str} {ps : List Str} {dvs : List V} {sp : Sp} {f : Addr} {fd : FuncData} {e : Expr} {es : List Expr} {t : TA} {p pos : Pos} (C : CalD X.prog X.w X.K X.mg X.base k x ps dvs sp f fd) (hr : Room k X.A) (hg : Gl X x) (ha : PA X (e :: es) t)
    (hdb : (x == ("__debug__" : Str)) = false := by decide) (he : starEach (e :: es) X.env = (false, eval e X.env) :: starEach es X.env := by rfl) (hpl : (backTo pos (starEach es X.env)).any (·.1) = false := by rfl) :
    PE X (.Call (.Name x p) (e :: es) [] pos) (tCall sp dvs E0 t) := by
  obtain ⟨ds, h1, h2⟩ := C.bd
  exact pe_call C.ok hr hg C.mg C.kp h1 h2 pass0 ha hdb he hpl
/-- f(..) where f is a local name that holds a def of the text -/
def tCallV (j : Nat) (f : Addr) (t : TE) : TE := fun σ H Q => σ[j]? = some (some (.ref f)) ∧ t σ H Q
theorem pe_calV {X : Cx} {k : Nat} {x y : Str} {ps : List Str} {sp : Sp} {f : Addr} {fd : FuncData} {e : Expr} {es : List Expr} {t : TA} {p pos : Pos} (j : Nat) (C : Cal X.prog X.w X.K X.mg X.base k y ps sp f fd) (hr : Room k X.A) (ha : PA X (e :: es) t) (hN : X.N[j]? = some x := by rfl) (hv : Vis X.env.scope x := by first | exact Or.inl rfl | exact Or.inr (Or.inl rfl) | exact Or.inr (Or.inr rfl))
    (hdb : (x == ("__debug__" : Str)) = false := by decide) (hcd : (x == ("__classdict__" : Str)) = false := by decide) (he : starEach (e :: es) X.env = (false, eval e X.env) :: starEach es X.env := by rfl) (hpl : (backTo pos (starEach es X.env)).any (·.1) = false := by rfl) :
    PE X (.Call (.Name x p) (e :: es) [] pos) (tCallV j f (tCall sp [] E0 t)) := by
  intro pins s σ H Q I h
  obtain ⟨h0, h⟩ := h
  refine wpAny_Call_Name_kw ?_
  refine thn (pe_var hN hv hdb hcd pins s σ H (fun v H1 => v = .ref f ∧ t σ H1 fun vs H2 => sp (vs ++ []) H2 Q E0) I ⟨_, h0, rfl, h⟩) fun u s1 ⟨v, H1, I1, r, ev, q⟩ => ?_
  subst ev
  obtain rfl : u = Value.ref f := r
  refine PySem.W.callWith_K (h₀ := X.base) I.ok.mod.kin C.kp (thn (ha pos pins s1 σ H1 _ I1 q) fun us s2 ⟨vs, H2, I2, r2, q2⟩ => ⟨I2.kIn, ?_⟩) he hpl
  exact run_fn C.ok hr C.bd .nil pass0 I2 r2 q2
/-- a def of the text as a value -/
theorem pe_gfn {X : Cx} {k : Nat} {x : Str} {ps : List Str} {sp : Sp} {f : Addr} {fd : FuncData} {pos : Pos} (C : Cal X.prog X.w X.K X.mg X.base k x ps sp f fd) (hg : Gl X x) (hd : (x == ("__debug__" : Str)) = false := by decide) : PE X (.Name x pos) (tC (.ref f)) :=
  pe_glob hg C.mg rfl hd
def spLevelD : Sp := fun vs H Q _ => ∃ i m, vs = [.int i, .int m] ∧ 0 ≤ i ∧ i ≤ m ∧ Q .non H
end Lv

set_option Elab.async false
set_option linter.all false
set_option maxRecDepth 100000
set_option maxHeartbeats 4000000
namespace L2
open PySem PySem.Spec PyProof.Rows
/-! ### runs that leave every object's dict as it is -/
/-- every object's own dict is what it was -/
def DK (h h' : Heap) : Prop := ∀ (b : Nat) (o : Obj), h.objs[b]? = some o → ∃ o' : Obj, h'.objs[b]? = some o' ∧ o'.dict = o.dict
theorem DK.refl (h : Heap) : DK h h := fun _ o e => ⟨o, e, rfl⟩
theorem DK.trans {a b c : Heap} (x : DK a b) (y : DK b c) : DK a c := fun i o e => by
  obtain ⟨o1, e1, d1⟩ := x i o e
  obtain ⟨o2, e2, d2⟩ := y i o1 e1
  exact ⟨o2, e2, d2.trans d1⟩
theorem raw_of {h : Heap} {a : Addr} {o : Obj} (e : h.get? a = some o) : h.objs[a]? = some o := (Heap.get?_some_iff.mp e).1
theorem DK.at {h h' : Heap} {a : Addr} {o o' : Obj} (x : DK h h') (e : h.get? a = some o) (e' : h'.get? a = some o') : o'.dict = o.dict := by
  obtain ⟨o2, q1, q2⟩ := x a o (raw_of e)
  rw [raw_of e'] at q1
  cases q1
  exact q2
theorem DK.push (h : Heap) (o : Obj) : DK h (h.push o) := fun b ob e => ⟨ob, by
  have hb : b < h.objs.size := (Array.getElem?_eq_some_iff.mp e).1
  unfold Heap.push
  show (h.objs.push o)[b]? = some ob
  rw [Array.getElem?_push_lt hb]
  exact (Array.getElem?_eq_some_iff.mp e).2 ▸ rfl, rfl⟩
theorem DK.update (h : Heap) (a : Addr) (f : Obj → Obj) (hf : ∀ o, (f o).dict = o.dict) : DK h (h.update a f) := fun b ob e => by
  by_cases z : a = b
  · subst z
    exact ⟨f ob, by unfold Heap.update; simp [Array.getElem?_modify, e], hf ob⟩
  · exact ⟨ob, by unfold Heap.update; simp [Array.getElem?_modify, z, e], rfl⟩
/-- no call, and no step that changes a dict of an object's own -/
def DC {α : Type} : Sem α → Prop
  | .pure _ => True
  | .raise _ => True
  | .unsupported _ => True
  | .rule _ k => DC (k ())
  | .at _ k => DC (k ())
  | .load _ _ k => ∀ o, DC (k o)
  | .update _ _ f k => (∀ o, (f o).dict = o.dict) ∧ DC (k ())
  | .alloc _ k => ∀ a, DC (k a)
  | .loadIfAlive _ k => ∀ o, DC (k o)
  | .point _ k => DC (k ())
  | .fresh k => ∀ t, DC (k t)
  | .ask k => ∀ x, DC (k x)
  | .handled _ k => ∀ v, DC (k v)
  | .stack k => ∀ l, DC (k l)
  | _ => False
theorem dc_bind {α β : Type} {m : Sem α} {f : α → Sem β} (hm : DC m) (hf : ∀ a, DC (f a)) : DC (m >>= f) := by
  show DC (m.bind f)
  induction m with
  | pure a => exact hf a
  | raise e => trivial
  | unsupported w => trivial
  | rule t k ih => exact ih () hm
  | «at» p k ih => exact ih () hm
  | load a p k ih => exact fun o => ih o (hm o)
  | update a p g k ih => exact ⟨hm.1, ih () hm.2⟩
  | alloc o k ih => exact fun a => ih a (hm a)
  | loadIfAlive a k ih => exact fun o => ih o (hm o)
  | point l k ih => exact ih () hm
  | fresh k ih => exact fun a => ih a (hm a)
  | ask k ih => exact fun a => ih a (hm a)
  | handled w k ih => exact fun a => ih a (hm a)
  | stack k ih => exact fun a => ih a (hm a)
  | finish _ => exact hm.elim
  | register _ _ _ => exact hm.elim
  | choose _ _ _ _ => exact hm.elim
  | os _ _ _ _ => exact hm.elim
  | call _ _ _ _ _ _ => exact hm.elim
  | newGen _ _ _ => exact hm.elim
  | genState _ _ _ => exact hm.elim
  | resume _ _ _ _ _ => exact hm.elim
  | yield _ _ _ _ _ => exact hm.elim
  | fork _ _ _ => exact hm.elim
  | thread _ _ => exact hm.elim
  | await _ _ _ _ _ _ => exact hm.elim
theorem wp_dk {α : Type} (M : Model) (Γ : PySem.Ctx) {t : Sem α} (d : DC t) : ∀ (Q : α → Pos → Shared → Prop) (E : Value → Pos → Shared → Prop) (p : Pos) (s : Shared), Sem.wp M Γ t Q E p s →
    Sem.wp M Γ t (fun a p' s' => Q a p' s' ∧ DK s.heap s'.heap) (fun e p' s' => E e p' s' ∧ DK s.heap s'.heap) p s := by
  have up : ∀ {α : Type} {t : Sem α} {Q : α → Pos → Shared → Prop} {E : Value → Pos → Shared → Prop} {p : Pos} {s : Shared} {h0 h1 : Heap}, DK h0 h1 →
      Sem.wp M Γ t (fun a p' s' => Q a p' s' ∧ DK h1 s'.heap) (fun e p' s' => E e p' s' ∧ DK h1 s'.heap) p s → Sem.wp M Γ t (fun a p' s' => Q a p' s' ∧ DK h0 s'.heap) (fun e p' s' => E e p' s' ∧ DK h0 s'.heap) p s := fun k h =>
    Sem.wp_mono M Γ _ (fun _ _ _ z => ⟨z.1, k.trans z.2⟩) (fun _ _ _ z => ⟨z.1, k.trans z.2⟩) _ _ h
  induction t with
  | pure a => exact fun _ _ _ _ h => ⟨h, .refl _⟩
  | raise e => exact fun _ _ _ _ h => ⟨h, .refl _⟩
  | unsupported w => exact fun _ _ _ _ h => h
  | rule t k ih => exact fun _ _ _ _ h => ih () d _ _ _ _ h
  | «at» p k ih => exact fun _ _ _ _ h => ih () d _ _ _ _ h
  | load a p k ih => exact fun _ _ _ _ ⟨o, ho, h⟩ => ⟨o, ho, ih o (d o) _ _ _ _ h⟩
  | update a p g k ih => exact fun _ _ _ _ ⟨ho, h⟩ => ⟨ho, up (.update _ _ _ d.1) (ih () d.2 _ _ _ _ h)⟩
  | alloc o k ih => exact fun _ _ _ _ h => up (.push _ _) (ih _ (d _) _ _ _ _ h)
  | loadIfAlive a k ih => exact fun _ _ _ _ h => ih _ (d _) _ _ _ _ h
  | point l k ih => exact fun _ _ _ _ h => ih () d _ _ _ _ h
  | fresh k ih => exact fun _ _ _ _ h => ih _ (d _) _ _ _ _ h
  | ask k ih => exact fun _ _ _ _ h => ih _ (d _) _ _ _ _ h
  | handled w k ih => exact fun _ _ _ _ h => ih _ (d _) _ _ _ _ h
  | stack k ih => exact fun _ _ _ _ h => ih _ (d _) _ _ _ _ h
  | finish _ => exact d.elim
  | register _ _ _ => exact d.elim
  | choose _ _ _ _ => exact d.elim
  | os _ _ _ _ => exact d.elim
  | call _ _ _ _ _ _ => exact d.elim
  | newGen _ _ _ => exact d.elim
  | genState _ _ _ => exact d.elim
  | resume _ _ _ _ _ => exact d.elim
  | yield _ _ _ _ _ => exact d.elim
  | fork _ _ _ => exact d.elim
  | thread _ _ => exact d.elim
  | await _ _ _ _ _ _ => exact d.elim
theorem wpAny_dk {α : Type} {M : Model} {A : Around} {t : Sem α} {Q : α → Shared → Prop} {E : Value → Shared → Prop} {s : Shared} (d : DC t) (h : wpAny M A t (fun a s' => DK s.heap s'.heap → Q a s') (fun e s' => DK s.heap s'.heap → E e s') s) : wpAny M A t Q E s :=
  fun Γ p hΓ => Sem.wp_mono M Γ t (fun _ _ _ z => z.1 z.2) (fun _ _ _ z => z.1 z.2) p s (wp_dk M Γ d _ _ _ _ (h Γ p hΓ))
theorem dc_load {a : Addr} : DC (load a) := fun _ => trivial
theorem dc_stack : DC stack := fun _ => trivial
theorem dc_mapF {o : Obj} {f : Array Value → Array Value} : (Obj.mapFields f o).dict = o.dict := by
  unfold Obj.mapFields
  split <;> rfl
theorem dc_field {v : Value} {i : Nat} : DC (field v i) := by
  unfold field fieldsOf
  repeat (first | trivial | exact dc_load | (refine dc_bind ?_ fun _ => ?_) | split)
theorem dc_setField {v : Value} {i : Nat} {x : Value} : DC (setField v i x) := by
  unfold setField updateField
  repeat (first | trivial | exact dc_load | exact ⟨fun _ => dc_mapF, trivial⟩ | (refine dc_bind ?_ fun _ => ?_) | split)
theorem dc_setFlight {v : Value} {f : Option Addr} : DC (setFlight v f) := by
  unfold setFlight
  repeat (first | trivial | exact dc_field | exact dc_setField | (refine dc_bind ?_ fun _ => ?_) | split)
theorem dc_ready : ∀ l : List Env, DC (readyFrames l)
  | [] => trivial
  | env :: outer => by
    unfold readyFrames behindIsImport keptBack underTheClaimsCaller
    repeat (first | trivial | exact dc_load | exact dc_stack | exact dc_field | exact dc_ready outer | exact ⟨fun _ => rfl, trivial⟩ | (refine dc_bind ?_ fun _ => ?_) | split)
theorem dc_frameOf {env : Env} : DC (PySem.frameOf env) := by
  unfold PySem.frameOf frameEnvs
  refine dc_bind (dc_bind dc_stack fun _ => trivial) fun l => dc_bind ?_ fun o => ?_
  · generalize (List.dropWhile (fun x => x.frame != env.frame) l) = m
    cases m with
    | nil => trivial
    | cons e r => exact dc_bind (dc_ready _) fun _ => trivial
  · split <;> trivial
theorem dc_noteFrame {e : Value} {env : Env} : DC (noteFrame e env) := by
  unfold noteFrame EntryCells.newEntry newFields newObj newObjAsIs entryPlaceOf
  repeat (first | trivial | exact dc_field | exact dc_setField | exact dc_frameOf | exact dc_stack | exact fun _ => trivial | (refine dc_bind ?_ fun _ => ?_) | split)
theorem dc_leaving {e : Value} {env : Env} : DC (leaving env e) := dc_bind dc_noteFrame fun _ => dc_setFlight
end L2

set_option Elab.async false
set_option linter.all false
set_option maxRecDepth 100000
set_option maxHeartbeats 4000000
namespace L2
open PySem PySem.Spec PyProof.Rows
/-! ### exceptions: how one lies in the heap while it flies -/
theorem ObjOk.there {P : Program} {w : World} {H : Hp} {h : Heap} {a : Addr} {o : HO} (x : ObjOk P w H h a o) : ∃ ob, h.get? a = some ob := by
  cases o with
  | lst xs => obtain ⟨_, _, _, _, e⟩ := x; exact ⟨_, e⟩
  | tup xs => obtain ⟨_, _, _, o, e, _⟩ := x; exact ⟨_, e⟩
  | dK kvs => obtain ⟨_, _, _, _, o, _, _, e, _⟩ := x; exact ⟨_, e⟩
  | dT kvs => obtain ⟨_, _, _, _, o, _, _, e, _⟩ := x; exact ⟨_, e⟩
  | set S n => obtain ⟨o, _, _, _, e, _⟩ := x; exact ⟨_, e⟩
  | ins C dx fs => obtain ⟨_, _, _, e, _⟩ := x; exact ⟨_, e⟩
  | own y => exact x
  | xd fs => obtain ⟨_, ⟨_, _, _, e, _⟩, _⟩ := x; exact ⟨_, e⟩
  | rng lo hi => obtain ⟨_, _, _, e⟩ := x; exact ⟨_, e⟩
  | frz ob u => obtain ⟨e, _⟩ := x; exact ⟨_, e⟩
  | tbl ps => exact ⟨_, (show h.get? a = some _ from x)⟩
  | met f y => exact ⟨_, (show h.get? a = some _ from x)⟩
  | ext φ => obtain ⟨_, e, _⟩ := x; exact e
theorem HOk.none_of {P : Program} {w : World} {H : Hp} {h : Heap} {a : Addr} (x : HOk P w H h) (e : h.get? a = none) : H a = none := by
  cases q : H a with
  | none => rfl
  | some o => obtain ⟨ob, z⟩ := (x a o q).there; rw [e] at z; cases z
/-- the heap without some addresses -/
def hideL (h : Heap) : List Addr → Heap
  | [] => h
  | a :: r => (hideL h r).hide a
theorem hideL_mem {h : Heap} : ∀ {l : List Addr} {a : Addr}, a ∈ l → (hideL h l).get? a = none
  | b :: r, a, m => by
    by_cases e : a = b
    · subst e; exact Heap.hide_self _ _
    · rw [hideL, Heap.hide_ne _ e]
      exact hideL_mem ((List.mem_cons.mp m).resolve_left e)
theorem hideL_ne {h : Heap} : ∀ {l : List Addr} {a : Addr}, a ∉ l → (hideL h l).get? a = h.get? a
  | [], _, _ => rfl
  | b :: r, a, n => by
    rw [hideL, Heap.hide_ne _ (fun e => n (by rw [e]; exact List.mem_cons_self))]
    exact hideL_ne fun z => n (List.mem_cons_of_mem _ z)
theorem hideL_stays {h : Heap} {l : List Addr} : (hideL h l).StaysIn h := fun b o e => by
  by_cases m : b ∈ l
  · rw [hideL_mem m] at e; cases e
  · rwa [hideL_ne m] at e
theorem frames_hide {h base B : Heap} : ∀ {l : List Env}, h.FunFrames base l → (∀ b ∈ frs l, B.get? b = none) → h.FunFrames B l
  | [], _, _ => trivial
  | env :: rest, ⟨hk, ⟨L, o, hf, hn, ho, hd⟩, hr⟩, n => ⟨hk, ⟨L, o, hf, n L (by unfold frs; rw [List.filterMap_cons, hf]; exact List.mem_cons_self), ho, hd⟩, frames_hide hr fun b hb => n b (by
      unfold frs
      rw [List.filterMap_cons, hf]
      exact List.mem_cons_of_mem _ hb)⟩
/-- all but Z is kept; of the frames fs the slots may change -/
theorem Un.hide {fs Z : List Addr} {H H' : Hp} {h h1 h2 : Heap} (u : Un fs [] H H' h h1) (hz : ∀ z ∈ Z, z ∈ fs ∨ h.get? z = none) (k : ∀ b o, h1.get? b = some o → b ∉ Z → h2.get? b = some o)
    (ks : ∀ b ∈ fs, ∀ o, h1.get? b = some o → ∃ sl, h2.get? b = some { o with slots := sl }) : Un fs [] H H' h h2 where
  keep := fun b o e n hb hx => k b o (u.keep b o e n hb hx) fun z => by
    rcases hz b z with y | y
    · exact hb y
    · rw [e] at y; cases y
  slot := fun b o e n hb hx => by
    obtain ⟨sl, e1⟩ := u.slot b o e n hb hx
    obtain ⟨sl', e2⟩ := ks b hb _ e1
    exact ⟨sl', e2⟩
  free := u.free
  there := fun b o e hx => by
    obtain ⟨o', e1⟩ := u.there b o e hx
    by_cases m : b ∈ Z
    · rcases hz b m with y | y
      · obtain ⟨sl, e2⟩ := ks b y _ e1; exact ⟨_, e2⟩
      · rw [e] at y; cases y
    · exact ⟨_, k b _ e1 m⟩
  tups := u.tups
  frzs := u.frzs
  tbls := u.tbls
theorem HOk.hide {P : Program} {w : World} {H : Hp} {h1 h2 : Heap} {Z : List Addr} (x : HOk P w H h1) (hz : ∀ z ∈ Z, H z = none) (k : ∀ b o, h1.get? b = some o → b ∉ Z → h2.get? b = some o) : HOk P w H h2 := fun a o e =>
  (x a o e).stay (fun b u hb hu => k b u hu fun z => by
    have := hz b z
    rcases hb with rfl | hb
    · rw [e] at this; cases this
    · rw [hb] at this; cases this) (fun _ z => z) fun _ _ z => z
/-- the exception at ea of the class cls with the own dict od, its traceback at T: both new since h0, neither tracked -/
def Fly (H : Hp) (h0 h : Heap) (ea : Addr) (cls : Value) (od : Option Addr) (fl : Value) : Prop :=
  ∃ (a0 : Value) (T : Addr) (oe oT : Obj) (vs ts : Array Value), (H ea = none ∧ H T = none ∧ h0.get? ea = none ∧ h0.get? T = none) ∧
    h.get? ea = some oe ∧ ((oe.cls = cls ∧ vs[0]? = some a0) ∧ oe.dict = od) ∧ oe.data = .fields vs ∧ vs[1]? = some (.ref T) ∧ T ≠ ea ∧ h.get? T = some oT ∧ oT.data = .fields ts ∧ ts[3]? = some fl
/-- behind a call that ends by an exception -/
def CX1 (P : Program) (w : World) : CXT := fun outer H s E e s' => ∃ (ea : Addr) (cls : Value) (od : Option Addr) (H' : Hp), e = .ref ea ∧ s'.os = s.os ∧ AllBare s'.gens ∧ Un (frs outer) [] H H' s.heap s'.heap ∧ HOk P w H' s'.heap ∧ Fly H' s.heap s'.heap ea cls od .none ∧ E cls od H'
/-- from a TracedW over the hidden heap: a Fly -/
theorem fly_of {P : Program} {w : World} {l : List Env} {H : Hp} {h0 h1 h2 base : Heap} {ea : Addr} {cls a0 fl : Value} {od : Option Addr} {Z : List Addr} (hok : HOk P w H h1) (hZ : ∀ z ∈ Z, z ∉ frs l → z ≠ ea → H z = none ∧ h0.get? z = none) (hea : H ea = none) (he0 : h0.get? ea = none)
    (hl : h1.FunFrames base l) (hs : h1.UpToSlots h2) (h01 : ∀ b o, h0.get? b = some o → ∃ o', h1.get? b = some o') (t : h2.TracedAtW (hideL h1 Z) ea cls a0 fl) (hod : ∀ o, h2.get? ea = some o → o.dict = od) : Fly H h0 h2 ea cls od fl := by
  obtain ⟨oe, vs, T, oT, ts, he, hc, hd, hv1, hnT, hTe, hT, hdT, h3⟩ := t
  refine ⟨a0, T, oe, oT, vs, ts, ?_, he, ⟨hc, hod oe he⟩, hd, hv1, hTe, hT, hdT, h3⟩
  have hTf : T ∉ frs l := fun m => by
    obtain ⟨_, o, ho, hnf⟩ := hl.mem m
    obtain ⟨sl, hs'⟩ := hs T o ho hnf
    rw [hT] at hs'
    cases hs'
    exact hnf ts hdT
  by_cases m : T ∈ Z
  · obtain ⟨q1, q2⟩ := hZ T m hTf hTe
    exact ⟨hea, q1, he0, q2⟩
  · rw [hideL_ne m] at hnT
    refine ⟨hea, hok.none_of hnT, he0, ?_⟩
    cases q : h0.get? T with
    | none => rfl
    | some o => obtain ⟨o', z⟩ := h01 T o q; rw [hnT] at z; cases z
/-! ### a def that lets exceptions leave -/
/-- a new exception, raised here, reaches what this body wants -/
def Takes (X : Cx) (E : XK) : Prop := ∀ (pins : List (Addr × Obj)) (σ : St) (H : Hp) (s : Shared) (ea : Addr) (oe : Obj) (vs : Array Value) (a0 : Value), Inv X pins σ H s → H ea = none → X.s₀.heap.get? ea = none → s.heap.get? ea = some oe → oe.data = .fields vs → vs[1]? = some .none → vs[0]? = some a0 → E oe.cls oe.dict H → X.xe (.ref ea) s
section
variable {P : Program} {w : World} {K : PySem.W.Frag} {mg : Str → Option Value} {base : Heap} {N : List Str} {qual : Str} {scope : Scope} {f : Addr} {cd : Value} {A : Around} {outer : List Env} {s : Shared} {H : Hp} {E : XK}
theorem loc_fr (X : Cx) (hs : X.stack = X.env :: X.outer) (hf : X.env.frame = some X.env.locals) : frs X.stack = X.env.locals :: X.fs := by
  unfold Cx.fs frs
  rw [hs, List.filterMap_cons, hf]
theorem takes1 : Takes (cxOf (CX1 P w) P w K mg base N qual scope f cd A outer s H E) E := by
  intro pins σ H1 s1 ea oe vs a0 I hea hen he hd h1 h0 hE
  let X := cxOf (CX1 P w) P w K mg base N qual scope f cd A outer s H E
  have hst : frs X.stack = X.env.locals :: X.fs := loc_fr X rfl rfl
  have hfr : X.A.frames = some (X.env :: outer) := I.ok.frames
  have hff : s1.heap.FunFrames X.base X.stack := I.stack
  have hB : ∀ b ∈ frs X.stack, (hideL s1.heap (ea :: frs X.stack)).get? b = none := fun b hb => hideL_mem (List.mem_cons_of_mem _ hb)
  refine wpAny_dk dc_leaving (wpAny_leaving_firstW (base := hideL s1.heap (ea :: frs X.stack)) hfr (frames_hide hff hB) rfl he hideL_stays (hideL_mem List.mem_cons_self) hd h1 h0 fun h' hL dk => ?_)
  obtain ⟨k1, k2, k3, k4⟩ := hL
  have hkeep : ∀ b o, s1.heap.get? b = some o → b ∉ (ea :: frs X.stack) → h'.get? b = some o := fun b o e n => k1 b o (by rw [hideL_ne n]; exact e)
  have hloc : X.s₀.heap.get? X.env.locals = none := Heap.get?_none_of_le I.ok.above
  have hzl : ∀ z ∈ ea :: frs X.stack, z ∈ frs outer ∨ X.s₀.heap.get? z = none := fun z hz => by
    rcases List.mem_cons.mp hz with rfl | hz
    · exact .inr hen
    · rw [hst] at hz
      rcases List.mem_cons.mp hz with rfl | hz
      · exact .inr hloc
      · exact .inl hz
  refine ⟨ea, oe.cls, oe.dict, H1, rfl, I.os, I.bare, Un.hide (Z := ea :: frs X.stack) I.base hzl hkeep ?_, I.hok.hide (Z := ea :: frs X.stack) ?_ hkeep, ?_, hE⟩
  · intro b hb o e
    have hm : b ∈ frs X.stack := by rw [hst]; exact List.mem_cons_of_mem _ hb
    obtain ⟨_, o', ho', hnf⟩ := hff.mem hm
    rw [e] at ho'
    cases ho'
    exact k4 b o e hnf
  · intro z hz
    rcases List.mem_cons.mp hz with rfl | hz
    · exact hea
    · exact I.stkFree z hz
  · refine fly_of (l := X.stack) (Z := ea :: frs X.stack) I.hok (fun z hz hf hne => ?_) hea hen hff k4 (fun b o e => I.base.there b o e (by intro z; cases z)) k3 (fun o q => dk.at he q)
    rcases List.mem_cons.mp hz with z | z
    · exact absurd z hne
    · exact absurd z hf
theorem passes1 : Passes (CX1 P w) (cxOf (CX1 P w) P w K mg base N qual scope f cd A outer s H E) E := by
  intro pins σ H1 s1 e s' I hcx
  obtain ⟨ea, cls, od, H', rfl, os', bare', un', hok', hfly, hE⟩ := hcx
  let X := cxOf (CX1 P w) P w K mg base N qual scope f cd A outer s H E
  have J : Inv X pins σ H' s' := I.call' (ch := []) os' un' hok' bare' fun b z => absurd z (by simp)
  obtain ⟨a0, T, oe, oT, vs, ts, ⟨f1, f2, f3, f4⟩, he, ⟨hc, hod⟩, hd, hv1, hTe, hT, hdT, h3⟩ := hfly
  have hst : frs X.stack = X.env.locals :: X.fs := loc_fr X rfl rfl
  have hfr : X.A.frames = some (X.env :: outer) := J.ok.frames
  have hff : s'.heap.FunFrames X.base X.stack := J.stack
  have h01 : ∀ b o, X.s₀.heap.get? b = some o → ∃ o', s1.heap.get? b = some o' := fun b o e => I.base.there b o e (by intro z; cases z)
  have n0 : ∀ z, s1.heap.get? z = none → X.s₀.heap.get? z = none := fun z e => by
    cases q : X.s₀.heap.get? z with
    | none => rfl
    | some o => obtain ⟨o', y⟩ := h01 z o q; rw [e] at y; cases y
  let Z := ea :: T :: frs X.stack
  have hB : ∀ b ∈ frs X.stack, (hideL s'.heap Z).get? b = none := fun b hb => hideL_mem (List.mem_cons_of_mem _ (List.mem_cons_of_mem _ hb))
  refine wpAny_dk dc_leaving (wpAny_leaves_onW (base := hideL s'.heap Z) hfr rfl ⟨hideL_stays, hideL_mem List.mem_cons_self, frames_hide hff hB, ⟨oe, vs, T, oT, ts, he, hc, hd, hv1, hideL_mem (List.mem_cons_of_mem _ List.mem_cons_self), hTe, hT, hdT, h3⟩⟩ fun h' hL k4 dk => ?_)
  obtain ⟨k1, k2, k2', k3⟩ := hL
  have hkeep : ∀ b o, s'.heap.get? b = some o → b ∉ Z → h'.get? b = some o := fun b o e n => k1 b o (by rw [hideL_ne n]; exact e)
  have hloc : X.s₀.heap.get? X.env.locals = none := Heap.get?_none_of_le J.ok.above
  have hzl : ∀ z ∈ Z, z ∈ frs outer ∨ X.s₀.heap.get? z = none := fun z hz => by
    rcases List.mem_cons.mp hz with rfl | hz
    · exact .inr (n0 _ f3)
    · rcases List.mem_cons.mp hz with rfl | hz
      · exact .inr (n0 _ f4)
      · rw [hst] at hz
        rcases List.mem_cons.mp hz with rfl | hz
        · exact .inr hloc
        · exact .inl hz
  refine ⟨ea, cls, od, H', rfl, J.os, J.bare, Un.hide (Z := Z) J.base hzl hkeep ?_, J.hok.hide (Z := Z) ?_ hkeep, ?_, hE⟩
  · intro b hb o e
    have hm : b ∈ frs X.stack := by rw [hst]; exact List.mem_cons_of_mem _ hb
    obtain ⟨_, o', ho', hnf⟩ := hff.mem hm
    rw [e] at ho'
    cases ho'
    exact k4 b o e hnf
  · intro z hz
    rcases List.mem_cons.mp hz with rfl | hz
    · exact f1
    · rcases List.mem_cons.mp hz with rfl | hz
      · exact f2
      · exact J.stkFree z hz
  · refine fly_of (l := X.stack) (Z := Z) J.hok (fun z hz hf hne => ?_) f1 (n0 _ f3) hff k4 (fun b o e => J.base.there b o e (by intro z; cases z)) k3 (fun o q => (dk.at he q).trans hod)
    rcases List.mem_cons.mp hz with z | z
    · exact absurd z hne
    · rcases List.mem_cons.mp z with rfl | z
      · exact ⟨f2, n0 _ f4⟩
      · exact absurd z hf
end
end L2

set_option Elab.async false
set_option linter.all false
set_option maxRecDepth 100000
set_option maxHeartbeats 4000000
namespace L2
open PySem PySem.Spec PyProof.Rows PySem.W
section
variable {prog : Program} {w : World} {A : Around} {E : Value → Shared → Prop} {s : Shared} {K : Frag} {x C D : Addr} {ox : Obj}
theorem exc_find {M : Model} {h : Heap} {n : Str} {a g : Value} (X : K.In h) (ha : findIn K (.ref D) n = some (some a)) (hg : specialIn K a "__get__" = some (some g)) (ht : takesIn K a = some true) : Looks M h (Builtin.ObjectAttr.find (.ref x) (.ref D) n) (.bind g a) := by
  have L1 := looks_findIn (M := M) X ha
  have L2 : Looks M h (Builtin.ObjectAttr.getOf (some a)) (some g) := looks_specialIn X hg
  have L3 : Looks M h (Builtin.ObjectAttr.dataDescriptor? (some a) (some g)) (some (g, a)) := (looks_takesIn X ht).andThen .now
  exact L1.andThen (L2.andThen (L3.andThen (Looks.tag .now)))
theorem exc_get {tp : Value} {R : Result → Shared → Prop} (X : K.In s.heap) (LT : Looks (model prog w) s.heap (typeOf (.ref x)) (.ref C)) (hm : mroIn K C (.type "object") = some true)
    (h : R (.ok (.ret (.ref C))) s) : codeAny (model prog w) A (.call (.builtin "getset_descriptor.__get__") ⟨[.builtin "object.__class__", .ref x, tp], []⟩) R s := by
  have L1 := looks_mroIn (M := model prog w) X hm
  obtain ⟨hh, g, dr, t, os⟩ := s
  refine codeAny_call_builtin KF.slot_gs.plain KF.entry_gs (KF.slot_gs.check _ _ _ _ _ _ _ _ KF.type_class (KF.args_gs _ _ _) (?_))
  unfold Builtin.«getset_descriptor.__get__»
  unfold Builtin.Getset_descriptor.descrGet
  rw [dga_obj]
  refine wpAny_bind (wpAny_pure ?_)
  unfold Builtin.Getset_descriptor.descrGetter
  unfold Builtin.Getset_descriptor.descrCheckInstance
  unfold Builtin.Getset_descriptor.descrNameAndClass isInstance
  simp only [KF.owner_class]
  repeat lk
  refine ⟨Code.quiet_builtin _ (by decide +kernel), (codeAny_builtin KF.entry_class ?_)⟩
  unfold Builtin.«object.__class__»
  unfold shownTypeOf
  repeat lk
  exact h
theorem exc_entry {tk : Tok} {Q : Fin → Shared → Prop} (X : K.In s.heap) (L0 : Looks (model prog w) s.heap (typeOf (.ref x)) (.ref D)) (L1 : Looks (model prog w) s.heap (Builtin.ObjectAttr.find (.ref x) (.ref D) "__class__") (.bind (.builtin "getset_descriptor.__get__") (.builtin "object.__class__"))) (hm : mroIn K D (.type "object") = some true)
    (hq : Q (.done (.ret (.ref D))) s) : wpAny (model prog w) A (Builtin.«object.__getattribute__» ⟨[.ref x, .str "__class__" tk], []⟩) Q E s := by
  obtain ⟨hh, gg, d, t, os⟩ := s
  unfold Builtin.«object.__getattribute__»
  refine wpAny_bind (wpAny_pure (wpAny_bind (wpAny_pure (wpAny_bind (L0.at (wpAny_bind (L1.at ?_)))))))
  dsimp only
  unfold Builtin.ObjectAttr.bindTo
  dsimp only
  refine wpAny_bind (wpAny_holding (wpAny_call (exc_get X L0 hm ?_)))
  exact wpAny_pure hq
theorem exc_class {Q : Option Value → Shared → Prop} (X : K.In s.heap) (L0 : Looks (model prog w) s.heap (typeOf (.ref x)) (.ref D)) (hga : findIn K (.ref D) "__getattribute__" = some (some (.builtin "BaseException.__getattribute__"))) (hk : findIn K (.ref D) "__getattr__" = some none) (hbx : mroIn K D (.type "BaseException") = some true)
   (hf : Looks (model prog w) s.heap (Builtin.ObjectAttr.find (.ref x) (.ref D) "__class__") (.bind (.builtin "getset_descriptor.__get__") (.builtin "object.__class__"))) (hm : mroIn K D (.type "object") = some true)
   (h : Q (some (.ref D)) { s with toks := s.toks + 1 }) : wpAny (model prog w) A (getAttr? (.ref x) "__class__") Q E s := by
  obtain ⟨hh, g, d, t, os⟩ := s
  have L1 := looks_findIn (M := model prog w) X hga
  have L2 := looks_findIn (M := model prog w) X hk
  have L3 := looks_mroIn (M := model prog w) X hbx
  unfold getAttr? getAttrBy? getAttrBy
  refine wpAny_bind (wpAny_mkText (wpAny_bind (wpAny_attempt (wpAny_holding (wpAny_bind (L0.at (wpAny_bind (L1.at (?_)))))))))
  have hx2 : (Value.builtin "BaseException.__getattribute__" == Value.builtin "object.__getattribute__") = false := by decide +kernel
  dsimp only
  rw [hx2, Bool.and_false, if_neg Bool.false_ne_true]
  unfold getAttrByItsOwn hookBefore onTheHeap
  dsimp only
  rw [if_pos rfl]
  refine wpAny_bind (L2.at (wpAny_bind (wpAny_attempt (wpAny_holding ?_))))
  unfold callGetattribute boundAndCalled onTheHeap
  dsimp only
  rw [Bool.and_false, if_neg Bool.false_ne_true]
  have f3 := F.attr_ValueError.ga.bind (.ref x)
  refine wpAny_bind (wpAny_of_eq f3 ?_)
  refine wpAny_call (codeAny_call_builtin F.attr_ValueError.ga.plain F.entry_bexc_ga ?_)
  have hk1 : builtinKind "BaseException.__getattribute__" = some .slot := by decide +kernel
  have hs1 : splitId "BaseException.__getattribute__" = some ("BaseException", "__getattribute__") := by decide +kernel
  have ha := F.args_bexc_ga (.ref x) (.str "__class__" t)
  simp only [checkBuiltinCall, hk1, hs1]
  refine wpAny_bind ?_
  unfold isInstance
  refine wpAny_bind (L0.at ?_)
  refine L3.at ?_
  rw [if_neg (by decide)]
  repeat (first | assumption | refine exc_entry X L0 hf hm ?_ | wp_step)
/-- what the text's own exception class is like -/
def excRest (K : Frag) (C : Addr) : Bool := findIn K (.ref C) "__getattribute__" == some (some (.builtin "BaseException.__getattribute__")) && (findIn K (.ref C) "__getattr__" == some none &&
  (findIn K (.ref C) "__class__" == some (some (.builtin "object.__class__")) && (mroIn K C (.type "object") == some true && (mroIn K C (.type "BaseException") == some true && ((clsIn K C).isSome &&
  (specialIn K (.builtin "object.__class__") "__get__" == some (some (.builtin "getset_descriptor.__get__")) && takesIn K (.builtin "object.__class__") == some true))))))
def excAll (K : Frag) (C : Addr) : Bool := excIn K C [.type "ValueError", .type "Exception", .type "BaseException", .type "object"] "ValueError.__new__" && excRest K C
theorem excAll.rest {K : Frag} {C : Addr} (z : excAll K C = true) : excRest K C = true := by
  simp only [excAll, Bool.and_eq_true] at z
  exact z.2
/-- the exception's own object -/
def ExcAt (ea C : Addr) (od : Option Addr) (h : Heap) : Prop := ∃ oe, h.get? ea = some oe ∧ oe.cls = .ref C ∧ oe.dict = od ∧ ∃ vs, oe.data = .fields vs
theorem kitx_exc {ea C : Addr} {od : Option Addr} (z : excRest K C = true) : KitX K (.ref ea) (.ref C) (ExcAt ea C od) := by
  simp only [excRest, Bool.and_eq_true, beq_iff_eq] at z
  obtain ⟨z2, z3, z4, z5, z6, z7, z8, z9⟩ := z
  have inst : ∀ {M : Model} {h : Heap}, ExcAt ea C od h → Looks M h (typeOf (.ref ea)) (.ref C) := fun {M h} p => by
    obtain ⟨oe, e1, e2, _⟩ := p
    rw [← e2]
    exact (Looks.ld e1).andThen .now
  obtain ⟨cd, hcd⟩ := Option.isSome_iff_exists.mp z7
  have lk : ∃ o, K.lookup C = some o ∧ ∃ cd, o.data = .cls cd := by
    unfold clsIn at hcd
    split at hcd
    · rename_i c' d' cd' sl' ho
      exact ⟨_, ho, cd', rfl⟩
    · cases hcd
  obtain ⟨oC, hlk, cdd, hdat⟩ := lk
  refine ⟨fun M h X p => inst p, fun M h X p => ?_, fun h tp dd its n sl X htp => ?_, fun X p k => exc_class X (inst p) z2 z3 z6 (exc_find X z4 z8 z9) z5 k⟩
  · intro A' Q' E' s' k q
    unfold isType loadHead
    refine wpAny_bind (wpAny_loadPart (k _ _ (X _ _ hlk)) ?_)
    obtain ⟨_, _, dt, _⟩ := oC
    dsimp only at hdat
    subst hdat
    exact wpAny_pure q
  · refine Bool.eq_false_iff.mpr fun q => ?_
    have e : C = tp := Value.ref.inj (beq_iff_eq.mp q)
    subst e
    rw [X _ _ hlk] at htp
    cases htp
    cases hdat
end
section
variable {X : Cx}
/-- what is told of a tracked exception -/
def isExc (ea C : Addr) (od : Option Addr := none) : HO := .ext (ExcAt ea C od)
theorem excAt_of {H : Hp} {P : Program} {w : World} {h : Heap} {ea C : Addr} {od : Option Addr} (x : HOk P w H h) (e : H ea = some (isExc ea C od)) : ExcAt ea C od h := (show ObjOk P w H h ea (isExc ea C od) from x _ _ e).1
/-- isinstance(e, C) for an exception of the text's own and one of its classes, or a built-in type -/
theorem call_isinstED : CallR X (.builtin "isinstance") (fun xs H Q => ∃ (ea C : Addr) (y : V) (c : Value) (b : Bool), xs = [.ref ea, y] ∧ (∃ od, H ea = some (isExc ea C od)) ∧ excRest X.K C = true ∧ (y = .ty "ValueError" ∧ c = .type "ValueError" ∨ ∃ D, y = .ref D ∧ c = .ref D) ∧ kitOne X.K (.ref C) c = some b ∧ Q (.bl b) H) := by
  intro pins s σ H xs us Q I r h
  obtain ⟨ea, C, y, c, b, rfl, ⟨od, he⟩, hz, hy, hk, q⟩ := h
  obtain ⟨u, u2, rfl, r1, r2⟩ := vals2 r
  cases r1
  have hc : u2 = c := by
    rcases hy with ⟨rfl, rfl⟩ | ⟨D, rfl, rfl⟩
    · exact r2
    · exact r2
  subst hc
  exact kia_one (kitx_exc hz) I.kIn (excAt_of I.hok he) hk (fun z => nomatch z) fun tk => ⟨.bl b, H, I.tok _, rfl, q⟩
theorem call_isinstE : CallR X (.builtin "isinstance") (fun xs H Q => ∃ (ea C : Addr) (y : V) (c : Value) (b : Bool), xs = [.ref ea, y] ∧ H ea = some (isExc ea C) ∧ excAll X.K C = true ∧ (y = .ty "ValueError" ∧ c = .type "ValueError" ∨ ∃ D, y = .ref D ∧ c = .ref D) ∧ kitOne X.K (.ref C) c = some b ∧ Q (.bl b) H) :=
  fun pins s σ H xs us Q I r ⟨ea, C, y, c, b, ex, he, hz, q⟩ => call_isinstED pins s σ H xs us Q I r ⟨ea, C, y, c, b, ex, ⟨none, he⟩, (excAll.rest hz), q⟩
theorem excs_vals : ∀ {cs : List Addr} {its : List Value}, Vals (cs.map V.ref) its → its = cs.map Value.ref
  | [], _, r => by cases r; rfl
  | c :: cs, _, r => by
    cases r with
    | cons r1 r2 =>
      rw [excs_vals r2]
      cases (show _ = Value.ref c from r1)
      rfl
theorem call_isinstETD : CallR X (.builtin "isinstance") (fun xs H Q => ∃ (ea C tp : Addr) (cs : List Addr) (b : Bool), xs = [.ref ea, .ref tp] ∧ (∃ od, H ea = some (isExc ea C od)) ∧ excRest X.K C = true ∧ H tp = some (.tup (cs.map V.ref)) ∧ kitAny X.K (.ref C) (cs.map Value.ref) = some b ∧ Q (.bl b) H) := by
  intro pins s σ H xs us Q I r h
  obtain ⟨ea, C, tp, cs, b, rfl, ⟨od, he⟩, hz, htp, hk, q⟩ := h
  obtain ⟨u, u2, rfl, r1, r2⟩ := vals2 r
  cases r1
  cases r2
  obtain ⟨_, its, rv, ⟨oc, od, oa, osl⟩, h1, h2, h3, n, h4⟩ := (show ObjOk X.prog X.w H s.heap tp (.tup (cs.map V.ref)) from I.hok tp _ htp)
  dsimp only at h2 h3 h4
  subst h2; subst h3; subst h4
  rw [excs_vals rv] at h1
  exact kia_tup (kitx_exc hz) I.kIn (excAt_of I.hok he) h1 hk (fun z => nomatch z) fun tk => ⟨.bl b, H, I.tok _, rfl, q⟩
theorem call_isinstET : CallR X (.builtin "isinstance") (fun xs H Q => ∃ (ea C tp : Addr) (cs : List Addr) (b : Bool), xs = [.ref ea, .ref tp] ∧ H ea = some (isExc ea C) ∧ excAll X.K C = true ∧ H tp = some (.tup (cs.map V.ref)) ∧ kitAny X.K (.ref C) (cs.map Value.ref) = some b ∧ Q (.bl b) H) :=
  fun pins s σ H xs us Q I r ⟨ea, C, tp, cs, b, ex, he, hz, q⟩ => call_isinstETD pins s σ H xs us Q I r ⟨ea, C, tp, cs, b, ex, ⟨none, he⟩, (excAll.rest hz), q⟩
end
end L2

set_option Elab.async false
set_option linter.all false
set_option maxRecDepth 100000
set_option maxHeartbeats 4000000
namespace L2
open PySem PySem.Spec PyProof.Rows PySem.W
/-! ### defs that may raise -/
section
variable {P : Program} {w : World} {K : PySem.W.Frag} {mg : Str → Option Value} {base : Heap}
theorem Fun.okE {x qual : Str} {st : Stmt} {f : Addr} {fd : FuncData} {N ps : List Str} {k : Nat} {sp : Sp} (F : Fun K x qual st f fd) (S : FnScope N ps (defScope st)) (len : ∀ vs H Q E, sp vs H Q E → vs.length = ps.length)
    (hbody : ∀ (cdv : Value) (A : Around) (outer : List Env) (s : Shared) (H : Hp) (vs : List V) (Q : VK) (E : XK), Room k (A.deeper (envOfC qual (defScope st) s.heap.objs.size f cdv)) → sp vs H Q E →
      ∃ t, PSs (cxOf (CX1 P w) P w K mg base N qual (defScope st) f cdv A outer s H E) (defBody st) t ∧ t { nx := fun _ H' => Q .non H', rt := Q } (start N vs) H) : FnOk P w K mg base (CX1 P w) (k + 1) f fd ps sp := by
  obtain ⟨oc, od, kV, doc, pm, an, cdv, ct, osl, rfl, lk, hcd⟩ := F.ex
  exact fn_of lk hcd S len fun A outer s H vs Q E hr hsp => hbody cdv A outer s H vs Q E hr hsp
theorem _root_.Lv.FunD.okE {x qual : Str} {st : Stmt} {f da : Addr} {fd : FuncData} {N ps : List Str} {k : Nat} {sp : Sp} (F : Lv.FunD K x qual st f da fd) (S : FnScope N ps (defScope st)) (len : ∀ vs H Q E, sp vs H Q E → vs.length = ps.length)
    (hbody : ∀ (cdv : Value) (A : Around) (outer : List Env) (s : Shared) (H : Hp) (vs : List V) (Q : VK) (E : XK), Room k (A.deeper (envOfC qual (defScope st) s.heap.objs.size f cdv)) → sp vs H Q E →
      ∃ t, PSs (cxOf (CX1 P w) P w K mg base N qual (defScope st) f cdv A outer s H E) (defBody st) t ∧ t { nx := fun _ H' => Q .non H', rt := Q } (start N vs) H) : FnOk P w K mg base (CX1 P w) (k + 1) f fd ps sp := by
  obtain ⟨oc, od, kV, doc, pm, an, cdv, ct, osl, rfl, lk, hcd⟩ := F.ex
  exact fn_of lk hcd S len fun A outer s H vs Q E hr hsp => hbody cdv A outer s H vs Q E hr hsp
theorem FnOk.toE {k : Nat} {f : Addr} {fd : FuncData} {ps : List Str} {sp : Sp} (F : FnOk P w K mg base CX0 k f fd ps sp) : FnOk P w K mg base (CX1 P w) k f fd ps sp :=
  ⟨F.len, fun A outer s H args us vs Q E hr he hb hv hs => codeAny_mono (F.run A outer s H args us vs Q E hr he hb hv hs) fun r s' q => by
    cases r with
    | error e => exact q.elim
    | ok fl => cases fl <;> exact q⟩
end
/-- a def of the text that may raise, called by its name -/
structure CalE (P : Program) (w : World) (K : PySem.W.Frag) (mg : Str → Option Value) (base : Heap) (k : Nat) (x : Str) (ps : List Str) (dvs : List V) (sp : Sp) (f : Addr) (fd : FuncData) : Prop where
  ok : FnOk P w K mg base (CX1 P w) k f fd ps sp
  mg : mg x = some (.ref f)
  kp : PySem.W.keepIn K (.ref f) = true
  bd : ∃ ds, Binds K fd ps ds ∧ Vals dvs ds
section
variable {X : Cx}
theorem pe_calE {k : Nat} {x : Str} {ps : List Str} {dvs : List V} {sp : Sp} {f : Addr} {fd : FuncData} {e : Expr} {es : List Expr} {t : TA} {p pos : Pos} {E : XK} (C : CalE X.prog X.w X.K X.mg X.base k x ps dvs sp f fd) (hr : Room k X.A) (hx : Passes (CX1 X.prog X.w) X E) (hg : Gl X x) (ha : PA X (e :: es) t)
    (hdb : (x == ("__debug__" : Str)) = false := by decide) (he : starEach (e :: es) X.env = (false, eval e X.env) :: starEach es X.env := by rfl) (hpl : (backTo pos (starEach es X.env)).any (·.1) = false := by rfl) :
    PE X (.Call (.Name x p) (e :: es) [] pos) (tCall sp dvs E t) := by
  obtain ⟨ds, h1, h2⟩ := C.bd
  exact pe_call C.ok hr hg C.mg C.kp h1 h2 hx ha hdb he hpl
/-! ### f'..' of texts and ints: some text -/
inductive FParts (X : Cx) : List Expr → List TE → Prop
  | nil : FParts X [] []
  | con {x : Str} {j pos} {es : List Expr} {ts : List TE} (h : x.length ≤ 1000) (r : FParts X es ts) : FParts X (.Constant (.str x) j pos :: es) ts
  | val {v : Expr} {t : TE} {pos : Pos} {es : List Expr} {ts : List TE} (h : PE X v t) (r : FParts X es ts) : FParts X (.FormattedValue v (-1) none pos :: es) (t :: ts)
def tFs : List TE → TE
  | [] => fun _ H Q => ∀ x : Str, Q (.str x) H
  | t :: r => fun σ H Q => t σ H fun v H1 => ∃ i : Int, v = .int i ∧ i.natAbs.log2 < 1920 ∧ (Str.ofString (toString i)).length ≤ 1000 ∧ tFs r σ H1 Q
theorem joins_ok {pins : List (Addr × Obj)} {σ : St} : ∀ {es : List Expr} {ts : List TE}, FParts X es ts → ∀ (acc : Str) (s : Shared) (H : Hp) (Q : VK) (R : Str → Shared → Prop), es.length ≤ 50 → acc.length + es.length * 1000 ≤ 100000 → Inv X pins σ H s → tFs ts σ H Q → (∀ x s' H', x.length ≤ 100000 → Inv X pins σ H' s' → (∀ y : Str, Q (.str y) H') → R x s') → Joins (model X.prog X.w) X.A X.xe (evalEach es X.env) acc R s
  | _, _, .nil, acc, s, H, Q, R, h50, hl, I, h, k => k acc s H (by simpa using hl) I h
  | _, _, .con (x := x) (es := es) hx r, acc, s, H, Q, R, h50, hl, I, h, k => by
    have hz : 100000 < sizeLine := by decide
    have hl : acc.length + (es.length + 1) * 1000 ≤ 100000 := hl
    have ha : (acc ++ x).length = acc.length + x.length := strLen_append ..
    refine Calls.Constant_str ⟨x, _, rfl, by omega, ?_⟩
    exact joins_ok r _ _ H Q R (by simpa using Nat.le_of_succ_le h50) (by omega) (I.tok _) h k
  | _, _, .val (v := v) (t := t) (es := es) (ts := ts) hv r, acc, s, H, Q, R, h50, hl, I, h, k => by
    have hz : 100000 < sizeLine := by decide
    have hl : acc.length + (es.length + 1) * 1000 ≤ 100000 := hl
    refine wpAny_FormattedValue_plain (thn (hv pins s σ H _ I h) fun u s1 ⟨y, H1, I1, r1, q1⟩ => ?_)
    obtain ⟨i, rfl, hd, hlen, q⟩ := q1
    obtain ⟨tk, rfl⟩ := r1
    refine wpAny_formatField_int hd ?_
    have ha : (acc ++ Str.ofString (toString i)).length = acc.length + (Str.ofString (toString i)).length := strLen_append ..
    refine ⟨_, _, rfl, by omega, ?_⟩
    exact joins_ok r _ _ H1 Q R (by simpa using Nat.le_of_succ_le h50) (by omega) ((I1.tok _).tok _) q k
theorem pe_fstr {v1 v2 : Expr} {rest : List Expr} {ts : List TE} {pos : Pos} (h : FParts X (v1 :: v2 :: rest) ts) (hl : (v1 :: v2 :: rest).length ≤ 50 := by decide) : PE X (.JoinedStr (v1 :: v2 :: rest) pos) (tFs ts) := by
  intro pins s σ H Q I hq
  have hz : 100000 < sizeLine := by decide
  have e0 : Str.empty.length = 0 := rfl
  refine wpAny_JoinedStr (joins_ok h _ _ H Q _ hl (by rw [e0]; omega) I hq fun x s' H' hx I' k => ?_)
  exact ⟨by omega, .str x, H', I'.tok _, ⟨_, rfl⟩, k x⟩
/-! ### raise -/
theorem exc_obj {K : Frag} {h : Heap} {C : Addr} {bmB : List Value} {newId : String} (X : K.In h) (q : excIn K C bmB newId = true) : ∃ bm N nm qn bs hd sn sub ab col dd k0 k1 k2 k3 k5 mN,
    h.get? C = some (excClassObj nm qn C N bs bm hd sn sub ab col dd k0 k1 k2 k3 k5 newId) ∧ h.Ns N mN ∧ mN "__init__" = none ∧ OwnTail h bmB bm := by
  unfold excIn at q
  split at q
  · rename_i dd cd sl lk
    split at q
    · rename_i C1 bm k0 k1 k2 k3 n1 k5 e1 e2
      simp only [Bool.and_eq_true, beq_iff_eq, Bool.not_eq_true'] at q
      obtain ⟨⟨⟨⟨⟨c1, c2⟩, c3⟩, c4⟩, c5⟩, c6⟩ := q
      obtain ⟨nm, bs, mro, ns, qn, hd, sn, sub, ab, col, del⟩ := cd
      obtain ⟨ls⟩ := sl
      dsimp only at e1 e2 c3 c5 c6
      subst c1 c2 c3 e1 e2
      refine ⟨bm, ns, nm, qn, bs, hd, sn, sub, ab, col, dd, k0, k1, k2, k3, k5, _, X _ _ lk, .of_isNs (isNs_of_in X c5), nsMap_none_of_in X c5 c6, tail_of_in X c4⟩
    · cases q
  · cases q
def tRaise (C : Addr) (E : XK) (t : TA) : TS := fun _ σ H => t σ H fun vs H1 => vs.length ≤ 1000 ∧ E (.ref C) none H1
theorem ps_raise {E : XK} {x : Str} {C : Addr} {e0 : Expr} {rest : List Expr} {t : TA} {np cpos pos : Pos} (hT : Takes X E) (hg : Gl X x) (hm : X.mg x = some (.ref C)) (hz : excAll X.K C = true) (ha : PA X (e0 :: rest) t) (hc : X.calm = true := by rfl) (hex : X.ex = [] := by rfl)
    (he : starEach (e0 :: rest) X.env = (false, eval e0 X.env) :: starEach rest X.env := by rfl) (hpl : (backTo cpos (starEach rest X.env)).any (·.1) = false := by rfl) (hd : (x == ("__debug__" : Str)) = false := by decide) :
    PS X (.Raise (some (.Call (.Name x np) (e0 :: rest) [] cpos)) none pos) (tRaise C E t) := by
  intro pins s σ H D I h
  have hin : excIn X.K C [.type "ValueError", .type "Exception", .type "BaseException", .type "object"] "ValueError.__new__" = true := by
    simp only [excAll, Bool.and_eq_true] at hz
    exact hz.1
  obtain ⟨bm, N, nm, qn, bs, hd', sn, sub, ab, col, dd, k0, k1, k2, k3, k5, mN, hC, hN, hni, hT2⟩ := exc_obj I.ok.mod.kin hin
  refine wpAny_Raise_call_subT (C := C) (nm := nm) (q := qn) (N := N) (bs := bs) (bm := bm) (hdct := hd') (sn := sn) (sub := sub) (ab := ab) (col := col) (dd := dd) (k0 := k0) (k1 := k1) (k2 := k2) (k3 := k3) (k5 := k5) (newId := "ValueError.__new__")
    PySem.F.excBase_ValueError (mN := mN) (hT2.hasType PySem.F.excBase_ValueError.hasBase) (I.ok.hd hc) (by rw [he]; show (false || (backTo cpos (starEach rest X.env)).any (·.1)) = false; rw [hpl]; rfl) hni (ld_glob I hg hm ⟨rfl, ?_⟩ hd)
  have hA := ha cpos pins s σ H _ I h
  rw [he] at hA ⊢
  refine Calls.evalArgs_plain (wpAny_mono hA (fun us s2 h2 => ?_) fun _ _ y => y)
  obtain ⟨vs, H1, I1, rv, hlen, hE⟩ := h2
  have hz2 : 100000 < sizeLine := by decide
  have hus := rv.length
  refine ⟨rfl, by show us.length ≤ sizeLine; omega, I1.bk _ _ hC, hN.keeps I1.bk, hT2.keeps I1.bk, fun h' e hm => ?_⟩
  obtain ⟨tt, ht, _, _⟩ := hm.there
  refine hT pins σ H1 { s2 with heap := h' } e _ _ _ (I1.kept (t' := s2.toks) hm.keeps) ?_ ?_ ht rfl rfl rfl hE
  · exact I1.hok.none_of hm.new
  · cases q : X.s₀.heap.get? e with
    | none => rfl
    | some o =>
      obtain ⟨o', z⟩ := I1.base.there e o q (by rw [hex]; intro y; cases y)
      rw [hm.new] at z
      cases z
end
/-! ### try: .. except C as e: .. -/
abbrev Cx.inTry (X : Cx) (pn' : List (Addr × Obj)) (xe' : Value → Shared → Prop) : Cx := { X with pn := pn', xe := xe' }
abbrev Cx.inSuite (X : Cx) (ea : Addr) : Cx := { X with A := X.A.mark (some (.ref ea)), calm := false, xe := fun _ _ => False }
section
variable {X : Cx} {pins : List (Addr × Obj)} {σ : St} {H : Hp} {s : Shared}
theorem Cx.Ok.inTry (ok : X.Ok) (pn' : List (Addr × Obj)) (xe' : Value → Shared → Prop) : (X.inTry pn' xe').Ok :=
  ⟨ok.mod, ok.kind, ok.glob, ok.blt, ok.above, ok.inj, ok.has, ok.cab, ok.hd, ok.frames, ok.stk, ok.exf, ok.bs, ok.bsz, ok.noex, ok.exfs, ok.funs, ok.frf⟩
theorem Cx.Ok.outTry {pn' : List (Addr × Obj)} {xe' : Value → Shared → Prop} (ok : (X.inTry pn' xe').Ok) : X.Ok :=
  ⟨ok.mod, ok.kind, ok.glob, ok.blt, ok.above, ok.inj, ok.has, ok.cab, ok.hd, ok.frames, ok.stk, ok.exf, ok.bs, ok.bsz, ok.noex, ok.exfs, ok.funs, ok.frf⟩
theorem Cx.Ok.inSuite (ok : X.Ok) (ea : Addr) : (X.inSuite ea).Ok :=
  ⟨ok.mod, ok.kind, ok.glob, ok.blt, ok.above, ok.inj, ok.has, ok.cab, fun z => Bool.noConfusion z, ok.frames, ok.stk, ok.exf, ok.bs, ok.bsz, ok.noex, ok.exfs, ok.funs, ok.frf⟩
theorem Inv.inTry (I : Inv X pins σ H s) (xe' : Value → Shared → Prop) : Inv (X.inTry (X.pn ++ pins) xe') [] σ H s :=
  ⟨I.ok.inTry _ _, I.os, I.bare, I.base, I.loc, I.cell, I.free, I.freeC, fun p hp => I.pin p (by simpa using hp), I.hok, I.len⟩
theorem Inv.outTry {xe' : Value → Shared → Prop} {q : List (Addr × Obj)} (I : Inv (X.inTry (X.pn ++ pins) xe') q σ H s) : Inv X pins σ H s :=
  ⟨I.ok.outTry, I.os, I.bare, I.base, I.loc, I.cell, I.free, I.freeC, fun p hp => I.pin p (List.mem_append_left _ hp), I.hok, I.len⟩
theorem Inv.inSuite (I : Inv X pins σ H s) (ea : Addr) : Inv (X.inSuite ea) pins σ H s :=
  ⟨I.ok.inSuite _, I.os, I.bare, I.base, I.loc, I.cell, I.free, I.freeC, I.pin, I.hok, I.len⟩
theorem Inv.outSuite {ea : Addr} (ok : X.Ok) (I : Inv (X.inSuite ea) pins σ H s) : Inv X pins σ H s :=
  ⟨ok, I.os, I.bare, I.base, I.loc, I.cell, I.free, I.freeC, I.pin, I.hok, I.len⟩
theorem Un.ext {fs ex : List Addr} {H H' : Hp} {h h' : Heap} {ea : Addr} {o : HO} (u : Un fs ex H H' h h') (h1 : H' ea = none) (h2 : h.get? ea = none) : Un fs ex H (upd H' ea o) h h' where
  keep := u.keep
  slot := u.slot
  free := fun b ob e n hx => by rw [upd_ne (fun z => by rw [z, h2] at e; cases e)]; exact u.free b ob e n hx
  there := u.there
  tups := fun b xs e => by rw [upd_ne (ne_of_none (u.tups b xs e) h1)]; exact u.tups b xs e
  frzs := fun b ob xs e => by rw [upd_ne (ne_of_none (u.frzs b ob xs e) h1)]; exact u.frzs b ob xs e
  tbls := fun b ps e => by
    obtain ⟨more, q⟩ := u.tbls b ps e
    exact ⟨more, by rw [upd_ne (ne_of_none q h1)]; exact q⟩
theorem HOk.ext {P : Program} {w : World} {H : Hp} {h : Heap} {ea C : Addr} {od : Option Addr} (x : HOk P w H h) (h1 : H ea = none) (h2 : ExcAt ea C od h) : HOk P w (upd H ea (isExc ea C od)) h := fun a o e => by
  by_cases ha : a = ea
  · subst ha
    rw [upd_same] at e
    cases e
    obtain ⟨oe, e1, e2⟩ := h2
    exact ⟨⟨oe, e1, e2⟩, ⟨oe, e1⟩, fun g1 g2 ⟨o1, z1, z2⟩ k => ⟨o1, k _ z1, z2⟩⟩
  · rw [upd_ne ha] at e
    exact (x a o e).stay (fun _ _ _ z => z) (fun b z => by rw [upd_ne (ne_of_none z h1)]; exact z) fun b xs z => by rw [upd_ne (ne_of_none z h1)]; exact z
/-- the name goes -/
theorem unbind_ok {M : Model} {A : Around} {E : Value → Shared → Prop} {i : Nat} {x : Str} {pos : Pos} {Q : Unit → Shared → Prop} (I : Inv X pins σ H s) (hN : X.N.Nodup) (hi : X.N[i]? = some x) (hx : X.env.scope.names.lookup x = some .local)
    (h : ∀ s', Inv X pins (σ.set i none) H s' → Q () s') : wpAny M A (do bindName X.env x .none; unbindBehindTheSuite X.env x pos) Q E s := by
  obtain ⟨m, hn, hl⟩ := id I.loc
  have hcls : (X.env.scope.kind == .class || (X.env.scope.kind == .module && X.env.locals != X.env.globals)) = false := by rw [I.ok.kind]; rfl
  have cne := I.cne
  obtain ⟨oL, _, _, hoL, _⟩ := id hn
  refine wpAny_nameGoes_keeps hx hn hcls fun h' v hn' hs => ?_
  have far : ∀ {b : Addr} {o : Obj}, X.s₀.heap.get? b = some o → b ≠ X.env.locals := fun e => Nat.ne_of_lt (Nat.lt_of_lt_of_le (Heap.lt_size e) I.ok.above)
  refine h _ ⟨I.ok, I.os, I.bare, ⟨fun b o e n hb hx => (hs.2 b (far e)).trans (I.base.keep b o e n hb hx), fun b o e n hb hx => ?_, I.base.free, fun b o e hx => ?_, I.base.tups, I.base.frzs, I.base.tbls⟩, ⟨_, hn', fun j y v' e1 e2 e3 => ?_⟩, fun y c e => ?_, I.free, I.freeC, fun p hp => ?_, fun b ob e => ?_, by simpa using I.len⟩
  · obtain ⟨sl, q⟩ := I.base.slot b o e n hb hx
    exact ⟨sl, (hs.2 b (far e)).trans q⟩
  · obtain ⟨o', q⟩ := I.base.there b o e hx
    exact ⟨o', (hs.2 b (far e)).trans q⟩
  · have hj : j ≠ i := fun z => by
      subst z
      rw [List.getElem?_set] at e2
      split at e2
      · split at e2 <;> cases e2
      · exact absurd rfl ‹¬ j = j›
    rw [List.getElem?_set_ne (Ne.symm hj)] at e2
    obtain ⟨u', r', q⟩ := hl j y v' e1 e2 e3
    refine ⟨u', r', ?_⟩
    rcases q with ⟨k, q⟩ | ⟨k, c, q, z⟩
    · have hy : y ≠ x := fun z => hj (nodup_ix hN e1 (z ▸ hi))
      exact .inl ⟨k, by simp [hy, q]⟩
    · exact .inr ⟨k, c, q, z.sameBut hs (cne y c q)⟩
  · obtain ⟨w', z⟩ := I.cell y c e
    exact ⟨w', z.sameBut hs (cne y c e)⟩
  · obtain ⟨e, n, ne, nf, d⟩ := I.pin p hp
    exact ⟨(hs.2 p.1 ne).trans e, n, ne, nf, d⟩
  · refine (I.hok b ob e).stay (fun c w' hc q => (hs.2 c ?_).trans q) (fun _ q => q) fun _ _ q => q
    rintro rfl
    rcases hc with rfl | hc
    · rw [I.free] at e; cases e
    · rw [I.free] at hc; cases hc
end
/-- the ends of a suite, the name gone behind it -/
def Ends.without (D : Ends) (i : Nat) : Ends := { nx := fun σ H => D.nx (σ.set i none) H, rt := D.rt, bk := fun σ H => D.bk (σ.set i none) H, ct := fun σ H => D.ct (σ.set i none) H }
/-- what is wanted of an exception in the body: it is caught, and the suite does the rest; it knows no local name but the exception's -/
def exTry (K : Frag) (n i : Nat) (c : Value) (ts : TS) (D : Ends) : XK := fun cls od H' => ∃ C : Addr, cls = .ref C ∧ exmOne K cls c = some true ∧ ∀ ea, H' ea = none → ts (D.without i) ((List.replicate n none).set i (some (.ref ea))) (upd H' ea (isExc ea C od))
def tTry (K : Frag) (n i : Nat) (c : Value) (tb : XK → TS) (ts : TS) : TS := fun D σ H => tb (exTry K n i c ts D) D σ H
section
variable {X : Cx}
theorem ps_try {body : List Stmt} {b0 : Stmt} {suite : List Stmt} {cx n : Str} {c : Addr} {np hpos pos : Pos} {i : Nat} {tb : XK → TS} {ts : TS} (hN : X.N.Nodup) (hi : X.N[i]? = some n) (hx : X.env.scope.names.lookup n = some .local) (hg : Gl X cx) (hm : X.mg cx = some (.ref c))
    (hb : ∀ (Ex : XK) (pn' : List (Addr × Obj)) (xe' : Value → Shared → Prop), Passes (CX1 X.prog X.w) (X.inTry pn' xe') Ex → PSs (X.inTry pn' xe') body (tb Ex)) (hs : ∀ ea : Addr, PSs (X.inSuite ea) (b0 :: suite) ts)
    (hst : X.stack = X.env :: X.outer := by rfl) (hf : X.env.frame = some X.env.locals := by rfl) (hd : (cx == ("__debug__" : Str)) = false := by decide) :
    PS X (.Try body [.ExceptHandler (some (.Name cx np)) (some n) (b0 :: suite) hpos] [] [] pos) (tTry X.K X.N.length i (.ref c) tb ts) := by
  intro pins s σ H D I h
  refine wpAny_Try_except (wpAny_mono (hb _ (X.pn ++ pins) _ ?_ [] s σ H D (I.inTry _) h) (fun f s1 q => ?_) fun _ _ z => z)
  · intro pins2 σ2 H2 s2 e s2' J hcx
    obtain ⟨ea, cls, od, H', rfl, os', bare', un', hok', ⟨a0, T, oe, oT, vs, ts', ⟨f1, f2, f3, f4⟩, he, ⟨hc, hod⟩, hdd, hv1, hTe, hT, hdT, h3⟩, C, rfl, hex, hrd⟩ := hcx
    have J1 : Inv (X.inTry (X.pn ++ pins) _) pins2 σ2 H' s2' := J.call' (ch := []) os' un' hok' bare' fun b z => absurd z (by simp)
    have hfr : X.A.frames = some (X.env :: X.outer) := J.ok.frames.trans (by rw [← hst])
    have hff : s2'.heap.FunFrames X.base X.stack := J1.stack
    let Z := ea :: T :: frs X.stack
    have hB : ∀ b ∈ frs X.stack, (hideL s2'.heap Z).get? b = none := fun b hb => hideL_mem (List.mem_cons_of_mem _ (List.mem_cons_of_mem _ hb))
    have hff2 : s2'.heap.FunFrames (hideL s2'.heap Z) (X.env :: X.outer) := by rw [← hst]; exact frames_hide hff hB
    -- the state while the exception is looked at
    have at_ : ∀ h' : Heap, Heap.FlyingW (hideL s2'.heap Z) (X.env :: X.outer) ea (.ref C) a0 h' → s2'.heap.UpToSlots h' → DK s2'.heap h' → Inv (X.inSuite ea) pins (List.replicate X.N.length none) (upd H' ea (isExc ea C od)) { s2' with heap := h' } := fun h' hfl up dk => by
      have hkeep : ∀ b o, s2'.heap.get? b = some o → b ∉ Z → h'.get? b = some o := fun b o e n => hfl.1 b o (by rw [hideL_ne n]; exact e)
      have hzl : ∀ z ∈ Z, z ∈ frs X.stack ∨ s2.heap.get? z = none := fun z hz => by
        rcases List.mem_cons.mp hz with rfl | hz
        · exact .inr f3
        · rcases List.mem_cons.mp hz with rfl | hz
          · exact .inr f4
          · exact .inl hz
      have hzn : ∀ z ∈ Z, H' z = none := fun z hz => by
        rcases List.mem_cons.mp hz with rfl | hz
        · exact f1
        · rcases List.mem_cons.mp hz with rfl | hz
          · exact f2
          · exact J1.stkFree z hz
      have u2 : Un (frs X.stack) [] H2 H' s2.heap h' := un'.hide hzl hkeep fun b hb o e => by
        obtain ⟨_, o', ho', hnf⟩ := hff.mem hb
        rw [e] at ho'
        cases ho'
        exact up b o e hnf
      have hx2 : ExcAt ea C od h' := by
        obtain ⟨ob, ws, q1, q2, q3, _⟩ := hfl.first
        exact ⟨ob, q1, q2, (dk.at he q1).trans hod, ws, q3⟩
      have J2 : Inv (X.inTry (X.pn ++ pins) _) pins2 σ2 (upd H' ea (isExc ea C od)) { s2' with heap := h' } := J.call' (ch := []) os' (u2.ext f1 f3) ((hok'.hide hzn hkeep).ext f1 hx2) bare' fun b z => absurd z (by simp)
      have J3 : Inv X pins σ2 (upd H' ea (isExc ea C od)) { s2' with heap := h' } := J2.outTry
      exact (J3.weak (σ' := List.replicate X.N.length none) (by rw [List.length_replicate]; exact J3.len.symm) fun j v z => by
        rw [List.getElem?_replicate] at z
        split at z <;> cases z).inSuite ea
    have hX : X.Ok := I.ok
    refine wpAny_dk dc_noteFrame (wpAny_looks_onW (base := hideL s2'.heap Z) hfr hf ⟨hideL_stays, hideL_mem List.mem_cons_self, hff2, ⟨oe, vs, T, oT, ts', he, hc, hdd, hv1, hideL_mem (List.mem_cons_of_mem _ List.mem_cons_self), hTe, hT, hdT, h3⟩⟩ fun h1 held up1 dk1 => ?_)
    refine wpAny_dk dc_setFlight (wpAny_landsW held fun h2 fly2 up2 dk2 => ?_)
    have JS := at_ h2 fly2 (up1.trans up2) (dk1.trans dk2)
    refine wpAny_handleBy_cons (codeAny_handlers_test ?_) (by intro q; cases q)
    refine ld_glob JS hg hm ?_ hd
    have LT : Looks (model X.prog X.w) h2 (typeOf (.ref ea)) (.ref C) := by
      obtain ⟨ob, e1, e2⟩ := fly2.there
      rw [← e2]
      exact (Looks.ld e1).andThen .now
    refine (exm_one JS.kIn LT hex).here ?_
    refine codeAny_handlers_suite_as (wpAny_dk dc_setFlight (lands_againW fly2 fun h3' fly3 up3 dk3 => ?_))
    have JS3 := at_ h3' fly3 ((up1.trans up2).trans up3) ((dk1.trans dk2).trans dk3)
    refine store_ok (X := X.inSuite ea) JS3 hN hi (.inl hx) (v := .ref ea) rfl (fun s4 J4 => ?_) (.inr hx)
    refine wpAny_mono (hs ea pins s4 _ _ _ J4 (hrd ea f1)) (fun f s5 q => ?_) fun _ _ z => False.elim z
    cases f with
    | next =>
      obtain ⟨σ', H'', I', r⟩ := q
      exact unbind_ok (I'.outSuite hX) hN hi hx fun s6 I6 => ⟨_, _, I6, r⟩
    | brk =>
      obtain ⟨σ', H'', I', r⟩ := q
      exact unbind_ok (I'.outSuite hX) hN hi hx fun s6 I6 => ⟨_, _, I6, r⟩
    | cont =>
      obtain ⟨σ', H'', I', r⟩ := q
      exact unbind_ok (I'.outSuite hX) hN hi hx fun s6 I6 => ⟨_, _, I6, r⟩
    | ret u =>
      obtain ⟨v, σ', H'', I', rv, r⟩ := q
      exact unbind_ok (I'.outSuite hX) hN hi hx fun s6 I6 => ⟨v, _, _, I6, rv, r⟩
  · cases f with
    | next =>
      obtain ⟨σ', H', I', r⟩ := q
      exact wpAny_execs_nil ⟨σ', H', I'.outTry, r⟩
    | brk => obtain ⟨σ', H', I', r⟩ := q; exact ⟨σ', H', I'.outTry, r⟩
    | cont => obtain ⟨σ', H', I', r⟩ := q; exact ⟨σ', H', I'.outTry, r⟩
    | ret u => obtain ⟨v, σ', H', I', rv, r⟩ := q; exact ⟨v, σ', H', I'.outTry, rv, r⟩
end
end L2

set_option Elab.async false
set_option linter.all false
set_option maxRecDepth 100000
set_option maxHeartbeats 4000000
namespace L2
open PySem PySem.Spec PyProof.Rows
/-! ### closed words: what lies in them is not opened while a term is put together -/
def notStarW : Expr → Bool
  | .Starred .. => false
  | _ => true
theorem star_consW {e : Expr} {es : List Expr} {env : Env} (h : notStarW e = true) : starEach (e :: es) env = (false, eval e env) :: starEach es env := by
  cases e <;> first | rfl | (cases h)
structure WA (X : Cx) (es : List Expr) (t : TA) : Prop where
  out : PA X es t
structure WS (X : Cx) (st : Stmt) (t : TS) : Prop where
  out : PS X st t
structure WSs (X : Cx) (sts : List Stmt) (t : TS) : Prop where
  out : PSs X sts t
section
variable {X : Cx} {st : Stmt} {rest a b : List Stmt} {t u : TS} {c e : Expr} {tc : TT} {pos : Pos} {es : List Expr} {te : TE} {ta : TA}
theorem wss_cons (h1 : WS X st t) (h2 : WSs X rest u) : WSs X (st :: rest) (tSeq t u) := ⟨pss_cons h1.out h2.out⟩
theorem wss_one (h : WS X st t) : WSs X [st] t := ⟨pss_one h.out⟩
theorem wss_nil : WSs X [] tNext := ⟨pss_nil⟩
theorem wss {sts : List Stmt} (h : PSs X sts t) : WSs X sts t := ⟨h⟩
theorem ws_if (hc : PT X c tc) (ha : WSs X a t) (hb : WSs X b u) : WS X (.If c a b pos) (tIfS tc t u) := ⟨ps_if hc ha.out hb.out⟩
theorem ws (h : PS X st t) : WS X st t := ⟨h⟩
theorem wa_nil : WA X [] tNil := ⟨pa_nil⟩
theorem wa_cons (hn : notStarW e = true) (ha : PE X e te) (hr : WA X es ta) : WA X (e :: es) (tCons te ta) := ⟨pa_cons ha hr.out (star_consW hn)⟩
end
section
variable {P : Program} {w : World} {K : PySem.W.Frag} {mg : Str → Option Value} {base : Heap}
theorem okW {x qual : Str} {st : Stmt} {f : Addr} {fd : FuncData} {N ps : List Str} {k : Nat} {sp : Sp} (F : Fun K x qual st f fd) (S : FnScope N ps (defScope st)) (len : ∀ vs H Q E, sp vs H Q E → vs.length = ps.length)
    (hbody : ∀ (cdv : Value) (A : Around) (outer : List Env) (s : Shared) (H : Hp) (vs : List V) (Q : VK) (E : XK), Room k (A.deeper (envOfC qual (defScope st) s.heap.objs.size f cdv)) → sp vs H Q E →
      ∃ t, WSs (cxOf CX0 P w K mg base N qual (defScope st) f cdv A outer s H E).nox (defBody st) t ∧ t { nx := fun _ H' => Q .non H', rt := Q } (start N vs) H) : FnOk P w K mg base CX0 (k + 1) f fd ps sp :=
  F.ok S len fun cdv A outer s H vs Q E hr hsp => by
    obtain ⟨t, h, q⟩ := hbody cdv A outer s H vs Q E hr hsp
    exact ⟨t, h.out, q⟩
end
end L2

set_option Elab.async false
set_option linter.all false
set_option maxRecDepth 100000
set_option maxHeartbeats 4000000
namespace L2
open PySem PySem.Spec PyProof.Rows PySem.SeqAt
/-! ### a dict while a loop walks it -/
section
variable {X : Cx} {pins : List (Addr × Obj)} {σ : St} {H : Hp} {s : Shared} {a : Addr} {u v : HO} {kvs : List (Key × V)}
end
section
variable {X : Cx}
end
/-! ### d.items() -/
section
variable {X : Cx}
end
/-! ### the forms one uses -/
/-! ### dict comprehensions -/
section
variable {prog : Program} {w : World} {A : Around} {R : Result → Shared → Prop} {s : Shared}
end
section
variable {X : Cx} {pins : List (Addr × Obj)} {σ : St} {H H' : Hp} {s s' : Shared} {scope : Scope} {own : List Str} {js : List Nat} {C : Addr} {fp : List Addr}
end
section
variable {X : Cx} {scope : Scope} {own : List Str} {js : List Nat} {kx vx iter target : Expr} {ifs : List Expr} {wi : TI} {g : TG} {tt : TT} {tk tv : TE} {pos : Pos}
end
end L2

set_option Elab.async false
set_option linter.all false
set_option maxRecDepth 100000
set_option maxHeartbeats 4000000
namespace L2
open PySem PyProof.Rows
/-! ### sorting any number of things: runs and merges -/
/-- an order with the key of each thing -/
structure KO extends KeyOrd where
  ky : Keyed → α
namespace KO
variable {O : KO} {x y z : Keyed}
def le (O : KO) (x y : Keyed) : Prop := O.blt (O.ky y) (O.ky x) = false
abbrev Srt (O : KO) (l : List Keyed) : Prop := l.Pairwise O.le
end KO
section
variable {prog : Program} {w : World} {A : Around} {E : Value → Shared → Prop} {s : Shared} {O : KO} {knd : SortKind} {ok : Keyed → Prop} {st : SortSt}
/-- the comparison tells the order, and changes nothing -/
def Asks (prog : Program) (w : World) (A : Around) (s : Shared) (O : KO) (knd : SortKind) (ok : Keyed → Prop) : Prop :=
  ∀ x y, ok x → ok y → ∀ (E : Value → Shared → Prop) (Q : Bool → Shared → Prop), Q (O.blt (O.ky x) (O.ky y)) s → wpAny (model prog w) A (keyLt' knd x.1 y.1) Q E s
end
section
variable {O : KO} {a b out : List Keyed} {ia ib : Nat} {x : Keyed}
/-- what stands of a merge from the front: out is taken, a from ia on and b from ib on are left -/
structure MI (O : KO) (a b out : List Keyed) (ia ib : Nat) : Prop where
  perm : (out ++ (a.drop ia ++ b.drop ib)).Perm (a ++ b)
  srt : O.Srt out
  le : ∀ x ∈ out, ∀ y ∈ a.drop ia ++ b.drop ib, O.le x y
theorem take_snoc {l : List Keyed} {i k : Nat} {x : Keyed} (e : l[i + k]? = some x) : (l.drop i).take (k + 1) = (l.drop i).take k ++ [x] := by
  rw [List.take_succ, List.getElem?_drop, e]
  rfl
end
section
variable {prog : Program} {w : World} {A : Around} {E : Value → Shared → Prop} {s : Shared} {O : KO} {knd : SortKind} {ok : Keyed → Prop} {st : SortSt}
end
section
variable {O : KO} {a b out : List Keyed} {na nb : Nat} {x : Keyed}
/-- what stands of a merge from the end -/
structure MH (O : KO) (a b out : List Keyed) (na nb : Nat) : Prop where
  perm : (a.take na ++ b.take nb ++ out.reverse).Perm (a ++ b)
  srt : O.Srt out.reverse
  le : ∀ x ∈ a.take na ++ b.take nb, ∀ y ∈ out, O.le x y
end
section
variable {prog : Program} {w : World} {A : Around} {E : Value → Shared → Prop} {s : Shared} {O : KO} {knd : SortKind} {ok : Keyed → Prop} {st : SortSt}
/-! ### runs, wherever they begin -/
/-- the things are those of b₀, and below lo they stand as there -/
structure FB (knd : SortKind) (b₀ : Array Keyed) (p₀ : Array (Nat × Nat × Nat)) (lo : Nat) (st : SortSt) : Prop where
  perm : (arrOf st).Perm b₀
  keep : ∀ i, i < lo → (arrOf st)[i]? = b₀[i]?
  kind : kindOf st = knd
  failed : failedOf st = none
  pend : pendingOf st = p₀
section
variable {b₀ : Array Keyed} {p₀ : Array (Nat × Nat × Nat)} {lo : Nat}
end
end
end L2

set_option Elab.async false
set_option linter.all false
set_option maxRecDepth 100000
set_option maxHeartbeats 4000000
namespace L2
open PySem PyProof.Rows
section
variable {prog : Program} {w : World} {A : Around} {E : Value → Shared → Prop} {s : Shared} {O : KO} {knd : SortKind} {ok : Keyed → Prop} {st : SortSt} {b₀ : Array Keyed} {p₀ : Array (Nat × Nat × Nat)} {lo : Nat}
/-! ### the runs that wait -/
def pos : Nat → List (List Keyed) → List (Nat × Nat)
  | _, [] => []
  | o, r :: rs => (o, r.length) :: pos (o + r.length) rs
def pr (p : Nat × Nat × Nat) : Nat × Nat := (p.1, p.2.1)
/-- runs that stand one behind the other, each sorted, and the rest -/
structure RI (O : KO) (knd : SortKind) (a₀ : List Keyed) (runs : List (List Keyed)) (rest : List Keyed) (st : SortSt) : Prop where
  arr : (arrOf st).toList = runs.flatten ++ rest
  perm : (arrOf st).toList.Perm a₀
  srt : ∀ r ∈ runs, O.Srt r
  ne : ∀ r ∈ runs, 1 ≤ r.length
  kind : kindOf st = knd
  failed : failedOf st = none
  pend : (pendingOf st).toList.map pr = pos 0 runs
end
end L2

set_option Elab.async false
set_option linter.all false
set_option maxRecDepth 100000
set_option maxHeartbeats 4000000
namespace L2
open PySem PyProof.Rows
section
variable {prog : Program} {w : World} {A : Around} {E : Value → Shared → Prop} {s : Shared} {O : KO} {knd : SortKind} {ok : Keyed → Prop} {st τ : SortSt}
end
end L2

set_option Elab.async false
set_option linter.all false
set_option maxRecDepth 100000
set_option maxHeartbeats 4000000
namespace L2
open PySem PySem.Spec PyProof.Rows PySem.SeqAt
section
variable {prog : Program} {w : World} {A : Around} {E : Value → Shared → Prop} {s : Shared}
end
section
variable {X : Cx}
end
/-- a comprehension over enumerate of a list or tuple that the block leaves as it is -/
theorem comp_enumB {b : Bool} {K : PySem.W.Frag} {own : List Str} {js : List Nat} {g : TG} {tt : TT} {te : TE} {σ : St} {H1 : Hp} {Q : VK} {a : Addr} {xs : List V} (Pv : Addr → Nat → Hp → Prop) (h0 : ∀ acc, H1 acc = none → Pv acc 0 (upd H1 acc (.lst []))) (hl : ∀ acc i H, H1 acc = none → i ≤ xs.length → Pv acc i H → SqB b K H a xs)
    (hs : ∀ acc i x p H, H1 acc = none → xs[i]? = some x → Pv acc i H → H p = none → g (.ref p) (blkσ own js σ) (upd H p (.tup [.int i, x])) fun τ H4 => tt τ H4 fun c H5 =>
      if c = true then te τ H5 fun y H6 => ∃ ys, H6 acc = some (.lst ys) ∧ ys.length < sizeLine ∧ (i + 1 ≤ xs.length ∧ Pv acc (i + 1) (upd H6 acc (.lst (ys ++ [y])))) else (i + 1 ≤ xs.length ∧ Pv acc (i + 1) H5))
    (hd : ∀ acc H, H1 acc = none → Pv acc xs.length H → Q (.ref acc) H) : tCompW own js g tt te σ (IteB b K a) H1 Q := by
  intro acc hacc
  refine ⟨fun i H => i ≤ xs.length ∧ Pv acc i H, xs.length, ⟨Nat.zero_le _, h0 acc hacc⟩, ?_⟩
  rintro i H ⟨hi, p⟩
  have q := hl acc i H hacc hi p
  by_cases hlt : i < xs.length
  · refine .inr ⟨hlt, by cases b <;> exact ⟨xs, xs[i], q, by simp [hlt]⟩, fun x H' y => ?_⟩
    have y : ∃ pa z, H pa = none ∧ x = .ref pa ∧ H' = upd H pa (.tup [.int i, z]) ∧ xs[i]? = some z := by
      cases b with
      | true => obtain ⟨pa, z, hp, e1, e2, y⟩ := y; exact ⟨pa, z, hp, e1, e2, y xs q⟩
      | false => obtain ⟨pa, z, hp, e1, e2, y⟩ := y; exact ⟨pa, z, hp, e1, e2, y xs q⟩
    obtain ⟨pa, z, hp, e1, e2, y'⟩ := y
    subst e1 e2
    exact hs acc i z pa H hacc y' p hp
  · have e : i = xs.length := by omega
    subst e
    exact .inl ⟨by cases b <;> exact ⟨xs, q, Nat.le_refl _⟩, hd acc H hacc p⟩
end L2

set_option Elab.async false
set_option linter.all false
set_option maxRecDepth 100000
set_option maxHeartbeats 4000000
namespace L2
open PySem PyProof.Rows
section
variable {prog : Program} {w : World} {A : Around} {E : Value → Shared → Prop} {s : Shared} {O : KO} {knd : SortKind} {ok : Keyed → Prop}
/-- what sorted asks of its items, in any heap that has all that is here -/
structure Sortable (prog : Program) (w : World) (s : Shared) (O : KO) (vs : List Value) : Prop where
  ex : ∃ (knd : SortKind) (ok : Keyed → Prop), (∀ v ∈ vs, ok (v, v)) ∧ (∀ A h', (∀ b o, s.heap.get? b = some o → h'.get? b = some o) → Asks prog w A { s with heap := h' } O knd ok) ∧
    ∀ (A : Around) (E : Value → Shared → Prop) h', (∀ b o, s.heap.get? b = some o → h'.get? b = some o) → 2 ≤ vs.length → ∀ Q : SortKind → Shared → Prop, Q knd { s with heap := h' } → wpAny (model prog w) A (keyKind' vs.toArray) Q E { s with heap := h' }
/-! ### ints -/
/-! ### tuples of ints -/
end
end L2

set_option Elab.async false
set_option linter.all false
set_option maxRecDepth 100000
set_option maxHeartbeats 4000000
namespace L2
open PySem PySem.Spec PyProof.Rows PySem.SeqAt
section
variable {X : Cx}
end
end L2

set_option Elab.async false
set_option linter.all false
set_option maxRecDepth 100000
set_option maxHeartbeats 4000000
namespace L2
open PySem PySem.Spec PyProof.Rows PySem.SeqAt
section
variable {prog : Program} {w : World} {A : Around} {E : Value → Shared → Prop} {s : Shared} {O : KO}
end
section
variable {X : Cx} {pins : List (Addr × Obj)} {σ : St} {H : Hp} {s : Shared} {h' : Heap}
end
section
variable {X : Cx}
end
end L2

set_option Elab.async false
set_option linter.all false
set_option maxRecDepth 100000
set_option maxHeartbeats 4000000
namespace L2
open PySem PySem.Spec PyProof.Rows
/-! ### a closed word for expressions -/
structure WE (X : Cx) (e : Expr) (t : TE) : Prop where
  out : PE X e t
section
variable {X : Cx} {a b e k v : Expr} {ta tb te tk tv : TE} {pos : Pos} {es : List Expr} {t : TA}
theorem we (h : PE X e te) : WE X e te := ⟨h⟩
theorem we_ix {r : R2} (hr : IxR X r) (ha : WE X a ta) (hb : WE X b tb) (hs : PlainIx b) : WE X (.Subscript a b pos) (tOp r ta tb) := ⟨pe_ix hr ha.out hb.out hs⟩
theorem we_lst (h : WA X es t) : WE X (.List es pos) (tLst t) := ⟨pe_lst h.out⟩
theorem we_tup {x1} (h : WA X es t) : WE X (.Tuple es x1 pos) (tTup t) := ⟨pe_tup h.out⟩
theorem wa_consE (hn : notStarW e = true) (ha : WE X e te) (hr : WA X es t) : WA X (e :: es) (tCons te t) := ⟨pa_cons ha.out hr.out (star_consW hn)⟩
theorem ws_ret (he : WE X e te) : WS X (.Return (some e) pos) (tRet te) := ⟨ps_ret he.out⟩
theorem ws_set {i : Nat} {x : Str} {pos' : Pos} (hN : X.N.Nodup) (hi : X.N[i]? = some x) (hx : Loc X.env.scope x) (he : WE X e te) (hs : swapsWith e (some (.Name x pos')) pos.line X.env = pure false := by rfl) (hf : X.fn x = true ∨ X.env.scope.names.lookup x = some .local := by first | exact .inl rfl | exact .inr rfl | assumption) :
    WS X (.Assign [.Name x pos'] e pos) (tAsg te (gName i)) := ⟨ps_set hN hi hx he.out hs hf⟩
end
end L2

set_option Elab.async false
set_option linter.all false
set_option maxRecDepth 100000
set_option maxHeartbeats 4000000
namespace Lv
open PySem L2
/-! ### dicts of counts -/
open Classical in
/-! ### the pairs in order -/
/-! ### how often a number stands in a row -/
end Lv

set_option Elab.async false
set_option linter.all false
set_option maxRecDepth 100000
set_option maxHeartbeats 4000000
namespace L2
open PySem PySem.Spec PyProof.Rows
/-! ### what a thing reads as: leaves, lists and tuples -/
mutual
inductive RdN (H : Hp) : V → PyData → Prop
  | non : RdN H .non .none
  | bl (b : Bool) : RdN H (.bl b) (.bool b)
  | int (i : Int) : RdN H (.int i) (.int i)
  | str (x : Str) : RdN H (.str x) (.str x)
  | lst {a : Addr} {xs : List V} {ds : List PyData} : H a = some (.lst xs) → RdL H xs ds → RdN H (.ref a) (.list ds)
  | tup {a : Addr} {xs : List V} {ds : List PyData} : H a = some (.tup xs) → RdL H xs ds → RdN H (.ref a) (.tuple ds)
inductive RdL (H : Hp) : List V → List PyData → Prop
  | nil : RdL H [] []
  | cons {x : V} {xs : List V} {d : PyData} {ds : List PyData} : RdN H x d → RdL H xs ds → RdL H (x :: xs) (d :: ds)
end
section
variable {P : Program} {w : World} {H : Hp} {h : Heap}
end
section
variable {X : Cx}
end
end L2

set_option Elab.async false
set_option linter.all false
set_option maxRecDepth 100000
set_option maxHeartbeats 4000000
namespace L2
open PySem PySem.Spec PyProof.Rows PySem.SeqAt
/-! ### things that read alike are alike -/
section
variable {P : Program} {w : World} {H : Hp} {s : Shared}
theorem RdL.len_eq : ∀ {xs ys : List V} {ds : List PyData}, RdL H xs ds → RdL H ys ds → xs.length = ys.length
  | _, _, _, .nil, r => by cases r; rfl
  | _, _, _, .cons _ q, r => by
    cases r with
    | cons _ q2 => rw [List.length_cons, List.length_cons, RdL.len_eq q q2]
mutual
theorem RdN.eqs (ok : HOk P w H s.heap) : ∀ {x : V} {d : PyData}, RdN H x d → ∀ {y : V}, RdN H y d → ∀ {u v : Value}, RelV x u → RelV y v → ∀ A : Around, A.units + d.depth < cLine → EqAt A s u v true
  | _, _, .non, y, r, u, v, h1, h2, A, hu => by
    cases r
    cases (show u = Value.none from h1); cases (show v = Value.none from h2)
    exact EqAt.same _
  | _, _, .bl b, y, r, u, v, h1, h2, A, hu => by
    cases r
    cases (show u = Value.bool b from h1); cases (show v = Value.bool b from h2)
    exact EqAt.same _
  | _, _, .int i, y, r, u, v, h1, h2, A, hu => by
    cases r
    obtain ⟨t, z⟩ := (show ∃ t, u = Value.int i t from h1); cases z
    obtain ⟨t2, z⟩ := (show ∃ t, v = Value.int i t from h2); cases z
    have := EqAt.int_int (A := A) (s := s) i t i t2
    rw [beq_self_eq_true] at this
    exact this
  | _, _, .str x, y, r, u, v, h1, h2, A, hu => by
    cases r
    obtain ⟨t, z⟩ := (show ∃ t, u = Value.str x t from h1); cases z
    obtain ⟨t2, z⟩ := (show ∃ t, v = Value.str x t from h2); cases z
    have := EqAt.str_str (A := A) (s := s) x t x t2
    rw [show (x == x) = true from by rw [← str_beq]; exact beq_self_eq_true _] at this
    exact this
  | _, _, .lst (a := a) (xs := xs) (ds := ds) e q, y, r, u, v, h1, h2, A, hu => by
    cases r with
    | lst e2 q2 =>
      rename_i b ys
      cases (show u = Value.ref a from h1); cases (show v = Value.ref b from h2)
      by_cases hab : a = b
      · subst hab; exact EqAt.same _
      obtain ⟨_, i1, n1, v1, g1⟩ := (show ObjOk P w H s.heap a (.lst xs) from ok a _ e)
      obtain ⟨_, i2, n2, v2, g2⟩ := (show ObjOk P w H s.heap b (.lst ys) from ok b _ e2)
      have hd : A.units + (PyData.depthAll ds + 1) < cLine := hu
      have hl := q.len_eq q2
      refine EqAt.of_refs hab ?_
      have := RcAt.lists (A := A) (s := s) (e := fun _ => true) (l := a) (b := b) (items := i1.toArray) (items2 := i2.toArray) ⟨_, g1, rfl, n1, rfl⟩ ⟨_, g2, rfl, n2, rfl⟩ (by rw [List.size_toArray, List.size_toArray, ← v1.length, ← v2.length, hl]) (by omega) (fun j h1 h2 => by
        have := RdL.eqs ok q q2 v1 v2 A.in1 (by show A.units + 1 + _ < _; omega) j (by simpa using h1) (by simpa using h2)
        simpa using this)
      rw [all_range] at this
      exact this
  | _, _, .tup (a := a) (xs := xs) (ds := ds) e q, y, r, u, v, h1, h2, A, hu => by
    cases r with
    | tup e2 q2 =>
      rename_i b ys
      cases (show u = Value.ref a from h1); cases (show v = Value.ref b from h2)
      by_cases hab : a = b
      · subst hab; exact EqAt.same _
      obtain ⟨_, i1, v1, o1, g1, c1, _, n1, k1⟩ := (show ObjOk P w H s.heap a (.tup xs) from ok a _ e)
      obtain ⟨_, i2, v2, o2, g2, c2, _, n2, k2⟩ := (show ObjOk P w H s.heap b (.tup ys) from ok b _ e2)
      have hd : A.units + (PyData.depthAll ds + 1) < cLine := hu
      have hl := q.len_eq q2
      refine EqAt.of_refs hab ?_
      have := RcAt.tuples (A := A) (s := s) (e := fun _ => true) (l := a) (b := b) (items := i1.toArray) (items2 := i2.toArray) ⟨o1, g1, c1, n1, k1⟩ ⟨o2, g2, c2, n2, k2⟩ (by omega) (fun j h1 h2 => by
        have := RdL.eqs ok q q2 v1 v2 A.in1 (by show A.units + 1 + _ < _; omega) j (by simpa using h1) (by simpa using h2)
        simpa using this)
      rw [all_range, List.size_toArray, List.size_toArray, ← v1.length, ← v2.length, hl, beq_self_eq_true] at this
      exact this
theorem RdL.eqs (ok : HOk P w H s.heap) : ∀ {xs : List V} {ds : List PyData}, RdL H xs ds → ∀ {ys : List V}, RdL H ys ds → ∀ {us vs : List Value}, Vals xs us → Vals ys vs → ∀ A : Around, A.units + PyData.depthAll ds < cLine → ∀ (j : Nat) (h1 : j < us.length) (h2 : j < vs.length), EqAt A s us[j] vs[j] true
  | _, _, .nil, ys, r, us, vs, v1, v2, A, hu, j, h1, h2 => by
    cases v1
    exact absurd h1 (Nat.not_lt_zero _)
  | _, _, .cons (d := d) (ds := ds) p q, ys, r, us, vs, v1, v2, A, hu, j, h1, h2 => by
    cases r with
    | cons p2 q2 =>
      cases v1 with
      | cons a1 b1 =>
        cases v2 with
        | cons a2 b2 =>
          have hm : PyData.depthAll (d :: ds) = max d.depth (PyData.depthAll ds) := by rw [PyData.depthAll]
          rw [hm] at hu
          cases j with
          | zero => exact RdN.eqs ok p p2 a1 a2 A (by omega)
          | succ j => exact RdL.eqs ok q q2 b1 b2 A (by omega) j (by simpa using h1) (by simpa using h2)
end
end
def rNeR : R2 := fun x y H Q => ∃ (a b : Addr) (d : PyData), x = .ref a ∧ y = .ref b ∧ RdN H (.ref a) d ∧ RdN H (.ref b) d ∧ d.depth ≤ 10 ∧ Q (.bl false) H
section
variable {X : Cx}
theorem rd_els {P : Program} {w : World} {H : Hp} {s : Shared} {A : Around} {xs ys : List V} {ds : List PyData} {i1 i2 : List Value} (ok : HOk P w H s.heap) (q : RdL H xs ds) (q2 : RdL H ys ds) (v1 : Vals xs i1) (v2 : Vals ys i2) (hu : A.units + 1 + PyData.depthAll ds < cLine) :
    ∀ j (h1 : j < i1.toArray.size) (h2 : j < i2.toArray.size), EqAt A.in1 s i1.toArray[j] i2.toArray[j] true := fun j h1 h2 => by
  have := RdL.eqs ok q q2 v1 v2 A.in1 (by show A.units + 1 + _ < _; omega) j (by simpa using h1) (by simpa using h2)
  simpa using this
theorem op_neR (hu : X.A.units + 12 < cLine) : OpR X (compareOp .NotEq) rNeR := by
  intro pins s σ H x y v u Q I rx ry h
  obtain ⟨a, b, d, rfl, rfl, r1, r2, hd, q⟩ := h
  cases rx
  cases ry
  cases r1 with
  | lst e p =>
    rename_i xs ds
    cases r2 with
    | lst e2 p2 =>
      rename_i ys
      obtain ⟨_, i1, n1, v1, g1⟩ := (show ObjOk X.prog X.w H s.heap a (.lst xs) from I.hok a _ e)
      obtain ⟨_, i2, n2, v2, g2⟩ := (show ObjOk X.prog X.w H s.heap b (.lst ys) from I.hok b _ e2)
      have hd' : PyData.depthAll ds + 1 ≤ 10 := hd
      refine RcNeAt.lists (e := fun _ => true) (items := i1.toArray) (items2 := i2.toArray) ⟨_, g1, rfl, n1, rfl⟩ ⟨_, g2, rfl, n2, rfl⟩ (by rw [List.size_toArray, List.size_toArray, ← v1.length, ← v2.length, p.len_eq p2]) (by omega) (rd_els I.hok p p2 v1 v2 (by omega)) _ _ _ _ ?_
      rw [all_range]
      exact ⟨.bl false, H, I, rfl, q⟩
  | tup e p =>
    rename_i xs ds
    cases r2 with
    | tup e2 p2 =>
      rename_i ys
      obtain ⟨_, i1, v1, o1, g1, c1, _, n1, k1⟩ := (show ObjOk X.prog X.w H s.heap a (.tup xs) from I.hok a _ e)
      obtain ⟨_, i2, v2, o2, g2, c2, _, n2, k2⟩ := (show ObjOk X.prog X.w H s.heap b (.tup ys) from I.hok b _ e2)
      have hd' : PyData.depthAll ds + 1 ≤ 10 := hd
      refine RcNeAt.tuples (e := fun _ => true) (items := i1.toArray) (items2 := i2.toArray) ⟨o1, g1, c1, n1, k1⟩ ⟨o2, g2, c2, n2, k2⟩ (by omega) (rd_els I.hok p p2 v1 v2 (by omega)) _ _ _ _ ?_
      rw [all_range, List.size_toArray, List.size_toArray, ← v1.length, ← v2.length, p.len_eq p2, beq_self_eq_true]
      exact ⟨.bl false, H, I, rfl, q⟩
end
end L2

set_option Elab.async false
set_option linter.all false
set_option maxRecDepth 100000
set_option maxHeartbeats 4000000
namespace L2
open PySem PySem.Spec PyProof.Rows
section
variable {X : Cx}
end
end L2

set_option Elab.async false
set_option linter.all false
set_option maxRecDepth 100000
set_option maxHeartbeats 4000000
namespace Lv
open PySem L2
/-! ### numbers on a reel of a level -/
/-! ### what a spread tells -/
end Lv

set_option Elab.async false
set_option linter.all false
set_option maxRecDepth 100000
set_option maxHeartbeats 4000000
namespace L2
open PySem
end L2
namespace Lv
open PySem L2
/-- g 1 + .. + g k -/
def sm (g : Nat → Int) : Nat → Int
  | 0 => 0
  | k + 1 => sm g k + g (k + 1)
end Lv

set_option Elab.async false
set_option linter.all false
set_option maxRecDepth 100000
set_option maxHeartbeats 4000000
namespace L2
open PySem PySem.Spec PyProof.Rows PySem.SeqAt
/-! ### isinstance(x, (T, ..)) -/
inductive TyS (H : Hp) : V → Value → Prop
  | int (i : Int) : TyS H (.int i) (.type "int")
  | bl (b : Bool) : TyS H (.bl b) (.type "bool")
  | lst {a : Addr} {xs : List V} (e : H a = some (.lst xs)) : TyS H (.ref a) (.type "list")
  | tup {a : Addr} {xs : List V} (e : H a = some (.tup xs)) : TyS H (.ref a) (.type "tuple")
section
variable {X : Cx}
end
end L2

set_option Elab.async false
set_option linter.all false
set_option maxRecDepth 100000
set_option maxHeartbeats 4000000
namespace HT
open PySem PySem.Spec PyProof.Rows
section
variable {prog : Program} {w : World} {A : Around} {E : Value → Shared → Prop} {s : Shared}
end
end HT

namespace L2
open PySem PySem.Spec PyProof.Rows PySem.SeqAt
inductive TyA (H : Hp) : V → String → Prop
  | non : TyA H .non "NoneType"
  | int (i : Int) : TyA H (.int i) "int"
  | bl (b : Bool) : TyA H (.bl b) "bool"
  | str (x : Str) : TyA H (.str x) "str"
  | lst {a : Addr} {xs : List V} (e : H a = some (.lst xs)) : TyA H (.ref a) "list"
  | tup {a : Addr} {xs : List V} (e : H a = some (.tup xs)) : TyA H (.ref a) "tuple"
  | dK {a : Addr} {kvs : List (Key × V)} (e : H a = some (.dK kvs)) : TyA H (.ref a) "dict"
section
variable {X : Cx}
end
end L2

set_option Elab.async false
set_option linter.all false
set_option maxRecDepth 100000
set_option maxHeartbeats 4000000
namespace Lv
open PySem L2 PySem.W
/-! ### the text's own exceptions -/
def excTab (K : Frag) (reel C : Addr) (all : List Addr) : Bool := excAll K C && (exmOne K (.ref C) (.ref reel) == some true && (kitOne K (.ref C) (.ref reel) == some true && (kitOne K (.ref C) (.type "ValueError") == some true && all.all fun D => kitOne K (.ref C) (.ref D) == some (D == C))))
structure ExcTab (K : Frag) (reel C : Addr) (all : List Addr) : Prop where
  ok : excAll K C = true
  exm : exmOne K (.ref C) (.ref reel) = some true
  isR : kitOne K (.ref C) (.ref reel) = some true
  isV : kitOne K (.ref C) (.type "ValueError") = some true
  one : ∀ D ∈ all, kitOne K (.ref C) (.ref D) = some (D == C)
theorem ExcTab.of {K : Frag} {reel C : Addr} {all : List Addr} (h : excTab K reel C all = true) : ExcTab K reel C all := by
  simp only [excTab, Bool.and_eq_true, beq_iff_eq, List.all_eq_true] at h
  exact ⟨h.1, h.2.1, h.2.2.1, h.2.2.2.1, h.2.2.2.2⟩
theorem ExcTab.any {K : Frag} {reel C : Addr} {all : List Addr} (h : ExcTab K reel C all) : ∀ {cs : List Addr}, (∀ D ∈ cs, D ∈ all) → kitAny K (.ref C) (cs.map Value.ref) = some (cs.any (· == C))
  | [], _ => rfl
  | D :: cs, hs => by
    have h1 := h.one D (hs D List.mem_cons_self)
    rw [List.map_cons, kitAny, h1, List.any_cons]
    cases e : (D == C) with
    | true => rfl
    | false => exact h.any fun E hE => hs E (List.mem_cons_of_mem _ hE)
/-- the classes: their places and names -/
structure Excs (K : Frag) (mg : Str → Option Value) where
  reel : Addr
  nWays : Addr
  nRoom : Addr
  nLevel : Addr
  nStand : Addr
  tMany : Addr
  tFew : Addr
  nPlace : Addr
  nText : Addr
  nLine : Addr
  nBack : Addr
  nPhase : Addr
  clash : Addr
  mReel : mg "ReelError" = some (.ref reel)
  mWays : mg "NoWays" = some (.ref nWays)
  mRoom : mg "NoRoom" = some (.ref nRoom)
  mLevel : mg "NoLevel" = some (.ref nLevel)
  mStand : mg "NoStanding" = some (.ref nStand)
  mMany : mg "TooMany" = some (.ref tMany)
  mFew : mg "TooFew" = some (.ref tFew)
  mPlace : mg "NoPlace" = some (.ref nPlace)
  mText : mg "NoText" = some (.ref nText)
  mLine : mg "NoLine" = some (.ref nLine)
  mBack : mg "NoBack" = some (.ref nBack)
  mPhase : mg "NoPhase" = some (.ref nPhase)
  mClash : mg "Clash" = some (.ref clash)
  nd : ([nWays, nRoom, nLevel, nStand, tMany, tFew, nPlace, nText, nLine, nBack, nPhase, clash] : List Addr).Nodup
def Excs.all {K : Frag} {mg : Str → Option Value} (X : Excs K mg) : List Addr := [X.nWays, X.nRoom, X.nLevel, X.nStand, X.tMany, X.tFew, X.nPlace, X.nText, X.nLine, X.nBack, X.nPhase, X.clash]
theorem b_ValueError : bootBuiltins "ValueError" = some (.type "ValueError") := by decide +kernel
/-! ### any thing -/
def anT : List String := ["NoneType", "bool", "int", "str", "list", "tuple", "dict"]
theorem kit_an_int {K : PySem.W.Frag} {T : String} (h : T ∈ anT) : PySem.W.kitOne K (.type T) (.type "int") = some (decide (T = "int") || decide (T = "bool")) := by
  simp only [anT, List.mem_cons, List.not_mem_nil, or_false] at h
  rcases h with rfl | rfl | rfl | rfl | rfl | rfl | rfl
  all_goals with_unfolding_all rfl
theorem kit_an_bool {K : PySem.W.Frag} {T : String} (h : T ∈ anT) : PySem.W.kitOne K (.type T) (.type "bool") = some (decide (T = "bool")) := by
  simp only [anT, List.mem_cons, List.not_mem_nil, or_false] at h
  rcases h with rfl | rfl | rfl | rfl | rfl | rfl | rfl
  all_goals with_unfolding_all rfl
/-- a thing and its type -/
structure Thing (K : Frag) (H : Hp) (v : V) (T : String) : Prop where
  ty : TyOf K H v (.type T)
  mem : T ∈ anT
theorem Thing.same {K : Frag} {H H' : Hp} {v : V} {T : String} (h : Thing K H v T) (s : Same H H') : Thing K H' v T := by
  obtain ⟨ty, m⟩ := h
  refine ⟨?_, m⟩
  generalize hv : Value.type T = t at ty
  cases ty with
  | non => exact .non
  | bl x => exact .bl x
  | int i => exact .int i
  | str x => exact .str x
  | flt x => exact .flt x
  | lst e => exact .lst (s _ _ e)
  | frz e => exact .frz (s _ _ e)
  | tup e => exact .tup (s _ _ e)
  | dK e => exact .dK (s _ _ e)
  | dT e => exact .dT (s _ _ e)
  | ins e => cases hv
/-- True just of whole numbers -/
def spWholeA (K : Frag) : Sp := fun vs H Q _ => ∃ (x : V) (T : String), vs = [x] ∧ Thing K H x T ∧ Q (.bl (decide (T = "int"))) H
/-- no whole number from lo to hi -/
def NotIn (lo hi : Int) (v : V) (T : String) : Prop := T ≠ "int" ∨ ∃ i, v = .int i ∧ ¬ (lo ≤ i ∧ i ≤ hi)
/-- refused with the class at C where the thing is no whole number from lo to hi -/
def spChkE (K : Frag) (lo hi : Int) (C : Addr) : Sp := fun vs H Q E => ∃ (v : V) (T : String), vs = [v] ∧ Thing K H v T ∧ ((∃ i, v = .int i ∧ lo ≤ i ∧ i ≤ hi ∧ Q .non H) ∨ (NotIn lo hi v T ∧ E (.ref C) none H))
theorem FnOk.or {P : Program} {w : World} {K : Frag} {mg : Str → Option Value} {base : Heap} {CX : CXT} {k : Nat} {f : Addr} {fd : FuncData} {ps : List Str} {sp sp' : Sp} (F : FnOk P w K mg base CX k f fd ps sp) (F' : FnOk P w K mg base CX k f fd ps sp') :
    FnOk P w K mg base CX k f fd ps (fun vs H Q E => sp vs H Q E ∨ sp' vs H Q E) :=
  ⟨fun vs H Q E h => h.elim (F.len vs H Q E) (F'.len vs H Q E), fun A outer s H args us vs Q E hr he hb hv h => h.elim (F.run A outer s H args us vs Q E hr he hb hv) (F'.run A outer s H args us vs Q E hr he hb hv)⟩
end Lv
namespace Lv
open PySem L2 PySem.W
theorem Thing.ty_int {K : Frag} {H : Hp} {i : Int} {T : String} (h : Thing K H (.int i) T) : T = "int" := by
  obtain ⟨ty, m⟩ := h
  cases ty
  rfl
end Lv
namespace Lv
open PySem L2 PySem.W
theorem ExcTab.none {K : Frag} {reel C : Addr} {all cs : List Addr} (h : ExcTab K reel C all) (hs : ∀ D ∈ cs, D ∈ all) (hn : ∀ D ∈ cs, D ≠ C) : kitAny K (.ref C) (cs.map Value.ref) = some false := by
  rw [h.any hs]
  congr 1
  rw [List.any_eq_false]
  intro D hD z
  exact hn D hD (beq_iff_eq.mp z)
theorem ExcTab.no {K : Frag} {reel C D : Addr} {all : List Addr} (h : ExcTab K reel C all) (hs : D ∈ all) (hn : D ≠ C) : kitOne K (.ref C) (.ref D) = some false := by
  rw [h.one D hs]
  congr 1
  exact beq_eq_false_iff_ne.mpr hn
theorem ExcTab.yes {K : Frag} {reel C : Addr} {all : List Addr} (h : ExcTab K reel C all) (hs : C ∈ all) : kitOne K (.ref C) (.ref C) = some true := by
  rw [h.one C hs]
  congr 1
  exact beq_self_eq_true C
/-- all twelve are unlike -/
theorem Excs.far {K : Frag} {mg : Str → Option Value} (X : Excs K mg) : ∀ i j : Nat, i < 12 → j < 12 → i ≠ j → X.all.getD i 0 ≠ X.all.getD j 0 := by
  intro i j hi hj hne z
  have h12 : X.all.length = 12 := rfl
  rw [List.getD_eq_getElem?_getD, List.getD_eq_getElem?_getD, List.getElem?_eq_getElem (by omega), List.getElem?_eq_getElem (by omega)] at z
  have nd : X.all.Nodup := X.nd
  exact hne ((List.getElem_inj nd).mp z)
end Lv
namespace Lv
open PySem L2 PySem.W
/-- a class of the text's own, as a value -/
theorem pe_gcls {X : Cx} {x : Str} {c : Addr} {pos : Pos} (hg : Gl X x) (hm : X.mg x = some (.ref c)) (hd : (x == ("__debug__" : Str)) = false := by decide) : PE X (.Name x pos) (tC (.ref c)) := pe_glob (v := .ref c) hg hm rfl hd
end Lv
namespace L2
open PySem PySem.Spec PyProof.Rows PySem.W
end L2
namespace Lv
open PySem L2 PySem.W
theorem Thing.sm {K : Frag} {H H' : Hp} {v : V} {T : String} {p : Addr} (h : Thing K H v T) (hne : ∀ q, v = .ref q → q ≠ p) (s : Sm p H H') : Thing K H' v T := by
  obtain ⟨ty, m⟩ := h
  refine ⟨?_, m⟩
  generalize hv : Value.type T = t at ty
  cases ty with
  | non => exact .non
  | bl x => exact .bl x
  | int i => exact .int i
  | str x => exact .str x
  | flt x => exact .flt x
  | lst e => exact .lst (s _ _ e (hne _ rfl))
  | frz e => exact .frz (s _ _ e (hne _ rfl))
  | tup e => exact .tup (s _ _ e (hne _ rfl))
  | dK e => exact .dK (s _ _ e (hne _ rfl))
  | dT e => exact .dT (s _ _ e (hne _ rfl))
  | ins e => cases hv
end Lv

set_option Elab.async false
set_option linter.all false
set_option maxRecDepth 100000
set_option maxHeartbeats 4000000
namespace Lv
open PySem L2 PySem.Spec PyProof.Rows
/-! ### the script's numbers are of 2 ** 20 bits at most -/
end Lv

set_option Elab.async false
set_option linter.all false
set_option maxRecDepth 100000
set_option maxHeartbeats 4000000
namespace L2
open PySem PySem.Spec PyProof.Rows PySem.SeqAt
section
variable {X : Cx}
end
end L2

set_option Elab.async false
set_option linter.all false
set_option maxRecDepth 100000
set_option maxHeartbeats 4000000
namespace L2
open PySem PySem.Spec PyProof.Rows PySem.SeqAt
section
variable {X : Cx}
end
end L2

set_option Elab.async false
set_option linter.all false
set_option maxRecDepth 100000
set_option maxHeartbeats 4000000
namespace L2
open PySem PySem.Spec PyProof.Rows PySem.SeqAt
/-! ### xs[::-1] of a list -/
section
variable {X : Cx} {e st : Expr} {te : TE} {ts : TO} {pos p2 : Pos}
end
end L2

set_option Elab.async false
set_option linter.all false
set_option maxRecDepth 100000
set_option maxHeartbeats 4000000
namespace Lv
open PySem L2
/-! ### rows laid as they come, in plain Lean -/
structure IsTop (d : List Int) (r : Nat) : Prop where
  lt : r < d.length
  ge : ∀ j (h : j < d.length), d[j] ≤ d[r]
  fst : ∀ j (h : j < r), d[j] < d[r]
end Lv

set_option Elab.async false
set_option linter.all false
set_option maxRecDepth 100000
set_option maxHeartbeats 4000000
namespace L2
open PySem PySem.Spec PyProof.Rows PySem.SeqAt
section
variable {X : Cx}
end
end L2

set_option Elab.async false
set_option linter.all false
set_option maxRecDepth 100000
set_option maxHeartbeats 4000000
namespace Lv
open PySem L2
end Lv

set_option Elab.async false
set_option linter.all false
set_option maxRecDepth 100000
set_option maxHeartbeats 4000000
namespace Lv
open PySem L2
end Lv

set_option Elab.async false
set_option linter.all false
set_option maxRecDepth 100000
set_option maxHeartbeats 4000000
namespace L2
open PySem PySem.Spec PyProof.Rows PySem.SeqAt
section
variable {X : Cx}
/-! ### methods of a tuple that is tracked (wants the patched layer: patch_tup.py) -/
def tBMT (r : V → List V → Hp → VK → Prop) (to : TE) (t : TA) : TE := fun σ H Q => to σ H fun x H1 => (∃ p xs, x = .ref p ∧ H1 p = some (.tup xs)) ∧ t σ H1 fun xs H2 => r x xs H2 Q
theorem pe_bmT {o e : Expr} {es : List Expr} {to : TE} {t : TA} {name : Str} {apos cpos : Pos} {id : String} {r : V → List V → Hp → VK → Prop} (slot : Slot "tuple" name id) (hty : typeOf (.builtin id) = pure (.type "method_descriptor")) (hm : MtR X id r) (ho : PE X o to) (ha : PA X (e :: es) t)
    (hbase : attributeBase o name X.env (eval o X.env) = eval o X.env := by rfl)
    (hfew : ((backTo cpos (starEach (e :: es) X.env)).all (fun x => !x.1) && (backToKw cpos (keywordEach [] X.env)).all (fun x => x.1.isSome) && decide ((e :: es).length + ([] : List Keyword).length + (if ([] : List Keyword).isEmpty then 0 else 1) < 30)) = true := by rfl)
    (hline : (apos.endLine == cpos.line) = true := by rfl) (hs : starEach (e :: es) X.env = (false, eval e X.env) :: starEach es X.env := by rfl) (hplain : (backTo cpos (starEach es X.env)).any (·.1) = false := by rfl) : PE X (.Call (.Attribute o name apos) (e :: es) [] cpos) (tBMT r to t) := by
  intro pins s σ H Q I h
  refine wpAny_Call_method_late hbase hfew hline rfl (thn (ho pins s σ H _ I h) fun v s1 ⟨x, H1, I1, r1, ⟨p, xs, ex, hp⟩, q1⟩ => ?_)
  subst ex
  cases r1
  obtain ⟨_, its, _, ob, h1, h2, h3, _⟩ := (show ObjOk X.prog X.w H1 s1.heap p (.tup xs) from I1.hok p _ hp)
  refine ⟨"tuple", id, F.plainAttrs_tuple, slot, hty, ⟨ob, h1, h2⟩, fun a e => ?_, ?_⟩
  · cases e
    exact ⟨ob, h1, h3⟩
  have hA := ha cpos pins s1 σ H1 _ I1 q1
  rw [hs] at hA ⊢
  refine Calls.callWith_builtin (by show (false || (backTo cpos (starEach es X.env)).any (·.1)) = false; rw [hplain] <;> rfl) (Calls.evalArgs_plain ?_)
  exact thn hA fun us s2 ⟨vs, H2, I2, r2, q2⟩ => hm pins s2 σ H2 (.ref p) vs (.ref p) us Q I2 rfl r2 q2
def isB (b : Bool) (y : Value) : Bool := match y with | .bool c => c == b | _ => false
theorem countP_bl (b : Bool) : ∀ {bs : List Bool} {its : List Value}, Vals (bs.map V.bl) its → its.countP (isB b) = bs.count b
  | [], _, r => by cases r; rfl
  | c :: bs, _, r => by
    cases r with
    | cons r1 r2 =>
      cases r1
      rw [List.countP_cons, List.count_cons, countP_bl b r2]
      rfl
/-- t.count(b) of a tuple of bools -/
theorem mt_countT : MtR X "tuple.count" (fun x vs H Q => ∃ (l : Addr) (bs : List Bool) (b : Bool), x = .ref l ∧ vs = [.bl b] ∧ H l = some (.tup (bs.map V.bl)) ∧ Q (.int (bs.count b : Nat)) H) := by
  intro pins s σ H x vs v us Q I rx rv h
  obtain ⟨l, bs, b, rfl, rfl, hq, q⟩ := h
  cases rx
  obtain ⟨u, rfl, ru⟩ := vals1 rv
  cases ru
  obtain ⟨_, its, r, ⟨cls, dd, data, sl⟩, ho, hc, hdn, n, hd⟩ := (show ObjOk X.prog X.w H s.heap l (.tup (bs.map V.bl)) from I.hok l _ hq)
  simp only at hc hd
  subst hc hd
  have ev : ∀ y ∈ its, ∃ c : Bool, y = .bool c := fun y hy => by
    obtain ⟨i, hi, rfl⟩ := List.getElem_of_mem hy
    have hi' : i < bs.length := by have := r.length; rw [List.length_map] at this; omega
    obtain ⟨u, hu, ru⟩ := r.get (x := V.bl bs[i]) (i := i) (by rw [List.getElem?_map, List.getElem?_eq_getElem hi']; rfl)
    cases ru
    rw [List.getElem?_eq_getElem hi] at hu
    exact ⟨_, Option.some.inj hu⟩
  have ec := countP_bl b r
  refine call_meets F.slot_tuple_count ⟨_, ho, rfl⟩ F.entry_tuple_count (F.args_tuple_count_2 _ _) (tuple_countAt l its.toArray n dd sl (.bool b) (isB b)) ⟨ho, fun y hy => ?_, ?_⟩
  · obtain ⟨c, rfl⟩ := ev y (by simpa using hy)
    exact EqAt.bool_bool c b
  · refine ⟨.int _, H, I.tok _, ⟨s.toks, ?_⟩, q⟩
    rw [← ec]
end
end L2

set_option Elab.async false
set_option linter.all false
set_option maxRecDepth 100000
set_option maxHeartbeats 4000000
namespace L2
open PySem PySem.Spec PyProof.Rows PySem.SeqAt
theorem bools_of {bs : List Bool} {its : List Value} (r : Vals (bs.map V.bl) its) : ∀ y ∈ its, ∃ c : Bool, y = .bool c := fun y hy => by
  obtain ⟨i, hi, rfl⟩ := List.getElem_of_mem hy
  have hi' : i < bs.length := by have := r.length; rw [List.length_map] at this; omega
  obtain ⟨u, hu, ru⟩ := r.get (x := V.bl bs[i]) (i := i) (by rw [List.getElem?_map, List.getElem?_eq_getElem hi']; rfl)
  cases ru
  rw [List.getElem?_eq_getElem hi] at hu
  exact ⟨_, Option.some.inj hu⟩
theorem isB_at (b : Bool) {bs : List Bool} {its : List Value} (r : Vals (bs.map V.bl) its) (j : Nat) (h1 : j < its.length) (h2 : j < bs.length) : isB b its[j] = (bs[j] == b) := by
  obtain ⟨u, hu, ru⟩ := r.get (x := V.bl bs[j]) (i := j) (by rw [List.getElem?_map, List.getElem?_eq_getElem h2]; rfl)
  cases ru
  rw [List.getElem?_eq_getElem h1] at hu
  rw [Option.some.inj hu]
  rfl
theorem idx_ne (b : Bool) : ∀ (l : List Bool) (j : Nat) (hj : j < l.length), j < l.idxOf b → (l[j] == b) = false
  | [], j, hj, _ => by simp at hj
  | a :: r, j, hj, hlt => by
    rw [List.idxOf_cons] at hlt
    cases ha : (a == b) with
    | true => rw [ha] at hlt; simp at hlt
    | false =>
      rw [ha] at hlt
      cases j with
      | zero => exact ha
      | succ j => exact idx_ne b r j (by simpa using hj) (by simpa using hlt)
section
variable {X : Cx}
/-- xs.count(b), xs.index(b) of a list of truths -/
theorem mt_countL : MtM X "list.count" (fun x vs H Q => ∃ (l : Addr) (bs : List Bool) (b : Bool), x = .ref l ∧ vs = [.bl b] ∧ SqL X.K H l (bs.map V.bl) ∧ Q (.int (bs.count b : Nat)) H) := by
  intro pins s σ H x vs v us Q I rx rv h
  obtain ⟨l, bs, b, rfl, rfl, hq, q⟩ := h
  cases rx
  obtain ⟨u, rfl, ru⟩ := rv.one
  cases ru
  obtain ⟨its, r, p, hz⟩ := I.list hq
  obtain ⟨⟨cls, dd, data, sl⟩, ho, hc, n, hd⟩ := p.isList
  simp only at hc hd
  subst hc hd
  have ec := countP_bl b r
  refine call_meets F.slot_list_count ⟨_, ho, rfl⟩ F.entry_list_count (F.args_list_count_2 _ _) (list_countAt l its.toArray n dd sl (.bool b) (isB b)) ⟨ho, fun y hy => ?_, ?_⟩
  · obtain ⟨c, rfl⟩ := bools_of r y (by simpa using hy)
    exact EqAt.bool_bool c b
  · refine ⟨.int _, H, I.tok _, ⟨s.toks, ?_⟩, q⟩
    rw [← ec]
theorem mt_indexB : MtM X "list.index" (fun x vs H Q => ∃ (l : Addr) (bs : List Bool) (b : Bool), x = .ref l ∧ vs = [.bl b] ∧ SqL X.K H l (bs.map V.bl) ∧ b ∈ bs ∧ Q (.int (bs.idxOf b : Nat)) H) := by
  intro pins s σ H x vs v us Q I rx rv h
  obtain ⟨l, bs, b, rfl, rfl, hq, hi, q⟩ := h
  cases rx
  obtain ⟨u, rfl, ru⟩ := rv.one
  cases ru
  obtain ⟨its, r, p, hz⟩ := I.list hq
  obtain ⟨⟨cls, dd, data, sl⟩, ho, hc, n, hd⟩ := p.isList
  simp only at hc hd
  subst hc hd
  have hlen : its.length = bs.length := by rw [← r.length, List.length_map]
  have hj : bs.idxOf b < bs.length := List.idxOf_lt_length_iff.mpr hi
  have hb : bs.length ≤ 16777216 := by rw [List.length_map] at hz; exact hz
  refine call_meets F.slot_list_index ⟨_, ho, rfl⟩ F.entry_list_index (F.args_list_index_2 _ _) (list_indexAt l its.toArray n dd sl (.bool b) (isB b) (bs.idxOf b) (by simpa [hlen] using hj) (by omega) ?_ ?_) ⟨ho, fun y hy => ?_, ⟨.int _, H, I.tok _, ⟨s.toks, rfl⟩, q⟩⟩
  · show isB b its[bs.idxOf b] = true
    rw [isB_at b r _ (by omega) hj]
    simpa using List.getElem_idxOf hj
  · intro j hjs hlt
    show isB b its[j] = false
    have hjs' : j < its.length := by simpa using hjs
    rw [isB_at b r j hjs' (by omega)]
    exact idx_ne b bs j _ hlt
  · obtain ⟨c, rfl⟩ := bools_of r y (by simpa using hy)
    exact EqAt.bool_bool c b
end
end L2

set_option Elab.async false
set_option linter.all false
namespace L2
open PySem PySem.Spec PyProof.Rows PySem.SeqAt
end L2

set_option Elab.async false
set_option linter.all false
set_option maxRecDepth 100000
set_option maxHeartbeats 4000000
namespace L2
open PySem PySem.Spec PyProof.Rows PySem.W
/-! ### defs that may be called in the suite of an except: nothing is known of what is handled -/
structure RoomS (k : Nat) (A : Around) : Prop where
  dp : A.depth + 3 * k + 5 < recursionLimit
  un : A.units + 16 * k + 200 < cLine
  gd : A.guards = some []
structure FnOkS (P : Program) (w : World) (K : PySem.W.Frag) (mg : Str → Option Value) (base : Heap) (CX : CXT) (k : Nat) (f : Addr) (fd : FuncData) (ps : List Str) (sp : Sp) : Prop where
  len : ∀ vs H Q E, sp vs H Q E → vs.length = ps.length
  run : ∀ (A : Around) (outer : List Env) (s : Shared) (H : Hp) (args : Args) (us : List Value) (vs : List V) (Q : VK) (E : XK), RoomS k A → Env0 P w K mg base A outer s H → BindsTo s fd args (ps.zip us) → Vals vs us → sp vs H Q E →
    codeAny (model P w) A (.call (.ref f) args) (CR CX outer P w H s Q E) s
section
variable {P : Program} {w : World} {K : PySem.W.Frag} {mg : Str → Option Value} {base : Heap}
end
/-- a def of the text called by its name, in a suite too -/
structure CalS (P : Program) (w : World) (K : PySem.W.Frag) (mg : Str → Option Value) (base : Heap) (k : Nat) (x : Str) (ps : List Str) (sp : Sp) (f : Addr) (fd : FuncData) : Prop where
  ok : FnOkS P w K mg base CX0 k f fd ps sp
  mg : mg x = some (.ref f)
  kp : PySem.W.keepIn K (.ref f) = true
  bd : Binds K fd ps []
section
variable {X : Cx}
end
end L2

set_option Elab.async false
set_option linter.all false
set_option maxRecDepth 100000
set_option maxHeartbeats 4000000
namespace Lv
open PySem L2
/-! ### the least numbers of a spread together -/
theorem sum_nn {l : List Int} (h : ∀ x ∈ l, 0 ≤ x) : 0 ≤ l.sum := by
  induction l with
  | nil => exact Int.le_refl _
  | cons x r ih =>
    rw [List.sum_cons]
    have := h x List.mem_cons_self
    have := ih fun y hy => h y (List.mem_cons_of_mem _ hy)
    omega
end Lv

set_option Elab.async false
set_option linter.all false
set_option maxRecDepth 100000
set_option maxHeartbeats 4000000
namespace L2
open PySem PySem.Spec PyProof.Rows PySem.SeqAt
section
variable {X : Cx}
end
end L2

set_option Elab.async false
set_option linter.all false
set_option maxRecDepth 100000
set_option maxHeartbeats 4000000
namespace Lv
open PySem L2
/-! ### the laying of rows as they come -/
def fill (x y : Int) : List Bool := List.replicate x.toNat false ++ List.replicate y.toNat true
def TBs (H : Hp) (rs : List Addr) (N : List (List Bool)) : Prop := rs.length = N.length ∧ ∀ (j : Nat) r bs, rs[j]? = some r → N[j]? = some bs → H r = some (.tup (bs.map V.bl))
theorem TBs.same {H H' : Hp} {rs : List Addr} {N : List (List Bool)} (h : TBs H rs N) (s : Same H H') : TBs H' rs N := ⟨h.1, fun j r xs a b => s _ _ (h.2 j r xs a b)⟩
theorem TBs.lst {H : Hp} {rs : List Addr} {N : List (List Bool)} {acc : Addr} {ys zs : List V} (h : TBs H rs N) (e : H acc = some (.lst zs)) : TBs (upd H acc (.lst ys)) rs N := ⟨h.1, fun j r xs a b => by
  have := h.2 j r xs a b
  rw [upd_ne (by intro z; subst z; rw [e] at this; cases this)]
  exact this⟩
theorem TBs.snoc {H : Hp} {rs : List Addr} {N : List (List Bool)} {q : Addr} {bs : List Bool} (h : TBs H rs N) (e : H q = some (.tup (bs.map V.bl))) : TBs H (rs ++ [q]) (N ++ [bs]) := by
  refine ⟨by simp [h.1], fun j r xs a b => ?_⟩
  rcases snoc_get a with a' | ⟨a1, a2⟩
  · rcases snoc_get b with b' | ⟨b1, b2⟩
    · exact h.2 j r xs a' b'
    · have := (List.getElem?_eq_some_iff.mp a').1
      have := h.1
      omega
  · rcases snoc_get b with b' | ⟨b1, b2⟩
    · have := (List.getElem?_eq_some_iff.mp b').1
      have := h.1
      omega
    · subst a2 b2
      exact e
end Lv

set_option Elab.async false
set_option linter.all false
set_option maxRecDepth 100000
set_option maxHeartbeats 4000000
namespace L2
open PySem PySem.Spec PyProof.Rows
/-! ### a list comprehension of two clauses -/
abbrev two (elt t1 i1 : Expr) (f1 : List Expr) (t2 i2 : Expr) (f2 : List Expr) (scope : Scope) (pos : Pos) : Expr := .ListComp elt [⟨t1, i1, f1, 0⟩, ⟨t2, i2, f2, 0⟩] scope pos
theorem turn_two0 (elt t1 i1 : Expr) (f1 : List Expr) (t2 i2 : Expr) (f2 : List Expr) (scope : Scope) (pos : Pos) (it acc : Value) (env : Env) :
    compTurn (two elt t1 i1 f1 t2 i2 f2 scope pos) 0 it acc env = (do
      standAt i1.pos
      match ← pyNext it with
      | none => pure (.done .next)
      | some v =>
        letOwnedTupleGo t1 it v
        assign t1 env v
        let mut ok := true
        for c in f1 do
          if ok then ok ← isTrue c env (eval c env)
        if ok then
          let x ← eval i2 env
          standAt i2.pos
          let x ← foldedSetIterable i2 env x
          let _ ← runOwn (.compStart (two elt t1 i1 f1 t2 i2 f2 scope pos) 1 (← holding [x] (pyIter x)) acc env) env
        again (.compLoop (two elt t1 i1 f1 t2 i2 f2 scope pos) 0 it acc env)) := by rfl
theorem turn_two1 (elt t1 i1 : Expr) (f1 : List Expr) (t2 i2 : Expr) (f2 : List Expr) (scope : Scope) (pos : Pos) (it acc : Value) (env : Env) :
    compTurn (two elt t1 i1 f1 t2 i2 f2 scope pos) 1 it acc env = (do
      standAt i2.pos
      match ← pyNext it with
      | none => pure (.done .next)
      | some v =>
        letOwnedTupleGo t2 it v
        assign t2 env v
        let mut ok := true
        for c in f2 do
          if ok then ok ← isTrue c env (eval c env)
        if ok then
          (do let _ ← call (.builtin "list.append") [acc, ← eval elt env])
        again (.compLoop (two elt t1 i1 f1 t2 i2 f2 scope pos) 1 it acc env)) := by rfl
section
variable {prog : Program} {w : World} {A : Around} {R : Result → Shared → Prop} {s : Shared} {elt t1 i1 : Expr} {f1 : List Expr} {t2 i2 : Expr} {f2 : List Expr} {scope : Scope} {pos : Pos} {it acc : Value} {env : Env}
/-- the inner clause's loop -/
theorem loop_two1 (I : Nat → Shared → Prop)
    (turn : ∀ n s, I n s → wpAny (model prog w) A (pyNext it) (fun r s₁ => match r with
      | none => R (.ok .next) s₁
      | some v => wpAny (model prog w) A (letOwnedTupleGo t2 it v) (fun _ s₁' => wpAny (model prog w) A (assign t2 env v) (fun _ s₂ =>
          wpAny (model prog w) A (forIn f2 true fun c r => if r = true then do let ok ← isTrue c env (eval c env); pure (ForInStep.yield ok) else pure (ForInStep.yield r)) (fun ok s₃ =>
            if ok = true then wpAny (model prog w) A (eval elt env) (fun x s₄ =>
              wpAny (model prog w) A (call (.builtin "list.append") [acc, x]) (fun _ s₅ => ∃ m, m < n ∧ I m s₅) (fun _ _ => False) s₄) (fun _ _ => False) s₃
            else ∃ m, m < n ∧ I m s₃) (fun _ _ => False) s₂) (fun _ _ => False) s₁') (fun _ _ => False) s₁) (fun _ _ => False) s)
    (n : Nat) (h : I n s) : codeAny (model prog w) A (.compLoop (two elt t1 i1 f1 t2 i2 f2 scope pos) 1 it acc env) R s := by
  refine codeAny_loop rfl I (fun n s hI => ?_) n h
  show wpAny _ A ((compTurn (two elt t1 i1 f1 t2 i2 f2 scope pos) 1 it acc env).onRaise (fun x => do noteFrame x env; theTreesLotGoes x)) _ _ s
  refine wpAny_noted ?_
  rw [turn_two1]
  refine wpAny_bind (wpAny_standAt (wpAny_bind (wpAny_mono (turn n s hI) (fun r s₁ h₁ => ?_) fun _ _ h' => h'.elim)))
  cases r with
  | none => exact wpAny_pure h₁
  | some v =>
    refine wpAny_bind (wpAny_mono h₁ (fun _ s₁' h₁ => ?_) fun _ _ h' => h'.elim)
    refine wpAny_bind (wpAny_mono h₁ (fun _ s₂ h₂ => wpAny_bind (wpAny_mono h₂ (fun ok s₃ h₃ => ?_) fun _ _ h' => h'.elim)) fun _ _ h' => h'.elim)
    cases ok with
    | false => exact wpAny_pure ⟨rfl, h₃⟩
    | true =>
      exact wpAny_bind (wpAny_bind (wpAny_mono h₃ (fun x s₄ h₄ => wpAny_bind (wpAny_mono h₄ (fun _ s₅ h₅ => wpAny_pure (wpAny_pure ⟨rfl, h₅⟩)) fun _ _ h' => h'.elim)) fun _ _ h' => h'.elim))
theorem start_two1
    (h0 : codeAny (model prog w) A (.compLoop (two elt t1 i1 f1 t2 i2 f2 scope pos) 1 it acc env) R s)
    (h : wpAny (model prog w) A (pyIter it) (fun it' s' => codeAny (model prog w) A (.compLoop (two elt t1 i1 f1 t2 i2 f2 scope pos) 1 it' acc env) R s')
      (notedBy (model prog w) A env fun x s' => R (.error x) s') s) :
    codeAny (model prog w) A (.compStart (two elt t1 i1 f1 t2 i2 f2 scope pos) 1 it acc env) R s := by
  refine codeAny_of_tree ?_
  show wpAny _ _ ((compStart (two elt t1 i1 f1 t2 i2 f2 scope pos) 1 it acc env).onRaise (fun x => do noteFrame x env; standAt theWindowsPlace)) _ _ s
  refine wpAny_notedAt ?_
  unfold compStart
  show wpAny _ _ (ask >>= _) _ _ s
  refine wpAny_bind (wpAny_askSetting (wpAny_ite ?_))
  split
  · first
      | exact wpAny_bind (wpAny_pure (wpAny_pure (And.intro rfl h0)))
      | exact wpAny_pure (And.intro rfl h0)
  · refine wpAny_bind (wpAny_rule ?_)
    show wpAny _ _ (standAt i2.pos >>= _) _ _ s
    exact wpAny_bind (wpAny_standAt (wpAny_bind (wpAny_mono h (fun it' s' h' => wpAny_pure (And.intro rfl h')) fun _ _ x => x)))
/-- the outer clause's loop; inner: what the inner clause does with its iterator -/
theorem loop_two0 (I : Nat → Shared → Prop) (hs : ∀ x, foldedSetIterable i2 env x = pure x)
    (turn : ∀ n s, I n s → wpAny (model prog w) A (pyNext it) (fun r s₁ => match r with
      | none => R (.ok .next) s₁
      | some v => wpAny (model prog w) A (letOwnedTupleGo t1 it v) (fun _ s₁' => wpAny (model prog w) A (assign t1 env v) (fun _ s₂ =>
          wpAny (model prog w) A (forIn f1 true fun c r => if r = true then do let ok ← isTrue c env (eval c env); pure (ForInStep.yield ok) else pure (ForInStep.yield r)) (fun ok s₃ =>
            if ok = true then wpAny (model prog w) A (eval i2 env) (fun x s₄ => wpAny (model prog w) A (pyIter x) (fun itv s₅ =>
              codeAny (model prog w) A (.compStart (two elt t1 i1 f1 t2 i2 f2 scope pos) 1 itv acc env) (fun r s₆ => ∃ fl, r = .ok fl ∧ ∃ m, m < n ∧ I m s₆) s₅) (fun _ _ => False) s₄) (fun _ _ => False) s₃
            else ∃ m, m < n ∧ I m s₃) (fun _ _ => False) s₂) (fun _ _ => False) s₁') (fun _ _ => False) s₁) (fun _ _ => False) s)
    (n : Nat) (h : I n s) : codeAny (model prog w) A (.compLoop (two elt t1 i1 f1 t2 i2 f2 scope pos) 0 it acc env) R s := by
  refine codeAny_loop rfl I (fun n s hI => ?_) n h
  show wpAny _ A ((compTurn (two elt t1 i1 f1 t2 i2 f2 scope pos) 0 it acc env).onRaise (fun x => do noteFrame x env; theTreesLotGoes x)) _ _ s
  refine wpAny_noted ?_
  rw [turn_two0]
  refine wpAny_bind (wpAny_standAt (wpAny_bind (wpAny_mono (turn n s hI) (fun r s₁ h₁ => ?_) fun _ _ h' => h'.elim)))
  cases r with
  | none => exact wpAny_pure h₁
  | some v =>
    refine wpAny_bind (wpAny_mono h₁ (fun _ s₁' h₁ => ?_) fun _ _ h' => h'.elim)
    refine wpAny_bind (wpAny_mono h₁ (fun _ s₂ h₂ => wpAny_bind (wpAny_mono h₂ (fun ok s₃ h₃ => ?_) fun _ _ h' => h'.elim)) fun _ _ h' => h'.elim)
    cases ok with
    | false => exact wpAny_pure ⟨rfl, h₃⟩
    | true =>
      refine wpAny_bind (wpAny_mono h₃ (fun x s₄ h₄ => wpAny_bind (wpAny_standAt ?_)) fun _ _ h' => h'.elim)
      rw [hs]
      refine wpAny_bind (wpAny_pure (wpAny_bind (wpAny_holding (wpAny_mono h₄ (fun itv s₅ h₅ => ?_) fun _ _ h' => h'.elim))))
      refine wpAny_bind (wpAny_runOwn (h := none) (codeAny_mono h₅ fun r s₆ ⟨fl, er, h₆⟩ => ?_))
      subst er
      exact wpAny_pure ⟨rfl, h₆⟩
end
end L2

set_option Elab.async false
set_option linter.all false
set_option maxRecDepth 100000
set_option maxHeartbeats 4000000
namespace L2
open PySem PySem.Spec PyProof.Rows
/-- what the inner clause wants: W2 the invariant by the turn, Z what comes behind it -/
def tInW (g2 : TG) (tt2 : TT) (te : TE) (τ : St) (acc : Addr) (J2 : It) (H6 : Hp) (Z : Hp → Prop) : Prop :=
  ∃ (W2 : Nat → Hp → Prop) (n2 : Nat), W2 0 H6 ∧ ∀ k H7, W2 k H7 → (J2.stop k H7 ∧ Z H7) ∨ (k < n2 ∧ J2.go k H7 ∧ ∀ y H8, J2.yld k H7 y H8 → g2 y τ H8 fun τ2 H9 => tt2 τ2 H9 fun c H10 =>
    if c = true then te τ2 H10 fun z H11 => ∃ ys, H11 acc = some (.lst ys) ∧ ys.length < sizeLine ∧ W2 (k + 1) (upd H11 acc (.lst (ys ++ [z]))) else W2 (k + 1) H10)
def tComp2W (own : List Str) (js : List Nat) (g1 : TG) (tt1 : TT) (wi2 : TI) (g2 : TG) (tt2 : TT) (te : TE) (σ : St) (J : It) (H1 : Hp) (Q : VK) : Prop :=
  ∀ acc, H1 acc = none → ∃ (W : Nat → Hp → Prop) (n : Nat), W 0 (upd H1 acc (.lst [])) ∧ ∀ i H2, W i H2 →
    (J.stop i H2 ∧ Q (.ref acc) H2) ∨ (i < n ∧ J.go i H2 ∧ ∀ x H3, J.yld i H2 x H3 → g1 x (blkσ own js σ) H3 fun τ H4 => tt1 τ H4 fun c H5 =>
      if c = true then wi2 τ H5 fun J2 H6 => tInW g2 tt2 te τ acc J2 H6 (W (i + 1)) else W (i + 1) H5)
def tComp2 (own : List Str) (js : List Nat) (wi : TI) (g1 : TG) (tt1 : TT) (wi2 : TI) (g2 : TG) (tt2 : TT) (te : TE) : TE := fun σ H Q => wi σ H fun J H1 => tComp2W own js g1 tt1 wi2 g2 tt2 te σ J H1 Q
/-- the names at these places aren't bound yet -/
def Unset (fr : List Nat) (τ : St) : Prop := ∀ i ∈ fr, ∀ v, τ[i]? ≠ some (some v)
/-- the outer target keeps the names taken and leaves those of the inner target unbound -/
def GKeepF (own : List Str) (fr : List Nat) (g : TG) : Prop := ∀ (js : List Nat) (σ : St) (x : V) (H : Hp) (Q : St → Hp → Prop), g x (blkσ own js σ) H Q →
  g x (blkσ own js σ) H fun τ H' => ((∀ (j : Nat) v, (blkσ own js σ)[j]? = some (some v) → τ[j]? = some (some v)) ∧ Unset fr τ) ∧ Q τ H'
/-- the inner target binds none but these -/
def GKeepT (fr : List Nat) (g : TG) : Prop := ∀ (τ : St), Unset fr τ → ∀ (x : V) (H : Hp) (Q : St → Hp → Prop), g x τ H Q → g x τ H fun τ' H' => (∀ (j : Nat) v, τ[j]? = some (some v) → τ'[j]? = some (some v)) ∧ Q τ' H'
theorem gkeepF_two {K : PySem.W.Frag} {own : List Str} {i k : Nat} {fr : List Nat} (hi : i < own.length := by decide) (hk : k < own.length := by decide) (hf : ∀ j ∈ fr, j < own.length ∧ j ≠ i ∧ j ≠ k := by decide) : GKeepF own fr (gTup K 2 (gCons (gName i) (gCons (gName k) gNil))) := fun js σ x H Q h => by
  obtain ⟨a, xs, rfl, hq, hl, v, r, rfl, w, r', rfl, e, h⟩ := h
  refine ⟨a, _, rfl, hq, hl, v, _, rfl, w, r', rfl, e, ⟨fun j z e => ?_, fun j hj z e => ?_⟩, h⟩
  · have hj : j ≠ i := by rintro rfl; exact blkσ_own hi e
    have hj' : j ≠ k := by rintro rfl; exact blkσ_own hk e
    rw [List.getElem?_set_ne (Ne.symm hj'), List.getElem?_set_ne (Ne.symm hj)]
    exact e
  · obtain ⟨h1, h2, h3⟩ := hf j hj
    rw [List.getElem?_set_ne (Ne.symm h3), List.getElem?_set_ne (Ne.symm h2)] at e
    exact blkσ_own h1 e
theorem gkeepT_two {K : PySem.W.Frag} {i k : Nat} : GKeepT [i, k] (gTup K 2 (gCons (gName i) (gCons (gName k) gNil))) := fun τ u x H Q h => by
  obtain ⟨a, xs, rfl, hq, hl, v, r, rfl, w, r', rfl, e, h⟩ := h
  refine ⟨a, _, rfl, hq, hl, v, _, rfl, w, r', rfl, e, fun j z e => ?_, h⟩
  have hj : j ≠ i := by rintro rfl; exact u j (by simp) _ e
  have hj' : j ≠ k := by rintro rfl; exact u j (by simp) _ e
  rw [List.getElem?_set_ne (Ne.symm hj'), List.getElem?_set_ne (Ne.symm hj)]
  exact e
section
variable {X : Cx} {scope : Scope} {own : List Str} {js fr : List Nat} {elt t1 i1 : Expr} {f1 : List Expr} {t2 i2 : Expr} {f2 : List Expr} {wi wi2 : TI} {g1 g2 : TG} {tt1 tt2 : TT} {te : TE} {pos : Pos}
/-- the inner clause runs -/
theorem inner_run {pins : List (Addr × Obj)} {s₂ : Shared} {H2 : Hp} {C : Addr} {fp : List Addr} {τ : St} {H6 : Hp} {s6 : Shared} {it2 acc : Addr} {fp2 : List Addr} {tn2 : Nat → Heap → Prop} {J2 : It} {Z : Hp → Prop} {P : List (Addr × Obj)}
    (hc : X.calm = true) (hgk : GKeepT fr g2) (hu : Unset fr τ)
    (hg : PG (X.blk scope own js s₂ H2 C fp pins) t2 g2) (ht : PTs (X.blk scope own js s₂ H2 C fp pins) f2 tt2) (he : PE (X.blk scope own js s₂ H2 C fp pins) elt te)
    (I6 : Inv (X.blk scope own js s₂ H2 C fp pins) P τ H6 s6) (T : Turn X.prog X.w X.K t2 J2 fp2 it2 tn2) (st : tn2 0 s6.heap) (hf : ∀ b ∈ fp2, FpOk (X.blk scope own js s₂ H2 C fp pins) P H6 b) (h : tInW g2 tt2 te τ acc J2 H6 Z) :
    codeAny (model X.prog X.w) X.A (.compStart (two elt t1 i1 f1 t2 i2 f2 scope pos) 1 (.ref it2) (.ref acc) (compEnvC scope (clOf scope X.env) C X.env)) (fun r s' => r = .ok .next ∧ ∃ H', Inv (X.blk scope own js s₂ H2 C fp pins) P τ H' s' ∧ Z H') s6 := by
  obtain ⟨W, nn, w0, turn⟩ := h
  have fOk : ∀ {H' : Hp}, (∀ b ∈ fp2, H' b = none) → ∀ b ∈ fp2, FpOk (X.blk scope own js s₂ H2 C fp pins) P H' b := fun hn b hb => ⟨hn b hb, (hf b hb).2⟩
  have loop : codeAny (model X.prog X.w) X.A (.compLoop (two elt t1 i1 f1 t2 i2 f2 scope pos) 1 (.ref it2) (.ref acc) (compEnvC scope (clOf scope X.env) C X.env)) (fun r s' => r = .ok .next ∧ ∃ H', Inv (X.blk scope own js s₂ H2 C fp pins) P τ H' s' ∧ Z H') s6 := by
    refine loop_two1 (fun n s' => ∃ i H', n = nn - i ∧ Inv (X.blk scope own js s₂ H2 C fp pins) P τ H' s' ∧ tn2 i s'.heap ∧ (∀ b ∈ fp2, H' b = none) ∧ W i H') ?_ nn ⟨0, _, rfl, I6, st, fun b hb => (hf b hb).1, w0⟩
    rintro n s3 ⟨i, H3, en, I3, st3, fr3, w3⟩
    rcases turn i H3 w3 with ⟨stop, qn⟩ | ⟨hin, go, step⟩
    · refine thn (T.done (X.blk scope own js s₂ H2 C fp pins) rfl rfl rfl hc i P s3 _ H3 (fun _ _ => False) I3 (fOk fr3) st3 stop) fun r s4 ⟨hr, I4⟩ => ?_
      subst hr
      exact ⟨rfl, H3, I4, qn⟩
    · refine thn (T.item (X.blk scope own js s₂ H2 C fp pins) rfl rfl rfl hc i P s3 _ H3 (fun _ _ => False) I3 (fOk fr3) st3 go) fun r s4 ⟨u, hr, h4⟩ => ?_
      subst hr
      refine thn h4 fun _ s5 ⟨x, H5, I5, r5, y5, st5, fr5⟩ => ?_
      have I5' := I5.pinned (fOk fr5) (T.obj _ _ st5)
      have again : ∀ {σ7 : St} {H7 : Hp} {s7 : Shared}, Inv (X.blk scope own js s₂ H2 C fp pins) (P ++ pinsAt fp2 s5.heap) σ7 H7 s7 → (∀ (j : Nat) v, τ[j]? = some (some v) → σ7[j]? = some (some v)) → W (i + 1) H7 →
          ∃ m, m < n ∧ ∃ i H', m = nn - i ∧ Inv (X.blk scope own js s₂ H2 C fp pins) P τ H' s7 ∧ tn2 i s7.heap ∧ (∀ b ∈ fp2, H' b = none) ∧ W i H' := fun {σ7 H7 s7} I7 hw w7 => by
        refine ⟨nn - (i + 1), by omega, i + 1, H7, rfl, (I7.unpinned).weak (I3.len.trans I7.len.symm) hw, T.keep _ _ _ st5 fun b hb o e => (I7.pin (b, o) (List.mem_append_right _ (List.mem_append_right _ (mem_pinsAt hb e)))).1, fun b hb => ?_, w7⟩
        obtain ⟨o, e, d⟩ := T.obj _ _ st5 b hb
        exact (I7.pin (b, o) (List.mem_append_right _ (List.mem_append_right _ (mem_pinsAt hb e)))).2.1
      refine thn (hg _ s5 _ H5 x u _ I5' r5 (hgk τ hu _ _ _ (step x H5 y5))) fun _ s6 ⟨σ6, H6, I6, kp, q6⟩ => ?_
      refine thn (ht _ s6 σ6 H6 _ I6 q6) fun ok s7 ⟨H7, I7, q7⟩ => ?_
      cases ok with
      | false => exact again I7 kp q7
      | true =>
        refine thn (he _ s7 σ6 H7 _ I7 q7) fun y s8 ⟨v, H8, I8, r8, ys, hl, hz, w8⟩ => ?_
        refine thn (mt_append (X := X.blk scope own js s₂ H2 C fp pins) _ s8 σ6 H8 (.ref acc) [v] (.ref acc) [y] (fun _ H9 => W (i + 1) H9) I8 rfl (.cons r8 .nil) ⟨acc, ys, v, rfl, rfl, hl, hz, w8⟩) fun _ s9 ⟨_, H9, I9, _, w9⟩ => ?_
        exact again I9 kp w9
  exact start_two1 loop (T.self _ 0 _ _ _ st loop)
/-- the block runs -/
theorem blk_run2 {pins : List (Addr × Obj)} {σ : St} {H2 : Hp} {s₂ : Shared} {it : Addr} {fp : List Addr} {tn : Nat → Heap → Prop} {J : It} {Q : VK} {E : Value → Shared → Prop} {RR : Value → Addr → Result → Shared → Prop}
    (c : CompOk X scope own js) (hc : X.calm = true) (hgk : GKeepF own fr g1) (hgt : GKeepT fr g2)
    (hg : ∀ s H C fp pins, PG (X.blk scope own js s H C fp pins) t1 g1) (ht : ∀ s H C fp pins, PTs (X.blk scope own js s H C fp pins) f1 tt1) (hi2 : ∀ s H C fp pins, PI (X.blk scope own js s H C fp pins) t2 i2 wi2)
    (hg2 : ∀ s H C fp pins, PG (X.blk scope own js s H C fp pins) t2 g2) (ht2 : ∀ s H C fp pins, PTs (X.blk scope own js s H C fp pins) f2 tt2) (he : ∀ s H C fp pins, PE (X.blk scope own js s H C fp pins) elt te)
    (hs2 : ∀ env x, foldedSetIterable i2 env x = pure x)
    (I : Inv X pins σ H2 s₂) (T : Turn X.prog X.w X.K t1 J fp it tn) (st : tn 0 s₂.heap) (hf : ∀ b ∈ fp, FpOk X pins H2 b) (h : tComp2W own js g1 tt1 wi2 g2 tt2 te σ J H2 Q)
    (hRR : ∀ acc C H' s' m, s₂.heap.objs.size ≤ C → H' C = none → Inv X pins σ H' s' → s'.heap.Ns C m → Q (.ref acc) H' → RR (.ref acc) C (.ok .next) s') :
    wpAny (model X.prog X.w) X.A (newList []) (fun acc s₃ => wpAny (model X.prog X.w) X.A (newFunctionEnv scope X.env.globals (clOf scope X.env) [] X.env.qual none .none (some X.env)) (fun cenv s₄ =>
      codeAny (model X.prog X.w) X.A (.compStart (two elt t1 i1 f1 t2 i2 f2 scope pos) 0 (.ref it) acc { cenv with scope := relabel scope X.env }) (RR acc cenv.locals) s₄) E s₃) E s₂ := by
  refine wpAny_newObj_type (wpAny_newFunctionEnv c.cell (by intro y hy; simp at hy) (fun h₁ hns₁ hsb₁ => ?_) c.kind)
  dsimp only at hns₁ hsb₁ ⊢
  generalize hH2 : s₂.heap.push { cls := .type "list", dict := none, data := .seq ([] : List Value).toArray } = G2 at hns₁ hsb₁ ⊢
  have hC : G2.objs.size = s₂.heap.objs.size + 1 := by rw [← hH2, Heap.size_push]
  have hDC : s₂.heap.objs.size ≠ G2.objs.size := by rw [hC]; exact Nat.ne_of_lt (Nat.lt_succ_self _)
  have hCle : s₂.heap.objs.size ≤ G2.objs.size := by rw [hC]; exact Nat.le_succ _
  have old : ∀ b o, s₂.heap.get? b = some o → h₁.get? b = some o := fun b o e => hsb₁.extBut b o (Nat.ne_of_lt (Nat.lt_of_lt_of_le (Heap.lt_size e) hCle)) (Heap.get?_push_of_some _ (hH2 ▸ Heap.get?_push_of_some _ e))
  have hacc : h₁.get? s₂.heap.objs.size = some { cls := .type "list", data := .seq ([] : List Value).toArray 0 } := hsb₁.extBut _ _ hDC (Heap.get?_push_of_some _ (hH2 ▸ Heap.get?_push_size _ rfl))
  have ho2 : ∀ b ∈ fp, ∃ o, s₂.heap.get? b = some o := fun b hb => let ⟨o, e, _⟩ := T.obj 0 _ st b hb; ⟨o, e⟩
  have I0 : ∀ tk, Inv (X.blk scope own js s₂ H2 G2.objs.size fp pins) [] (blkσ own js σ) (upd H2 s₂.heap.objs.size (.lst [])) { s₂ with heap := h₁, toks := tk } := fun tk =>
    blk_start c I hCle hf ho2 hns₁ old (Nat.le_refl _) hDC hacc
  obtain ⟨W, nn, w0, turn⟩ := h s₂.heap.objs.size (I.hok.fresh (Nat.le_refl _))
  generalize hacc' : s₂.heap.objs.size = acc at *
  generalize hGC : G2.objs.size = C at *
  have st1 : tn 0 h₁ := T.keep 0 _ _ st fun b _ o e => old b o e
  have fOk : ∀ {H' : Hp}, (∀ b ∈ fp, H' b = none) → ∀ b ∈ fp, FpOk (X.blk scope own js s₂ H2 C fp pins) [] H' b := fun hn b hb => by
    obtain ⟨f0, f1, f2, f3, f4, f5⟩ := hf b hb
    obtain ⟨o, e⟩ := ho2 b hb
    refine ⟨hn b hb, Nat.ne_of_lt (Nat.lt_of_lt_of_le (Heap.lt_size e) (by rw [← hacc'] at hCle; exact hCle)), fun z => ?_, .inl hb, fun x a h => f4 x a (c.look I h), fun p hp => f5 p (by simpa [Cx.blk] using hp)⟩
    rcases List.mem_cons.mp (I.stkSub b z) with q | q
    · exact f1 q
    · exact f2 q
  have loop : ∀ s₃ : Shared, s₃ = { s₂ with heap := h₁, toks := s₂.toks + ([] : List (Str × Value)).length } →
      codeAny (model X.prog X.w) X.A (.compLoop (two elt t1 i1 f1 t2 i2 f2 scope pos) 0 (.ref it) (.ref acc) (compEnvC scope (clOf scope X.env) C X.env)) (RR (.ref acc) C) s₃ := by
    rintro s₃ rfl
    refine loop_two0 (fun n s' => ∃ i H', n = nn - i ∧ Inv (X.blk scope own js s₂ H2 C fp pins) [] (blkσ own js σ) H' s' ∧ tn i s'.heap ∧ (∀ b ∈ fp, H' b = none) ∧ W i H') (hs2 _) ?_ nn ⟨0, _, rfl, I0 _, st1, fun b hb => ?_, w0⟩
    · rintro n s3 ⟨i, H3, en, I3, st3, fr3, w3⟩
      rcases turn i H3 w3 with ⟨stop, qn⟩ | ⟨hin, go, step⟩
      · refine thn (T.done (X.blk scope own js s₂ H2 C fp pins) rfl rfl rfl hc i [] s3 _ H3 (fun _ _ => False) I3 (fOk fr3) st3 stop) fun r s4 ⟨hr, I4⟩ => ?_
        subst hr
        obtain ⟨m, hn, _⟩ := I4.loc
        exact hRR acc C H3 s4 m hCle I4.free (blk_end I hf I4) hn qn
      · refine thn (T.item (X.blk scope own js s₂ H2 C fp pins) rfl rfl rfl hc i [] s3 _ H3 (fun _ _ => False) I3 (fOk fr3) st3 go) fun r s4 ⟨u, hr, h4⟩ => ?_
        subst hr
        refine thn h4 fun _ s5 ⟨x, H5, I5, r5, y5, st5, fr5⟩ => ?_
        have I5' := I5.pinned (fOk fr5) (T.obj _ _ st5)
        have again : ∀ {σ7 : St} {H7 : Hp} {s7 : Shared}, Inv (X.blk scope own js s₂ H2 C fp pins) ([] ++ pinsAt fp s5.heap) σ7 H7 s7 → (∀ (j : Nat) v, (blkσ own js σ)[j]? = some (some v) → σ7[j]? = some (some v)) → W (i + 1) H7 →
            ∃ m, m < n ∧ ∃ i H', m = nn - i ∧ Inv (X.blk scope own js s₂ H2 C fp pins) [] (blkσ own js σ) H' s7 ∧ tn i s7.heap ∧ (∀ b ∈ fp, H' b = none) ∧ W i H' := fun {σ7 H7 s7} I7 hw w7 => by
          refine ⟨nn - (i + 1), by omega, i + 1, H7, rfl, (I7.unpinned).weak ((blk_len own js σ X).trans I7.len.symm) hw, T.keep _ _ _ st5 fun b hb o e => (I7.pin (b, o) (List.mem_append_right _ (List.mem_append_right _ (mem_pinsAt hb e)))).1, fun b hb => ?_, w7⟩
          obtain ⟨o, e, d⟩ := T.obj _ _ st5 b hb
          exact (I7.pin (b, o) (List.mem_append_right _ (List.mem_append_right _ (mem_pinsAt hb e)))).2.1
        refine thn (hg s₂ H2 C fp pins _ s5 _ H5 x u _ I5' r5 (hgk _ _ _ _ _ (step x H5 y5))) fun _ s6 ⟨σ6, H6, I6, ⟨kp, un⟩, q6⟩ => ?_
        refine thn (ht s₂ H2 C fp pins _ s6 σ6 H6 _ I6 q6) fun ok s7 ⟨H7, I7, q7⟩ => ?_
        cases ok with
        | false => exact again I7 kp q7
        | true =>
          refine thn (hi2 s₂ H2 C fp pins _ s7 σ6 H7 _ I7 q7) fun v s8 h8 => thn h8 fun itv s9 h9 => ?_
          obtain ⟨it2, fp2, tn2, J2, H9, e9, I9, T2, st9, f9, hw9⟩ := h9
          subst e9
          refine codeAny_mono (inner_run (t1 := t1) (i1 := i1) (f1 := f1) (i2 := i2) (pos := pos) hc hgt un (hg2 s₂ H2 C fp pins) (ht2 s₂ H2 C fp pins) (he s₂ H2 C fp pins) I9 T2 st9 f9 hw9) fun r s10 ⟨er, H10, I10, w10⟩ => ?_
          exact ⟨_, er, again I10 kp w10⟩
    · rw [upd_ne ?_]
      · exact (hf b hb).1
      · obtain ⟨o, e⟩ := ho2 b hb
        rw [← hacc']
        exact Nat.ne_of_lt (Heap.lt_size e)
  exact codeAny_compStart_list (loop _ rfl) (T.self _ 0 _ _ _ st1 (loop _ rfl))
/-- the comprehension of two clauses as a value -/
theorem pe_comp2 (c : CompOk X scope own js) (hc : X.calm = true) (hi : PI X t1 i1 wi) (hgk : GKeepF own fr g1) (hgt : GKeepT fr g2)
    (hg : ∀ s H C fp pins, PG (X.blk scope own js s H C fp pins) t1 g1) (ht : ∀ s H C fp pins, PTs (X.blk scope own js s H C fp pins) f1 tt1) (hi2 : ∀ s H C fp pins, PI (X.blk scope own js s H C fp pins) t2 i2 wi2)
    (hg2 : ∀ s H C fp pins, PG (X.blk scope own js s H C fp pins) t2 g2) (ht2 : ∀ s H C fp pins, PTs (X.blk scope own js s H C fp pins) f2 tt2) (he : ∀ s H C fp pins, PE (X.blk scope own js s H C fp pins) elt te)
    (hs : ∀ x, foldedSetIterable i1 X.env x = pure x := by intro _; rfl) (hs2 : ∀ env x, foldedSetIterable i2 env x = pure x := by intro _ _; rfl) : PE X (two elt t1 i1 f1 t2 i2 f2 scope pos) (tComp2 own js wi g1 tt1 wi2 g2 tt2 te) := by
  intro pins s σ H Q I h
  rw [eval_ListComp]
  refine wpAny_comprehension_free (use := none) rfl hs (closure_cl (c.cl I)) c.kind c.names (thn (hi pins s σ H _ I h) fun v s1 h1 => thn h1 fun itv s2 h2 => ?_)
  obtain ⟨it, fp, tn, J, H2, e, I2, T, st2, f2, hw⟩ := h2
  subst e
  refine blk_run2 (RR := fun acc C => compPost (model X.prog X.w) X.A X.xe none (EP X pins σ Q) acc C) c hc hgk hgt hg ht hi2 hg2 ht2 he hs2 I2 T st2 f2 hw ?_
  intro acc C H' s' m hCs hCn I' hn q
  refine ⟨m, hn, fun h' hs' => ⟨.ref acc, H', I'.other hs' hCn ?_ ?_ ?_ ?_, rfl, q⟩⟩
  · exact Nat.ne_of_gt (Nat.lt_of_lt_of_le I2.lt hCs)
  · exact Nat.le_trans I2.sz hCs
  · intro x a e z
    obtain ⟨v, q⟩ := I2.cell x a e
    exact absurd (Nat.lt_of_lt_of_le q.lt (by rw [z]; exact hCs)) (Nat.lt_irrefl _)
  · intro p hp z
    exact absurd (Nat.lt_of_lt_of_le (Heap.lt_size (I2.pin p hp).1) (by rw [z]; exact hCs)) (Nat.lt_irrefl _)
end
end L2

set_option Elab.async false
set_option linter.all false
set_option maxRecDepth 100000
set_option maxHeartbeats 4000000
namespace L2
open PySem PySem.Spec PyProof.Rows
/-! ### a comprehension some of whose own names are captured by one within it -/
theorem cfC {n : Nat} {x : Str} {k : NameKind} {r : List (Str × NameKind)} {acc : List (Str × Addr)} : cellsFrom n ((x, k) :: r) acc = if (k == NameKind.cell) = true then cellsFrom (n + 1) r ((x, n) :: acc) else cellsFrom n r acc := rfl
theorem cf_look {x : Str} {a : Addr} : ∀ (names : List (Str × NameKind)) (n : Nat) (acc : List (Str × Addr)), (cellsFrom n names acc).lookup x = some a → (n ≤ a ∧ (x, NameKind.cell) ∈ names) ∨ acc.lookup x = some a
  | [], _, _, h => .inr h
  | (y, k) :: r, n, acc, h => by
    rw [cfC] at h
    split at h
    · rename_i hk
      rcases cf_look r _ _ h with ⟨q1, q2⟩ | q
      · exact .inl ⟨Nat.le_of_succ_le q1, List.mem_cons_of_mem _ q2⟩
      · rw [List.lookup_cons] at q
        cases e : x == y with
        | true =>
          rw [e] at q
          have ey : x = y := eq_of_beq e
          have ek : k = .cell := eq_of_beq hk
          subst ey; subst ek
          cases q
          exact .inl ⟨Nat.le_refl _, List.mem_cons_self⟩
        | false => rw [e] at q; exact .inr q
    · rcases cf_look r _ _ h with ⟨q1, q2⟩ | q
      · exact .inl ⟨q1, List.mem_cons_of_mem _ q2⟩
      · exact .inr q
theorem cf_old {x : Str} : ∀ (names : List (Str × NameKind)) (n : Nat) (acc : List (Str × Addr)), (x, NameKind.cell) ∉ names → (cellsFrom n names acc).lookup x = acc.lookup x
  | [], _, _, _ => rfl
  | (y, k) :: r, n, acc, h => by
    rw [cfC]
    have hr : (x, NameKind.cell) ∉ r := fun z => h (List.mem_cons_of_mem _ z)
    split
    · rename_i hk
      have ek : k = .cell := eq_of_beq hk
      subst ek
      rw [cf_old r _ _ hr, List.lookup_cons]
      cases e : x == y with
      | true =>
        have ey : x = y := eq_of_beq e
        subst ey
        exact absurd List.mem_cons_self h
      | false => rfl
    · exact cf_old r _ _ hr
theorem cf_mono {x : Str} : ∀ (names : List (Str × NameKind)) (n : Nat) (acc : List (Str × Addr)), (∃ c, acc.lookup x = some c) → ∃ c, (cellsFrom n names acc).lookup x = some c
  | [], _, _, h => h
  | (y, k) :: r, n, acc, h => by
    rw [cfC]
    split
    · refine cf_mono r _ _ ?_
      rw [List.lookup_cons]
      split
      · exact ⟨_, rfl⟩
      · exact h
    · exact cf_mono r _ _ h
theorem cf_has {x : Str} : ∀ (names : List (Str × NameKind)) (n : Nat) (acc : List (Str × Addr)), (x, NameKind.cell) ∈ names → ∃ c, (cellsFrom n names acc).lookup x = some c
  | [], _, _, h => by simp at h
  | (y, k) :: r, n, acc, h => by
    rw [cfC]
    rcases List.mem_cons.mp h with e | h
    · cases e
      rw [if_pos (by rfl)]
      refine cf_mono r _ _ ?_
      rw [List.lookup_cons]
      exact ⟨n, by simp⟩
    · split
      · exact cf_has r _ _ h
      · exact cf_has r _ _ h
theorem cf_inj : ∀ (names : List (Str × NameKind)) (n : Nat) (acc : List (Str × Addr)), (∀ x y c, acc.lookup x = some c → acc.lookup y = some c → x = y) → (∀ x c, acc.lookup x = some c → c < n) →
    ∀ x y c, (cellsFrom n names acc).lookup x = some c → (cellsFrom n names acc).lookup y = some c → x = y
  | [], _, _, h, _ => h
  | (z, k) :: r, n, acc, h, hn => by
    rw [cfC]
    split
    · refine cf_inj r _ _ (fun x y c h1 h2 => ?_) fun x c h1 => ?_
      · rw [List.lookup_cons] at h1 h2
        cases e1 : x == z with
        | true =>
          rw [e1] at h1
          cases h1
          cases e2 : y == z with
          | true => exact (eq_of_beq e1).trans (eq_of_beq e2).symm
          | false => rw [e2] at h2; exact absurd (hn _ _ h2) (Nat.lt_irrefl _)
        | false =>
          rw [e1] at h1
          cases e2 : y == z with
          | true => rw [e2] at h2; cases h2; exact absurd (hn _ _ h1) (Nat.lt_irrefl _)
          | false => rw [e2] at h2; exact h x y c h1 h2
      · rw [List.lookup_cons] at h1
        cases e1 : x == z with
        | true => rw [e1] at h1; cases h1; exact Nat.lt_succ_self _
        | false => rw [e1] at h1; exact Nat.lt_succ_of_lt (hn _ _ h1)
    · exact cf_inj r _ _ h hn
section
variable {M : Model} {A : Around} {E : Value → Shared → Prop}
theorem cells_loop {Q : List (Str × Addr) → Shared → Prop} : ∀ (names : List (Str × NameKind)) (cells : List (Str × Addr)) (s : Shared),
    (∀ h', (∀ b o, s.heap.get? b = some o → h'.get? b = some o) → (∀ x a, (cellsFrom s.heap.objs.size names cells).lookup x = some a → cells.lookup x = some a ∨ (s.heap.objs.size ≤ a ∧ h'.IsCell a none)) → Q (cellsFrom s.heap.objs.size names cells) { s with heap := h' }) →
    wpAny M A (forIn names cells fun (x : Str × NameKind) (__s : List (Str × Addr)) =>
        match x with
        | (name, kind) =>
          if (kind == NameKind.cell) = true then do
            let __do_lift ← alloc { cls := Value.type "cell", data := Data.cell none }
            pure (ForInStep.yield ((name, __do_lift) :: __s))
          else pure (ForInStep.yield __s)) Q E s
  | [], cells, s, h => by
    rw [List.forIn_nil]
    exact wpAny_pure (h s.heap (fun _ _ e => e) fun x a e => .inl e)
  | (y, k) :: r, cells, s, h => by
    rw [List.forIn_cons]
    dsimp only
    by_cases hk : (k == NameKind.cell) = true
    · rw [if_pos hk]
      refine wpAny_bind (wpAny_bind (wpAny_alloc (wpAny_pure ?_)))
      dsimp only
      refine cells_loop r _ _ fun h' k1 k2 => ?_
      dsimp only at k1 k2 ⊢
      rw [Heap.size_push] at k2 ⊢
      have hh := h h' (fun b o e => k1 b o (Heap.get?_push_of_some _ e))
      rw [cfC, if_pos hk] at hh
      refine hh fun x a e => ?_
      rcases k2 x a e with q | ⟨q1, q2⟩
      · rw [List.lookup_cons] at q
        cases ex : x == y with
        | true =>
          rw [ex] at q
          cases q
          exact .inr ⟨Nat.le_refl _, _, k1 _ _ (Heap.get?_push_size _ rfl), rfl⟩
        | false => rw [ex] at q; exact .inl q
      · exact .inr ⟨Nat.le_of_succ_le q1, q2⟩
    · rw [if_neg hk]
      refine wpAny_bind (wpAny_pure ?_)
      dsimp only
      refine cells_loop r _ _ fun h' k1 k2 => ?_
      have hh := h h' k1
      rw [cfC, if_neg hk] at hh
      exact hh k2
theorem newEnv_own {s : Shared} {scope : Scope} {globals : Addr} {closure : List (Str × Addr)} {qual : Str} {func : Option Addr} {code : Value} {around : Env} {builtins : Addr} {Q : Env → Shared → Prop}
    (h : ∀ h', h'.Ns s.heap.objs.size (fun _ => none) → (∀ b o, s.heap.get? b = some o → h'.get? b = some o) →
      (∀ x a, (cellsFrom (s.heap.objs.size + 1) scope.names closure).lookup x = some a → closure.lookup x = some a ∨ (s.heap.objs.size + 1 ≤ a ∧ h'.IsCell a none)) →
      Q (newEnv scope s.heap.objs.size globals (cellsFrom (s.heap.objs.size + 1) scope.names closure) qual func code (some around) builtins) { s with heap := h' }) :
    wpAny M A (newFunctionEnv scope globals closure [] qual func code (some around) builtins) Q E s := by
  unfold newFunctionEnv
  refine wpAny_bind (wpAny_alloc (wpAny_bind ?_))
  refine cells_loop scope.names closure _ fun h' k1 k2 => ?_
  dsimp only at k1 k2 ⊢
  rw [Heap.size_push] at k2 ⊢
  rw [List.forIn_nil]
  refine wpAny_bind (wpAny_pure (wpAny_pure ?_))
  exact h h' ⟨_, #[], 0, k1 _ _ (Heap.get?_push_size _ rfl), rfl, fun _ z => absurd z (by simp), fun _ => rfl⟩ (fun b o e => k1 b o (Heap.get?_push_of_some _ e)) k2
end
/-- the context of the block -/
def Cx.blkK (X : Cx) (scope : Scope) (own : List Str) (js : List Nat) (s₂ : Shared) (H₂ : Hp) (C : Addr) (fp : List Addr) (pins : List (Addr × Obj)) : Cx :=
  { X.blk scope own js s₂ H₂ C fp pins with env := compEnvC scope (cellsFrom (C + 1) scope.names (clOf scope X.env)) C X.env, fn := fun x => scope.names.lookup x == some .cell }
section
variable {X : Cx} {pins : List (Addr × Obj)} {σ : St} {H H' : Hp} {s s' : Shared} {scope : Scope} {own : List Str} {js : List Nat} {C : Addr} {fp : List Addr}
structure CompOkK (X : Cx) (scope : Scope) (own : List Str) (js : List Nat) : Prop where
  kind : scope.kind = .function
  free : ∀ y ∈ scope.names, y.2 = .free → X.env.kindOf y.1 = some .cell ∨ X.env.kindOf y.1 = some .free
  names : ∀ y ∈ scope.names, scope.names.lookup y.1 = some y.2
  out : ∀ j ∈ js, ∃ x, X.N[j]? = some x ∧ scope.names.lookup x = some .free
theorem CompOkK.cl (c : CompOkK X scope own js) (I : Inv X pins σ H s) : ∀ x ∈ scope.names, x.2 = .free → ∃ c, X.env.cells.lookup x.1 = some c := fun x hx hf => I.ok.has x.1 (c.free x hx hf)
theorem CompOkK.look (c : CompOkK X scope own js) (I : Inv X pins σ H s) {x : Str} {a : Addr} (h : (clOf scope X.env).lookup x = some a) : X.env.cells.lookup x = some a ∧ (x, NameKind.free) ∈ scope.names := by
  rcases cl_lookup _ _ h with ⟨h1, h2⟩ | h1
  · obtain ⟨c', e⟩ := c.cl I (x, .free) h1 rfl
    have e' : X.env.cells.lookup x = some c' := e
    rw [e'] at h2 ⊢
    subst h2
    exact ⟨rfl, h1⟩
  · simp at h1
theorem CompOkK.lookK (c : CompOkK X scope own js) (I : Inv X pins σ H s) {x : Str} {a : Addr} {n : Nat} (h : (cellsFrom n scope.names (clOf scope X.env)).lookup x = some a) : (n ≤ a ∧ (x, NameKind.cell) ∈ scope.names) ∨ (X.env.cells.lookup x = some a ∧ (x, NameKind.free) ∈ scope.names) := by
  rcases cf_look _ _ _ h with q | q
  · exact .inl q
  · exact .inr (c.look I q)
theorem relabel_cfK {scope : Scope} {env : Env} {x : Str} (h : (relabel scope env).names.lookup x = some .cell ∨ (relabel scope env).names.lookup x = some .free) : (x, NameKind.free) ∈ scope.names ∨ (x, NameKind.cell) ∈ scope.names := by
  have hm : ∃ k, (x, k) ∈ (relabel scope env).names ∧ (k = .cell ∨ k = .free) := by
    rcases h with h | h
    · exact ⟨_, PySem.mem_of_lookup h, .inl rfl⟩
    · exact ⟨_, PySem.mem_of_lookup h, .inr rfl⟩
  obtain ⟨k, hm, hk⟩ := hm
  obtain ⟨⟨n, k'⟩, h1, h2⟩ := List.mem_map.mp hm
  dsimp only at h2
  split at h2
  · rename_i hc
    have : k' = .free := by
      simp only [Bool.and_eq_true, beq_iff_eq] at hc
      exact hc.1.1
    cases h2
    subst this
    exact .inl h1
  · cases h2
    rcases hk with rfl | rfl
    · exact .inr h1
    · exact .inl h1
theorem cell_lt (I : Inv X pins σ H s) {x : Str} {a : Addr} (e : X.env.cells.lookup x = some a) : a < s.heap.objs.size := by
  obtain ⟨v, q⟩ := I.cell x a e
  exact q.lt
theorem blkK_ok (c : CompOkK X scope own js) (I : Inv X pins σ H s) (hC : s.heap.objs.size ≤ C) (hf : ∀ b ∈ fp, FpOk X pins H b) (ho : ∀ b ∈ fp, ∃ o, s.heap.get? b = some o) : (X.blkK scope own js s H C fp pins).Ok where
  mod := I.ok.mod
  kind := c.kind
  glob := I.ok.glob
  blt := I.ok.blt
  above := hC
  inj := cf_inj scope.names (C + 1) _ (fun x y a h1 h2 => I.ok.inj x y a (c.look I h1).1 (c.look I h2).1) fun x a h => Nat.lt_succ_of_lt (Nat.lt_of_lt_of_le (cell_lt I (c.look I h).1) hC)
  has := fun x hx => by
    rcases relabel_cfK hx with q | q
    · exact cf_mono _ _ _ (cl_has _ _ q)
    · exact cf_has _ _ _ q
  cab := fun x a h e => by
    rcases c.lookK I e with ⟨q, _⟩ | ⟨_, q⟩
    · exact Nat.le_trans hC (Nat.le_of_succ_le q)
    · have h : (scope.names.lookup x == some .cell) = true := h
      have z := c.names _ q
      dsimp only at z
      rw [z] at h
      cases h
  hd := I.ok.hd
  frames := I.ok.frames
  stk := .inl rfl
  exf := fun b hb => by
    obtain ⟨o, e⟩ := ho b hb
    have hbC := Nat.lt_of_lt_of_le (Heap.lt_size e) hC
    refine ⟨Nat.ne_of_lt hbC, fun x a h => ?_⟩
    rcases c.lookK I h with ⟨q, _⟩ | ⟨q, _⟩
    · exact Nat.ne_of_gt (Nat.lt_of_lt_of_le hbC (Nat.le_of_succ_le q))
    · exact (hf b hb).2.2.2.2.1 x a q
  bs := I.bs
  bsz := Nat.le_trans I.ok.bsz I.sz
  noex := fun b o e hb => by
    rcases (hf b hb).2.2.2.1 with z | z
    · exact I.ok.noex b o e z
    · exact absurd (Nat.lt_of_lt_of_le (Heap.lt_size e) (Nat.le_trans I.ok.bsz z)) (Nat.lt_irrefl _)
  exfs := fun b hb hm => by
    rcases List.mem_cons.mp (I.stkSub b hm) with z | z
    · exact (hf b hb).2.1 z
    · exact (hf b hb).2.2.1 z
  funs := I.stack
  frf := I.stkFree
theorem blkK_start {acc : Addr} {m : Str → Option Value} {tk : Nat} {h' : Heap} (c : CompOkK X scope own js) (I : Inv X pins σ H s) (hC : s.heap.objs.size ≤ C) (hf : ∀ b ∈ fp, FpOk X pins H b) (ho : ∀ b ∈ fp, ∃ o, s.heap.get? b = some o)
    (hn : h'.Ns C m) (k : ∀ b u, s.heap.get? b = some u → h'.get? b = some u) (kc : ∀ x a, (cellsFrom (C + 1) scope.names (clOf scope X.env)).lookup x = some a → (clOf scope X.env).lookup x = some a ∨ (C + 1 ≤ a ∧ h'.IsCell a none)) (hacc : s.heap.objs.size ≤ acc) (haC : acc < C) (hl : h'.get? acc = some { cls := .type "list", data := .seq ([] : List Value).toArray 0 }) :
    Inv (X.blkK scope own js s H C fp pins) [] (blkσ own js σ) (upd H acc (.lst [])) { s with heap := h', toks := tk } := by
  have ok := blkK_ok c I hC hf ho
  have fresh : ∀ {a : Addr}, s.heap.objs.size ≤ a → H a = none := fun h => I.hok.fresh h
  have neA : ∀ b o, s.heap.get? b = some o → b ≠ acc := fun b o e => Nat.ne_of_lt (Nat.lt_of_lt_of_le (Heap.lt_size e) hacc)
  refine ⟨ok, rfl, I.bare, Un.laid k hacc (fresh hacc), ⟨m, hn, fun i x v e1 e2 e3 => ?_⟩, fun x a e => ?_, ?_, fun x a e => ?_, fun p hp => ?_, I.hok.laid k hacc ⟨Nat.zero_le _, [], 0, .nil, hl⟩, blk_len own js σ X⟩
  · -- an outer name
    have hi : own.length ≤ i := by
      refine Nat.le_of_not_lt fun hi => ?_
      unfold blkσ at e2
      rw [List.getElem?_append_left (by simpa using hi), List.getElem?_map] at e2
      cases q : own[i]? with
      | none => rw [q] at e2; cases e2
      | some z => rw [q] at e2; cases e2
    have e1' : (js.map fun j => X.N.getD j Str.empty)[i - own.length]? = some x := by
      have e1 : (own ++ js.map fun j => X.N.getD j Str.empty)[i]? = some x := e1
      rwa [List.getElem?_append_right hi] at e1
    have e2' : (js.map fun j => (σ[j]?).join)[i - own.length]? = some (some v) := by
      unfold blkσ at e2
      rw [List.getElem?_append_right (by simpa using hi)] at e2
      simpa using e2
    rw [List.getElem?_map] at e1' e2'
    cases q : js[i - own.length]? with
    | none => rw [q] at e1'; cases e1'
    | some j =>
      rw [q] at e1' e2'
      obtain ⟨x', hx', hfree⟩ := c.out j (List.mem_of_getElem? q)
      have ex : x' = x := by
        have : X.N.getD j Str.empty = x := Option.some.inj e1'
        rw [List.getD_eq_getElem?_getD, hx'] at this
        exact this
      subst ex
      have eσ : σ[j]? = some (some v) := by
        have e2'' : (σ[j]?).join = some v := Option.some.inj e2'
        cases r : σ[j]? with
        | none => rw [r] at e2''; cases e2''
        | some z => rw [r] at e2''; cases z with
          | none => cases e2''
          | some y => cases e2''; rfl
      have hmem : (x', NameKind.free) ∈ scope.names := PySem.mem_of_lookup hfree
      have hkX := c.free _ hmem rfl
      have vis : Vis X.env.scope x' := by
        rcases hkX with z | z
        · exact .inr (.inl z)
        · exact .inr (.inr z)
      obtain ⟨m0, hn0, hl0⟩ := I.loc
      obtain ⟨u, r, l⟩ := hl0 j x' v hx' eσ vis
      refine ⟨u, r, .inr ⟨relabel_free hfree, ?_⟩⟩
      obtain ⟨a, ha⟩ := cl_has (env := X.env) scope.names [] hmem
      have hnc : (x', NameKind.cell) ∉ scope.names := fun z => by
        have y := c.names _ z
        dsimp only at y
        rw [hfree] at y
        cases y
      refine ⟨a, (cf_old _ _ _ hnc).trans ha, ?_⟩
      have haX := (c.look I ha).1
      rcases l with ⟨z, _⟩ | ⟨_, a', ha', ⟨o, ho', hd⟩⟩
      · have z : X.env.kindOf x' = some .local := z
        rcases hkX with y | y
        · have y : X.env.kindOf x' = some .cell := y
          rw [z] at y; cases y
        · have y : X.env.kindOf x' = some .free := y
          rw [z] at y; cases y
      · rw [haX] at ha'; cases ha'
        exact ⟨o, k _ o ho', hd⟩
  · rcases kc x a e with q | ⟨_, q⟩
    · obtain ⟨v, o, ho', hd⟩ := I.cell x a (c.look I q).1
      exact ⟨v, o, k _ o ho', hd⟩
    · exact ⟨none, q⟩
  · show upd H acc (.lst []) C = none
    rw [upd_ne (Nat.ne_of_gt haC)]
    exact fresh hC
  · rcases kc x a e with q | ⟨q, _⟩
    · have e' := (c.look I q).1
      obtain ⟨v, o, ho', hd⟩ := I.cell x a e'
      rw [upd_ne (neA a o ho')]
      exact I.freeC x a e'
    · rw [upd_ne (Nat.ne_of_gt (Nat.lt_of_lt_of_le haC (Nat.le_of_succ_le q)))]
      exact fresh (Nat.le_trans hC (Nat.le_of_succ_le q))
  · have hp : p ∈ X.pn ++ pins := by simpa [Cx.blkK, Cx.blk] using hp
    obtain ⟨e, n, ne, nf, d⟩ := I.pin p hp
    refine ⟨k _ _ e, by rw [upd_ne (neA _ _ e)]; exact n, Nat.ne_of_lt (Nat.lt_of_lt_of_le (Heap.lt_size e) hC), fun z => ?_, d⟩
    rcases List.mem_cons.mp (I.stkSub _ z) with q | q
    · exact ne q
    · exact nf q
theorem blkK_end {τ : St} {pl : List (Addr × Obj)} (I : Inv X pins σ H s) (hf : ∀ b ∈ fp, FpOk X pins H b) (J : Inv (X.blkK scope own js s H C fp pins) pl τ H' s') : Inv X pins σ H' s' :=
  I.call' J.os J.base J.hok J.bare fun b hb => ⟨(hf b hb).2.2.2.1, (hf b hb).2.1, (hf b hb).2.2.2.2.1, (hf b hb).2.2.2.2.2⟩
end
section
variable {X : Cx} {scope : Scope} {own : List Str} {js : List Nat} {elt iter target : Expr} {ifs : List Expr} {wi : TI} {g : TG} {tt : TT} {te : TE} {pos : Pos}
theorem blkK_run {pins : List (Addr × Obj)} {σ : St} {H2 : Hp} {s₂ : Shared} {it : Addr} {fp : List Addr} {tn : Nat → Heap → Prop} {J : It} {Q : VK} {E : Value → Shared → Prop} {RR : Value → Addr → Result → Shared → Prop}
    (c : CompOkK X scope own js) (hc : X.calm = true) (hgk : GKeep own g)
    (hg : ∀ s H C fp pins, PG (X.blkK scope own js s H C fp pins) target g) (ht : ∀ s H C fp pins, PTs (X.blkK scope own js s H C fp pins) ifs tt) (he : ∀ s H C fp pins, PE (X.blkK scope own js s H C fp pins) elt te)
    (I : Inv X pins σ H2 s₂) (T : Turn X.prog X.w X.K target J fp it tn) (st : tn 0 s₂.heap) (hf : ∀ b ∈ fp, FpOk X pins H2 b) (h : tCompW own js g tt te σ J H2 Q)
    (hRR : ∀ acc C H' s' m, s₂.heap.objs.size ≤ C → H' C = none → Inv X pins σ H' s' → s'.heap.Ns C m → Q (.ref acc) H' → RR (.ref acc) C (.ok .next) s') :
    wpAny (model X.prog X.w) X.A (newList []) (fun acc s₃ => wpAny (model X.prog X.w) X.A (newFunctionEnv scope X.env.globals (clOf scope X.env) [] X.env.qual none .none (some X.env)) (fun cenv s₄ =>
      codeAny (model X.prog X.w) X.A (.compStart (.ListComp elt [⟨target, iter, ifs, 0⟩] scope pos) 0 (.ref it) acc { cenv with scope := relabel scope X.env }) (RR acc cenv.locals) s₄) E s₃) E s₂ := by
  refine wpAny_newObj_type (newEnv_own fun h₁ hns₁ old₁ kc₁ => ?_)
  dsimp only at hns₁ old₁ kc₁ ⊢
  generalize hH2 : s₂.heap.push { cls := .type "list", dict := none, data := .seq ([] : List Value).toArray } = G2 at hns₁ old₁ kc₁ ⊢
  have hC : G2.objs.size = s₂.heap.objs.size + 1 := by rw [← hH2, Heap.size_push]
  have hDC : s₂.heap.objs.size < G2.objs.size := by rw [hC]; exact Nat.lt_succ_self _
  have hCle : s₂.heap.objs.size ≤ G2.objs.size := Nat.le_of_lt hDC
  have old : ∀ b o, s₂.heap.get? b = some o → h₁.get? b = some o := fun b o e => old₁ b o (hH2 ▸ Heap.get?_push_of_some _ e)
  have hacc : h₁.get? s₂.heap.objs.size = some { cls := .type "list", data := .seq ([] : List Value).toArray 0 } := old₁ _ _ (hH2 ▸ Heap.get?_push_size _ rfl)
  have ho2 : ∀ b ∈ fp, ∃ o, s₂.heap.get? b = some o := fun b hb => let ⟨o, e, _⟩ := T.obj 0 _ st b hb; ⟨o, e⟩
  have I0 : ∀ tk, Inv (X.blkK scope own js s₂ H2 G2.objs.size fp pins) [] (blkσ own js σ) (upd H2 s₂.heap.objs.size (.lst [])) { s₂ with heap := h₁, toks := tk } := fun tk =>
    blkK_start c I hCle hf ho2 hns₁ old kc₁ (Nat.le_refl _) hDC hacc
  obtain ⟨W, nn, w0, turn⟩ := h s₂.heap.objs.size (I.hok.fresh (Nat.le_refl _))
  generalize hacc' : s₂.heap.objs.size = acc at *
  generalize hGC : G2.objs.size = C at *
  have st1 : tn 0 h₁ := T.keep 0 _ _ st fun b _ o e => old b o e
  have fOk : ∀ {H' : Hp}, (∀ b ∈ fp, H' b = none) → ∀ b ∈ fp, FpOk (X.blkK scope own js s₂ H2 C fp pins) [] H' b := fun hn b hb => by
    obtain ⟨f0, f1, f2, f3, f4, f5⟩ := hf b hb
    obtain ⟨o, e⟩ := ho2 b hb
    have hbC : b < C := Nat.lt_of_lt_of_le (Heap.lt_size e) (by rw [← hacc'] at hCle; exact hCle)
    refine ⟨hn b hb, Nat.ne_of_lt hbC, fun z => ?_, .inl hb, fun x a h => ?_, fun p hp => f5 p (by simpa [Cx.blkK, Cx.blk] using hp)⟩
    · rcases List.mem_cons.mp (I.stkSub b z) with q | q
      · exact f1 q
      · exact f2 q
    · rcases c.lookK I h with ⟨q, _⟩ | ⟨q, _⟩
      · exact Nat.ne_of_gt (Nat.lt_of_lt_of_le hbC (Nat.le_of_succ_le q))
      · exact f4 x a q
  have loop : ∀ s₃ : Shared, s₃ = { s₂ with heap := h₁ } →
      codeAny (model X.prog X.w) X.A (.compLoop (.ListComp elt [⟨target, iter, ifs, 0⟩] scope pos) 0 (.ref it) (.ref acc) (compEnvC scope (cellsFrom (C + 1) scope.names (clOf scope X.env)) C X.env)) (RR (.ref acc) C) s₃ := by
    rintro s₃ rfl
    refine codeAny_compLoop_go (fun n s' => ∃ i H', n = nn - i ∧ Inv (X.blkK scope own js s₂ H2 C fp pins) [] (blkσ own js σ) H' s' ∧ tn i s'.heap ∧ (∀ b ∈ fp, H' b = none) ∧ W i H') ?_ nn ⟨0, _, rfl, I0 _, st1, fun b hb => ?_, w0⟩
    · rintro n s3 ⟨i, H3, en, I3, st3, fr3, w3⟩
      rcases turn i H3 w3 with ⟨stop, qn⟩ | ⟨hin, go, step⟩
      · refine thn (T.done (X.blkK scope own js s₂ H2 C fp pins) rfl rfl rfl hc i [] s3 _ H3 (fun _ _ => False) I3 (fOk fr3) st3 stop) fun r s4 ⟨hr, I4⟩ => ?_
        subst hr
        obtain ⟨m, hn, _⟩ := I4.loc
        exact hRR acc C H3 s4 m hCle I4.free (blkK_end I hf I4) hn qn
      · refine thn (T.item (X.blkK scope own js s₂ H2 C fp pins) rfl rfl rfl hc i [] s3 _ H3 (fun _ _ => False) I3 (fOk fr3) st3 go) fun r s4 ⟨u, hr, h4⟩ => ?_
        subst hr
        refine thn h4 fun _ s5 ⟨x, H5, I5, r5, y5, st5, fr5⟩ => ?_
        have I5' := I5.pinned (fOk fr5) (T.obj _ _ st5)
        have again : ∀ {σ7 : St} {H7 : Hp} {s7 : Shared}, Inv (X.blkK scope own js s₂ H2 C fp pins) ([] ++ pinsAt fp s5.heap) σ7 H7 s7 → (∀ (j : Nat) v, (blkσ own js σ)[j]? = some (some v) → σ7[j]? = some (some v)) → W (i + 1) H7 →
            ∃ m, m < n ∧ ∃ i H', m = nn - i ∧ Inv (X.blkK scope own js s₂ H2 C fp pins) [] (blkσ own js σ) H' s7 ∧ tn i s7.heap ∧ (∀ b ∈ fp, H' b = none) ∧ W i H' := fun {σ7 H7 s7} I7 hw w7 => by
          refine ⟨nn - (i + 1), by omega, i + 1, H7, rfl, (I7.unpinned).weak ((blk_len own js σ X).trans I7.len.symm) hw, T.keep _ _ _ st5 fun b hb o e => (I7.pin (b, o) (List.mem_append_right _ (List.mem_append_right _ (mem_pinsAt hb e)))).1, fun b hb => ?_, w7⟩
          obtain ⟨o, e, d⟩ := T.obj _ _ st5 b hb
          exact (I7.pin (b, o) (List.mem_append_right _ (List.mem_append_right _ (mem_pinsAt hb e)))).2.1
        refine thn (hg s₂ H2 C fp pins _ s5 _ H5 x u _ I5' r5 (hgk _ _ _ _ _ (step x H5 y5))) fun _ s6 ⟨σ6, H6, I6, kp, q6⟩ => ?_
        refine thn (ht s₂ H2 C fp pins _ s6 σ6 H6 _ I6 q6) fun ok s7 ⟨H7, I7, q7⟩ => ?_
        cases ok with
        | false =>
          exact again I7 kp q7
        | true =>
          refine thn (he s₂ H2 C fp pins _ s7 σ6 H7 _ I7 q7) fun y s8 ⟨v, H8, I8, r8, ys, hl, hz, w8⟩ => ?_
          refine thn (mt_append (X := X.blkK scope own js s₂ H2 C fp pins) _ s8 σ6 H8 (.ref acc) [v] (.ref acc) [y] (fun _ H9 => W (i + 1) H9) I8 rfl (.cons r8 .nil) ⟨acc, ys, v, rfl, rfl, hl, hz, w8⟩) fun _ s9 ⟨_, H9, I9, _, w9⟩ => ?_
          exact again I9 kp w9
    · rw [upd_ne ?_]
      · exact (hf b hb).1
      · obtain ⟨o, e⟩ := ho2 b hb
        rw [← hacc']
        exact Nat.ne_of_lt (Heap.lt_size e)
  exact codeAny_compStart_list (loop _ rfl) (T.self _ 0 _ _ _ st1 (loop _ rfl))
/-- the comprehension as a value -/
theorem pe_compK (c : CompOkK X scope own js) (hc : X.calm = true) (hi : PI X target iter wi) (hgk : GKeep own g)
    (hg : ∀ s H C fp pins, PG (X.blkK scope own js s H C fp pins) target g) (ht : ∀ s H C fp pins, PTs (X.blkK scope own js s H C fp pins) ifs tt) (he : ∀ s H C fp pins, PE (X.blkK scope own js s H C fp pins) elt te)
    (hs : ∀ x, foldedSetIterable iter X.env x = pure x := by intro _; rfl) : PE X (.ListComp elt [⟨target, iter, ifs, 0⟩] scope pos) (tComp own js wi g tt te) := by
  intro pins s σ H Q I h
  rw [eval_ListComp]
  refine wpAny_comprehension_free (use := none) rfl hs (closure_cl (c.cl I)) c.kind (fun y hy hl => hl ▸ c.names y hy) (thn (hi pins s σ H _ I h) fun v s1 h1 => thn h1 fun itv s2 h2 => ?_)
  obtain ⟨it, fp, tn, J, H2, e, I2, T, st2, f2, hw⟩ := h2
  subst e
  refine blkK_run (RR := fun acc C => compPost (model X.prog X.w) X.A X.xe none (EP X pins σ Q) acc C) c hc hgk hg ht he I2 T st2 f2 hw ?_
  intro acc C H' s' m hCs hCn I' hn q
  refine ⟨m, hn, fun h' hs' => ⟨.ref acc, H', I'.other hs' hCn ?_ ?_ ?_ ?_, rfl, q⟩⟩
  · exact Nat.ne_of_gt (Nat.lt_of_lt_of_le I2.lt hCs)
  · exact Nat.le_trans I2.sz hCs
  · intro x a e z
    obtain ⟨v, q⟩ := I2.cell x a e
    exact absurd (Nat.lt_of_lt_of_le q.lt (by rw [z]; exact hCs)) (Nat.lt_irrefl _)
  · intro p hp z
    exact absurd (Nat.lt_of_lt_of_le (Heap.lt_size (I2.pin p hp).1) (by rw [z]; exact hCs)) (Nat.lt_irrefl _)
end
def compChkK (scope sc : Scope) (js : List Nat) (N : List Str) : Bool :=
  (scope.kind == .function) && (scope.names.all fun y => ((y.2 != .free) || (sc.names.lookup y.1 == some .cell) || (sc.names.lookup y.1 == some .free)) && (scope.names.lookup y.1 == some y.2)) &&
  (js.all fun j => match N[j]? with | some x => scope.names.lookup x == some .free | none => false)
theorem CompOkK.by {X : Cx} {scope sc : Scope} {own N : List Str} {js : List Nat} (hX : X.env.scope = sc) (hN : X.N = N) (h : compChkK scope sc js N = true) : CompOkK X scope own js := by
  unfold compChkK at h
  simp only [Bool.and_eq_true, beq_iff_eq, List.all_eq_true, Bool.or_eq_true, bne_iff_ne, ne_eq] at h
  obtain ⟨⟨h1, h2⟩, h3⟩ := h
  refine ⟨h1, fun y hy hf => ?_, fun y hy => (h2 y hy).2, fun j hj => ?_⟩
  · show X.env.scope.names.lookup y.1 = _ ∨ X.env.scope.names.lookup y.1 = _
    rw [hX]
    rcases (h2 y hy).1 with (z | z) | z
    · exact absurd hf z
    · exact .inl z
    · exact .inr z
  · have := h3 j hj
    rw [hN]
    cases e : N[j]? with
    | none => rw [e] at this; cases this
    | some x => rw [e] at this; exact ⟨x, rfl, beq_iff_eq.mp this⟩
end L2

set_option Elab.async false
set_option linter.all false
set_option maxRecDepth 100000
set_option maxHeartbeats 4000000
namespace L2
open PySem PySem.Spec PyProof.Rows
theorem piK_zipB (K : PySem.W.Frag) {X : Cx} {es : List Expr} {x1} {tpos : Pos} {e f : Expr} {ta : TA} {p pos : Pos} (hg : Gl X "zip") (hm : X.mg "zip" = none) (ha : PA X [e, f] ta) (hK : X.K = K := by rfl) (hs : starEach [e, f] X.env = [(false, eval e X.env), (false, eval f X.env)] := by rfl) (hs2 : starEach [f] X.env = [(false, eval f X.env)] := by rfl) :
    PI X (.Tuple es x1 tpos) (.Call (.Name "zip" p) [e, f] [] pos) (iZipB K ta) := by subst hK; exact pi_zipB hg hm ha hs hs2
/-- the inner clause over zip of two of like length -/
theorem in_zip {b1 b2 : Bool} {K : PySem.W.Frag} {g2 : TG} {tt2 : TT} {te : TE} {τ : St} {acc a b : Addr} {xs ys : List V} {H6 : Hp} {Z : Hp → Prop} (hlen : xs.length ≤ ys.length) (W2 : Nat → Hp → Prop) (h0 : W2 0 H6)
    (hl : ∀ i H, i ≤ xs.length → W2 i H → SqB b1 K H a xs ∧ SqB b2 K H b ys)
    (hs : ∀ i x y p H, xs[i]? = some x → ys[i]? = some y → W2 i H → H p = none → g2 (.ref p) τ (upd H p (.tup [x, y])) fun τ2 H9 => tt2 τ2 H9 fun c H10 =>
      if c = true then te τ2 H10 fun z H11 => ∃ zs, H11 acc = some (.lst zs) ∧ zs.length < sizeLine ∧ (i + 1 ≤ xs.length ∧ W2 (i + 1) (upd H11 acc (.lst (zs ++ [z])))) else (i + 1 ≤ xs.length ∧ W2 (i + 1) H10))
    (hd : ∀ H, W2 xs.length H → Z H) : tInW g2 tt2 te τ acc (ItzB b1 b2 K a b) H6 Z := by
  refine ⟨fun i H => i ≤ xs.length ∧ W2 i H, xs.length, ⟨Nat.zero_le _, h0⟩, ?_⟩
  rintro i H ⟨hi, p⟩
  obtain ⟨q1, q2⟩ := hl i H hi p
  by_cases hlt : i < xs.length
  · have hl2 : i < ys.length := by omega
    refine .inr ⟨hlt, ⟨xs, ys, xs[i], ys[i], q1, q2, by simp [hlt], by simp [hl2]⟩, fun x H' y => ?_⟩
    obtain ⟨pa, z1, z2, hp, e1, e2, y1, y2⟩ := y
    subst e1 e2
    exact hs i z1 z2 pa H (y1 xs q1) (y2 ys q2) p hp
  · have e : i = xs.length := by omega
    subst e
    exact .inl ⟨⟨xs, ys, q1, q2, .inl (Nat.le_refl _)⟩, hd H p⟩
/-- the outer clause over zip of two of like length -/
theorem comp2_zip {b1 b2 : Bool} {K : PySem.W.Frag} {own : List Str} {js : List Nat} {g1 : TG} {tt1 : TT} {wi2 : TI} {g2 : TG} {tt2 : TT} {te : TE} {σ : St} {H1 : Hp} {Q : VK} {a b : Addr} {xs ys : List V} (hlen : xs.length ≤ ys.length) (Pv : Addr → Nat → Hp → Prop) (h0 : ∀ acc, H1 acc = none → Pv acc 0 (upd H1 acc (.lst [])))
    (hl : ∀ acc i H, H1 acc = none → i ≤ xs.length → Pv acc i H → SqB b1 K H a xs ∧ SqB b2 K H b ys)
    (hs : ∀ acc i x y p H, H1 acc = none → xs[i]? = some x → ys[i]? = some y → Pv acc i H → H p = none → g1 (.ref p) (blkσ own js σ) (upd H p (.tup [x, y])) fun τ H4 => tt1 τ H4 fun c H5 =>
      if c = true then wi2 τ H5 fun J2 H6 => tInW g2 tt2 te τ acc J2 H6 (fun H7 => i + 1 ≤ xs.length ∧ Pv acc (i + 1) H7) else (i + 1 ≤ xs.length ∧ Pv acc (i + 1) H5))
    (hd : ∀ acc H, H1 acc = none → Pv acc xs.length H → Q (.ref acc) H) : tComp2W own js g1 tt1 wi2 g2 tt2 te σ (ItzB b1 b2 K a b) H1 Q := by
  intro acc hacc
  refine ⟨fun i H => i ≤ xs.length ∧ Pv acc i H, xs.length, ⟨Nat.zero_le _, h0 acc hacc⟩, ?_⟩
  rintro i H ⟨hi, p⟩
  obtain ⟨q1, q2⟩ := hl acc i H hacc hi p
  by_cases hlt : i < xs.length
  · have hl2 : i < ys.length := by omega
    refine .inr ⟨hlt, ⟨xs, ys, xs[i], ys[i], q1, q2, by simp [hlt], by simp [hl2]⟩, fun x H' y => ?_⟩
    obtain ⟨pa, z1, z2, hp, e1, e2, y1, y2⟩ := y
    subst e1 e2
    exact hs acc i z1 z2 pa H hacc (y1 xs q1) (y2 ys q2) p hp
  · have e : i = xs.length := by omega
    subst e
    exact .inl ⟨⟨xs, ys, q1, q2, .inl (Nat.le_refl _)⟩, hd acc H hacc p⟩
end L2
namespace Lv
open PySem L2
/-! ### what a laying reads -/
/-- the numbers at real places, of the first k -/
def selK (xs : List Int) (bs : List Bool) (k : Nat) : List Int := (((xs.zip bs).take k).filter (·.2)).map (·.1)
def sel (xs : List Int) (bs : List Bool) : List Int := ((xs.zip bs).filter (·.2)).map (·.1)
theorem selK_succ {xs : List Int} {bs : List Bool} {k : Nat} {x : Int} {b : Bool} (hx : xs[k]? = some x) (hb : bs[k]? = some b) : selK xs bs (k + 1) = selK xs bs k ++ (if b then [x] else []) := by
  have hz : (xs.zip bs)[k]? = some (x, b) := by rw [List.getElem?_zip_eq_some]; exact ⟨hx, hb⟩
  unfold selK
  rw [List.take_add_one, hz, Option.toList_some, List.filter_append, List.map_append]
  cases b <;> rfl
theorem selK_all {xs : List Int} {bs : List Bool} (h : xs.length = bs.length) : selK xs bs xs.length = sel xs bs := by
  unfold selK sel
  rw [List.take_of_length_le (by rw [List.length_zip]; omega)]
theorem selK_len (xs : List Int) (bs : List Bool) (k : Nat) : (selK xs bs k).length ≤ xs.length := by
  unfold selK
  rw [List.length_map]
  refine Nat.le_trans (List.length_filter_le _ _) ?_
  rw [List.length_take, List.length_zip]
  omega
def readL (N : List (List Int)) (B : List (List Bool)) : List Int := (List.zipWith sel N B).flatten
def readOf (N : List (List Int)) (B : List (List Bool)) : Int := (List.zipWith (fun xs bs => (sel xs bs).sum) N B).sum
theorem readL_sum : ∀ (N : List (List Int)) (B : List (List Bool)), (readL N B).sum = readOf N B
  | [], _ => by simp [readL, readOf]
  | _ :: _, [] => by simp [readL, readOf]
  | x :: N, b :: B => by
    have := readL_sum N B
    unfold readL readOf at this ⊢
    rw [List.zipWith_cons_cons, List.flatten_cons, List.sum_append, List.zipWith_cons_cons, List.sum_cons, this]
theorem take_readL {N : List (List Int)} {B : List (List Bool)} {i : Nat} {x : List Int} {b : List Bool} (hx : N[i]? = some x) (hb : B[i]? = some b) : readL (N.take (i + 1)) (B.take (i + 1)) = readL (N.take i) (B.take i) ++ sel x b := by
  have h1 := (List.getElem?_eq_some_iff.mp hx).1
  have h2 := (List.getElem?_eq_some_iff.mp hb).1
  unfold readL
  rw [← List.take_zipWith, ← List.take_zipWith, List.take_add_one]
  have : (List.zipWith sel N B)[i]? = some (sel x b) := by rw [List.getElem?_zipWith, hx, hb]
  rw [this, Option.toList_some, List.flatten_append]
  simp
def spRead : Sp := fun vs H Q _ => ∃ (a b : Addr) (qs rs : List Addr) (N : List (List Int)) (B : List (List Bool)), vs = [.ref a, .ref b] ∧ H a = some (.tup (qs.map V.ref)) ∧ H b = some (.tup (rs.map V.ref)) ∧ TTs H qs N ∧ TBs H rs B ∧ N.length = B.length ∧ N.length ≤ 7 ∧
  (∀ (j : Nat) x y, N[j]? = some x → B[j]? = some y → x.length = y.length ∧ x.length ≤ 4000) ∧ ∀ H', Same H H' → Q (.int (readOf N B)) H'
theorem num_get {p : Nat} {n j : Nat} {x : List Int} (h : (num p n)[j]? = some x) : (x.length : Int) = (cnt p n).getD j 0 := by
  rw [← lens_num p n]
  unfold lens
  rw [List.getD_eq_getElem?_getD, List.getElem?_map, h]
  rfl
end Lv

set_option Elab.async false
set_option linter.all false
set_option maxRecDepth 100000
set_option maxHeartbeats 4000000
namespace Lv
open PySem L2
/-! ### layings: tuples of tuples of truths -/
def Lay (H : Hp) (a : Addr) (N : List (List Bool)) : Prop := ∃ rs, H a = some (.tup (rs.map V.ref)) ∧ TBs H rs N
theorem Lay.same {H H' : Hp} {a : Addr} {N : List (List Bool)} (h : Lay H a N) (s : Same H H') : Lay H' a N := by
  obtain ⟨rs, h1, h2⟩ := h
  exact ⟨rs, s _ _ h1, h2.same s⟩
/-- no more than so many reels, none with more than so many places -/
def Few (m k : Nat) (N : List (List Bool)) : Prop := N.length ≤ m ∧ ∀ bs ∈ N, bs.length ≤ k
def lensB (N : List (List Bool)) : List Int := N.map fun bs => (bs.length : Int)
def holdsB (c : List Int) (N : List (List Bool)) : Bool := decide (lensB N = c) && N.any fun bs => bs.any id
theorem cnt_any : ∀ (bs : List Bool), 0 < bs.count true ↔ bs.any id = true
  | [] => by simp
  | b :: bs => by
    have := cnt_any bs
    cases b with
    | true => simp
    | false => simpa using this
theorem sum_any : ∀ (N : List (List Bool)), 0 ≤ (N.map fun bs => ((bs.count true : Nat) : Int)).sum ∧ (0 < (N.map fun bs => ((bs.count true : Nat) : Int)).sum ↔ (N.any fun bs => bs.any id) = true)
  | [] => by simp
  | bs :: N => by
    obtain ⟨h1, h2⟩ := sum_any N
    have h3 := cnt_any bs
    rw [List.map_cons, List.sum_cons, List.any_cons, Bool.or_eq_true, ← h3, ← h2]
    refine ⟨by omega, ?_⟩
    omega
theorem ref_get {rs : List Addr} {i : Nat} {x : V} (h : (rs.map V.ref)[i]? = some x) : ∃ r, rs[i]? = some r ∧ x = .ref r := by
  rw [List.getElem?_map] at h
  cases e : rs[i]? with
  | none => rw [e] at h; cases h
  | some r => rw [e] at h; exact ⟨r, rfl, (Option.some.inj h).symm⟩
theorem TBs.at {H : Hp} {rs : List Addr} {N : List (List Bool)} (h : TBs H rs N) {i : Nat} {r : Addr} (e : rs[i]? = some r) : ∃ bs, N[i]? = some bs ∧ bs ∈ N ∧ H r = some (.tup (bs.map V.bl)) := by
  have hi := (List.getElem?_eq_some_iff.mp e).1
  have hi2 : i < N.length := by rw [← h.1]; exact hi
  exact ⟨N[i], List.getElem?_eq_getElem hi2, List.getElem_mem hi2, h.2 i r _ e (List.getElem?_eq_getElem hi2)⟩
def spTupOf2 : Sp := fun vs H Q _ => ∃ (a : Addr) (xs : List V) (n : Int), vs = [.ref a, .int n] ∧ H a = some (.tup xs) ∧ Q (.bl (decide ((xs.length : Int) = n))) H
def spFits : Sp := fun vs H Q _ => ∃ (a : Addr) (bs : List Bool) (n : Int), vs = [.ref a, .int n] ∧ H a = some (.tup (bs.map V.bl)) ∧ bs.length ≤ 4001 ∧ ∀ H', Same H H' → Q (.bl (decide ((bs.length : Int) = n))) H'
def spReal : Sp := fun vs H Q _ => ∃ (a : Addr) (N : List (List Bool)), vs = [.ref a] ∧ Lay H a N ∧ Few 9 4001 N ∧ ∀ H', Same H H' → Q (.int (N.map fun bs => ((bs.count true : Nat) : Int)).sum) H'
def spIsLay : Sp := fun vs H Q _ => ∃ (p n : Nat) (a : Addr) (N : List (List Bool)), vs = [.int p, .int n, .ref a] ∧ 2 ≤ p ∧ p ≤ 7 ∧ n ≤ 300 ∧ tot p n ≤ 4000 ∧ Lay H a N ∧ Few 9 4001 N ∧ ∀ H', Same H H' → Q (.bl (holdsB (cnt p n) N)) H'
end Lv

set_option Elab.async false
set_option linter.all false
set_option maxRecDepth 100000
set_option maxHeartbeats 4000000
namespace Lv
open PySem L2
/-! ### all places of a level, and which are real -/
def row3 (i : Nat) (x : Int) : List (Int × Int) := (List.range x.toNat).map fun (j : Nat) => ((i : Int), (j : Int))
def pl3 : Nat → List Int → List (Int × Int)
  | _, [] => []
  | i, x :: c => row3 i x ++ pl3 (i + 1) c
theorem pl3_snoc : ∀ (k : Nat) (c : List Int) (x : Int), pl3 k (c ++ [x]) = pl3 k c ++ row3 (k + c.length) x
  | k, [], x => by simp [pl3]
  | k, y :: c, x => by
    rw [List.cons_append, pl3, pl3, pl3_snoc (k + 1) c x, List.append_assoc, List.length_cons]
    congr 3
    omega
theorem take_snoc {α : Type} {c : List α} {i : Nat} {x : α} (h : c[i]? = some x) : c.take (i + 1) = c.take i ++ [x] := by rw [List.take_add_one, h]; rfl
theorem pl3_take {c : List Int} {i : Nat} {x : Int} (h : c[i]? = some x) : pl3 0 (c.take (i + 1)) = pl3 0 (c.take i) ++ row3 i x := by
  rw [take_snoc h, pl3_snoc, List.length_take, Nat.min_eq_left (by have := (List.getElem?_eq_some_iff.mp h).1; omega), Nat.zero_add]
theorem pl3_len : ∀ (k : Nat) (c : List Int), (∀ x ∈ c, 0 ≤ x) → ((pl3 k c).length : Int) = c.sum
  | _, [], _ => rfl
  | k, x :: c, h => by
    have h1 := h x List.mem_cons_self
    have ih := pl3_len (k + 1) c fun y hy => h y (List.mem_cons_of_mem _ hy)
    rw [pl3, List.length_append, List.sum_cons, ← ih]
    simp [row3]
    omega
theorem pl3_fst : ∀ (k : Nat) (c : List Int) (z : Int × Int), z ∈ pl3 k c → (k : Int) ≤ z.1
  | _, [], z, h => by simp [pl3] at h
  | k, x :: c, z, h => by
    rw [pl3] at h
    rcases List.mem_append.mp h with h | h
    · obtain ⟨j, _, rfl⟩ := List.mem_map.mp h
      exact Int.le_refl _
    · have := pl3_fst (k + 1) c z h
      omega
theorem pl3_nd : ∀ (k : Nat) (c : List Int), (pl3 k c).Nodup
  | _, [] => List.nodup_nil
  | k, x :: c => by
    rw [pl3, List.nodup_append]
    refine ⟨?_, pl3_nd (k + 1) c, fun a ha b hb => ?_⟩
    · refine (List.nodup_range (n := x.toNat)).map _ fun a b hne e => hne ?_
      have := congrArg Prod.snd e
      dsimp only at this
      omega
    · rintro rfl
      have h1 := pl3_fst _ _ _ hb
      obtain ⟨j, _, rfl⟩ := List.mem_map.mp ha
      dsimp only at h1
      omega
def nfR (ks : List (Int × Int)) (i : Nat) (x : Int) : List Bool := (List.range x.toNat).map fun (j : Nat) => decide (((i : Int), (j : Int)) ∈ ks)
def nf (ks : List (Int × Int)) : Nat → List Int → List (List Bool)
  | _, [] => []
  | i, x :: c => nfR ks i x :: nf ks (i + 1) c
theorem nf_snoc (ks : List (Int × Int)) : ∀ (k : Nat) (c : List Int) (x : Int), nf ks k (c ++ [x]) = nf ks k c ++ [nfR ks (k + c.length) x]
  | k, [], x => by simp [nf]
  | k, y :: c, x => by
    rw [List.cons_append, nf, nf, nf_snoc ks (k + 1) c x, List.cons_append, List.length_cons]
    congr 4
    omega
theorem nf_take {ks : List (Int × Int)} {c : List Int} {i : Nat} {x : Int} (h : c[i]? = some x) : nf ks 0 (c.take (i + 1)) = nf ks 0 (c.take i) ++ [nfR ks i x] := by
  rw [take_snoc h, nf_snoc, List.length_take, Nat.min_eq_left (by have := (List.getElem?_eq_some_iff.mp h).1; omega), Nat.zero_add]
theorem nf_flat (ks : List (Int × Int)) : ∀ (k : Nat) (c : List Int), (nf ks k c).flatten = (pl3 k c).map fun z => decide (z ∈ ks)
  | _, [] => rfl
  | k, x :: c => by
    rw [nf, List.flatten_cons, nf_flat ks (k + 1) c, pl3, List.map_append]
    congr 1
    simp [nfR, row3, List.map_map, Function.comp_def]
theorem nf_lens (ks : List (Int × Int)) : ∀ (k : Nat) (c : List Int), (∀ x ∈ c, 0 ≤ x) → lensB (nf ks k c) = c
  | _, [], _ => rfl
  | k, x :: c, h => by
    have h1 := h x List.mem_cons_self
    have ih := nf_lens ks (k + 1) c fun y hy => h y (List.mem_cons_of_mem _ hy)
    rw [nf]
    unfold lensB at ih ⊢
    rw [List.map_cons, ih]
    congr 1
    simp [nfR]
    omega
theorem count_map {α : Type} (f : α → Bool) : ∀ l : List α, (l.map f).count true = l.countP f
  | [] => rfl
  | a :: l => by
    rw [List.map_cons, List.count_cons, List.countP_cons, count_map f l]
    cases f a <;> rfl
theorem nf_count {ks zs : List (Int × Int)} {c : List Int} (h : (zs ++ ks).Perm (pl3 0 c)) : (nf ks 0 c).flatten.count true = ks.length := by
  have nd : (zs ++ ks).Nodup := h.nodup_iff.mpr (pl3_nd 0 c)
  rw [nf_flat, count_map, ← h.countP_eq, List.countP_append]
  have h1 : zs.countP (fun z => decide (z ∈ ks)) = 0 := by
    rw [List.countP_eq_zero]
    intro z hz hk
    exact (List.nodup_append.mp nd).2.2 z hz z (of_decide_eq_true hk) rfl
  have h2 : ks.countP (fun z => decide (z ∈ ks)) = ks.length := by
    rw [List.countP_eq_length]
    intro z hz
    exact decide_eq_true hz
  omega
/-- a dict of pairs -/
def dP (ks : List (Int × Int)) : List (List Key × V) := ks.map fun z => ([Sum.inl z.1, Sum.inl z.2], V.bl true)
theorem dP_key {a b : Int × Int} (h : ([Sum.inl a.1, Sum.inl a.2] : List Key) = [Sum.inl b.1, Sum.inl b.2]) : a = b := by
  simp only [List.cons.injEq, Sum.inl.injEq, and_true] at h
  exact Prod.ext h.1 h.2
theorem dP_val : ∀ (ks : List (Int × Int)) (z : Int × Int), (valV (dP ks) [Sum.inl z.1, Sum.inl z.2]).isSome = decide (z ∈ ks)
  | [], z => by simp [dP, valV]
  | k :: ks, z => by
    have ih := dP_val ks z
    show (valV (([Sum.inl k.1, Sum.inl k.2], V.bl true) :: dP ks) _).isSome = _
    by_cases e : ([Sum.inl k.1, Sum.inl k.2] : List Key) = [Sum.inl z.1, Sum.inl z.2]
    · rw [valV_pos e]
      have := dP_key e
      subst this
      simp
    · rw [valV_neg e, ih]
      have h1 : z ≠ k := fun q => e (by rw [q])
      simp [h1]
theorem dP_put {ks : List (Int × Int)} {z : Int × Int} (h : z ∉ ks) : putK (dP ks) [Sum.inl z.1, Sum.inl z.2] (V.bl true) = dP (ks ++ [z]) := by
  have hv : valV (dP ks) [Sum.inl z.1, Sum.inl z.2] = none := by
    have := dP_val ks z
    rw [decide_eq_false h] at this
    simpa using this
  rw [putK_new _ hv]
  simp [dP]
end Lv

set_option Elab.async false
set_option linter.all false
set_option maxRecDepth 100000
set_option maxHeartbeats 4000000
namespace L2
open PySem PySem.Spec PyProof.Rows PySem.SeqAt
/-! ### walking a list or a tuple, whichever it is -/
section
variable {b : Bool} {K : PySem.W.Frag} {own : List Str} {js : List Nat} {g1 g2 g : TG} {tt1 tt2 tt : TT} {wi2 : TI} {te : TE} {σ τ : St} {H1 H6 : Hp} {Q : VK} {a acc : Addr} {xs : List V}
end
end L2

set_option Elab.async false
set_option linter.all false
set_option maxRecDepth 100000
set_option maxHeartbeats 4000000
namespace L2
open PySem PySem.Spec PyProof.Rows PySem.SeqAt
end L2
namespace Lv
open PySem L2
theorem Same.sqB {b : Bool} {K : PySem.W.Frag} {H H' : Hp} {a : Addr} {xs : List V} (e : Same H H') (h : SqB b K H a xs) : SqB b K H' a xs := by
  cases b with
  | true => exact e.seq h
  | false => exact e.tup h
end Lv

set_option Elab.async false
set_option linter.all false
set_option maxRecDepth 100000
set_option maxHeartbeats 4000000
namespace Fs30
open PySem L2 Lv
def top (i : Nat) : Stmt := PySem.Challenge.pw_fewreels_k30_readings_of_layings.main.body.getD i (.Pass ⟨0, 0, 0, 0⟩)
abbrev sWhole : Stmt := top 15
abbrev sTupOf : Stmt := top 16
abbrev sWays : Stmt := top 21
abbrev sLevel : Stmt := top 22
abbrev sFirst : Stmt := top 23
abbrev sNext : Stmt := top 24
abbrev sCounts : Stmt := top 25
abbrev sTotal : Stmt := top 26
abbrev sTot : Stmt := top 29
abbrev sPlaces : Stmt := top 30
abbrev sFirstN : Stmt := top 31
abbrev sNextN : Stmt := top 32
abbrev sAfter : Stmt := top 33
abbrev sNumOf : Stmt := top 34
abbrev sLN : Stmt := top 35
abbrev sFits : Stmt := top 37
abbrev sReal : Stmt := top 38
abbrev sIsLay : Stmt := top 39
abbrev sRead : Stmt := top 40
abbrev sLayH : Stmt := top 41
abbrev sLayR : Stmt := top 42
abbrev sCellAt : Stmt := top 44
abbrev sPool : Stmt := top 45
abbrev sTake : Stmt := top 46
abbrev sLWhole : Stmt := top 47
abbrev sLCounts : Stmt := top 48
abbrev sLLevel : Stmt := top 49
abbrev sLNum : Stmt := top 50
abbrev sLay29 : Stmt := top 51
abbrev sOdd : Stmt := top 52
abbrev sKind : Stmt := top 53
abbrev sWord : Stmt := top 54
abbrev sRef30 : Stmt := top 55
abbrev sLaw : Stmt := top 56
end Fs30

set_option Elab.async false
set_option linter.all false
set_option maxRecDepth 100000
set_option maxHeartbeats 4000000
namespace Fs30
open PySem L2 Lv
section
variable {P : Program} {w : World} {K : PySem.W.Frag} {mg : Str → Option Value} {base : Heap}
/-! ### check_ways -/
theorem scWays : FnScope ["p"] ["p"] (defScope sWays) := ⟨rfl, rfl, rfl, by decide +kernel, rfl, by decide +kernel, by decide +kernel⟩
theorem ok_ways {f fW : Addr} {fd dW : FuncData} {t2 t7 : Tok} (F : Fun K "check_ways" "check_ways" sWays f fd) (T : Txt mg) (hL : mg "LEAST_WAYS" = some (.int 2 t2)) (hM : mg "MOST_WAYS" = some (.int 7 t7)) (CW : Cal P w K mg base 1 "is_whole" ["thing"] spWhole fW dW) :
    FnOk P w K mg base CX0 2 f fd ["p"] spWays := by
  refine F.ok scWays (fun vs H Q E h => ?_) (fun cdv A outer s H vs Q E hr h => ?_)
  · obtain ⟨i, rfl, _⟩ := h
    rfl
  · obtain ⟨i, rfl, h1, h2, k⟩ := h
    refine ⟨_, pss_one (ps_if (PW.pt (pw_or (pt_not (pt_val (pe_cal CW hr rfl (pa_cons (pv 0) pa_nil))))
      (pw_or1 (pt_not (pt_chain op_le op_le (pe_gint rfl hL) (pv 0) (pe_gint rfl hM)))))) pss_never pss_nil), ?_⟩
    refine ⟨_, rfl, i, rfl, true, rfl, iteF ?_⟩
    refine ⟨_, rfl, 2, i, rfl, rfl, _, rfl, ?_⟩
    rw [decide_eq_true h1]
    refine iteT ⟨i, 7, rfl, rfl, _, rfl, ?_⟩
    rw [decide_eq_true h2]
    exact iteF k
/-! ### check_level -/
theorem scLevel : FnScope ["n", "last"] ["n", "last"] (defScope sLevel) := ⟨rfl, rfl, rfl, by decide +kernel, rfl, by decide +kernel, by decide +kernel⟩
theorem ok_level {f fW da : Addr} {fd dW : FuncData} (F : FunD K "check_level" "check_level" sLevel f da fd) (T : Txt mg) (CW : Cal P w K mg base 1 "is_whole" ["thing"] spWhole fW dW) :
    FnOk P w K mg base CX0 2 f fd ["n", "last"] spLevelD := by
  refine F.ok scLevel (fun vs H Q E h => ?_) (fun cdv A outer s H vs Q E hr h => ?_)
  · obtain ⟨i, m, rfl, _⟩ := h
    rfl
  · obtain ⟨i, m, rfl, h1, h2, k⟩ := h
    refine ⟨_, pss_one (ps_if (PW.pt (pw_or (pt_not (pt_val (pe_cal CW hr rfl (pa_cons (pv 0) pa_nil))))
      (pw_or1 (pt_not (pt_chain op_le op_le pe_int (pv 0) (pv 1)))))) pss_never pss_nil), ?_⟩
    refine ⟨_, rfl, i, rfl, true, rfl, iteF ?_⟩
    refine ⟨_, rfl, 0, i, rfl, rfl, _, rfl, ?_⟩
    rw [decide_eq_true h1]
    refine iteT ⟨_, rfl, i, m, rfl, rfl, _, rfl, ?_⟩
    rw [decide_eq_true h2]
    exact iteF k
/-! ### first_counts -/
theorem scFirst : FnScope ["p"] ["p"] (defScope sFirst) := ⟨rfl, rfl, rfl, by decide +kernel, rfl, by decide +kernel, by decide +kernel⟩
theorem ok_first {f : Addr} {fd : FuncData} (F : Fun K "first_counts" "first_counts" sFirst f fd) (T : Txt mg) : FnOk P w K mg base CX0 1 f fd ["p"] spFirst := by
  refine F.ok scFirst (fun vs H Q E h => ?_) (fun cdv A outer s H vs Q E hr h => ?_)
  · obtain ⟨p, rfl, _⟩ := h
    rfl
  · obtain ⟨p, rfl, h1, h2, k⟩ := h
    refine ⟨_, pss_one (ps_ret (pe_callTy call_tuple_of rfl T.tuple b_tuple (pa_cons (pe_op op_cat (pe_lst (pa_cons pe_int pa_nil)) (pe_op op_rep (pe_lst (pa_cons pe_int pa_nil)) (pe_op op_sub (pv 0) pe_int))) pa_nil))), ?_⟩
    refine ⟨(by show 1 ≤ sizeLine; decide), fun p1 e1 => ⟨(by show 1 ≤ sizeLine; decide), fun p2 e2 => ⟨_, rfl, _, _, rfl, rfl, ?_⟩⟩⟩
    have z2 : (upd (upd H p1 (.lst [.int 1])) p2 (.lst [.int 0])) p1 = some (.lst [.int 1]) := by rw [upd_ne (ne_of_none upd_same e2)]; exact upd_same
    refine ⟨p2, (p : Int) - 1, _, rfl, rfl, upd_same, by omega, by omega, ?_, fun p3 e3 => ?_⟩
    · exact Nat.le_of_lt (small1000 (by show 1 * ((p : Int) - 1).toNat ≤ 1000; omega))
    have z3 := (Same.new (o := .lst (List.replicate ((p : Int) - 1).toNat [V.int 0]).flatten) e3) p1 _ z2
    have ez : (List.replicate ((p : Int) - 1).toNat [V.int 0]).flatten = List.replicate (p - 1) (V.int 0) := by
      rw [show ((p : Int) - 1).toNat = p - 1 by omega]
      exact List.flatten_replicate_singleton
    rw [ez] at z3 ⊢
    refine ⟨p1, p3, _, _, rfl, rfl, z3, upd_same, ?_, fun p4 e4 => ?_⟩
    · exact Nat.le_of_lt (small1000 (by rw [List.length_replicate]; show 1 + (p - 1) ≤ 1000; omega))
    refine ⟨p4, _, rfl, .inl ⟨SqL.of upd_same, fun l hl => ?_⟩⟩
    have s4 := (((Same.new (o := .lst [.int 1]) e1).trans (Same.new (o := .lst [.int 0]) e2)).trans (Same.new (o := .lst (List.replicate (p - 1) (V.int 0))) e3)).trans (Same.new (o := .lst ([.int 1] ++ List.replicate (p - 1) (V.int 0))) e4)
    refine k l _ (s4.free hl) ?_ (s4.trans (Same.new hl))
    rw [upd_same]
    simp [firstC]
/-! ### next_counts -/
theorem scNext : FnScope ["counts", "first"] ["counts"] (defScope sNext) := ⟨rfl, rfl, rfl, by decide +kernel, rfl, by decide +kernel, by decide +kernel⟩
theorem ok_next {f : Addr} {fd : FuncData} (F : Fun K "next_counts" "next_counts" sNext f fd) (T : Txt mg) : FnOk P w K mg base CX0 1 f fd ["counts"] (spNext K) := by
  refine F.ok scNext (fun vs H Q E h => ?_) (fun cdv A outer s H vs Q E hr h => ?_)
  · obtain ⟨a, c, rfl, _⟩ := h
    rfl
  · obtain ⟨a, c, rfl, hA, h1, h2, k⟩ := h
    refine ⟨_, pss_cons (ps_set (i := 1) scNext.nd rfl (Or.inr rfl) (pe_ix ix_tup (pv 0) pe_int (fun _ _ => rfl)))
      (pss_one (ps_ret (pe_callTy call_tuple_of rfl T.tuple b_tuple (pa_cons (pe_op op_cat
        (pe_comp (own := ["count"]) (js := [1]) (CompOk.by (sc := defScope sNext) (N := ["counts", "first"]) rfl rfl (by decide +kernel)) rfl (pi_tup (pe_slice sl_tup (pv 0) (po_some pe_int) po_none)) gkeep_name
          (fun _ _ _ _ _ => pg_name (i := 0) (by show (["count", "first"] : List Str).Nodup; decide +kernel) rfl (Or.inl rfl) (.inr rfl)) (fun _ _ _ _ _ => pts_nil) (fun _ _ _ _ _ => pe_op op_add (pv 1) (pv 0)))
        (pe_lst (pa_cons (pv 1) pa_nil))) pa_nil)))), ?_⟩
    obtain ⟨c0, cr, rfl⟩ : ∃ c0 cr, c = c0 :: cr := by
      cases c with
      | nil => simp at h1
      | cons x y => exact ⟨x, y, rfl⟩
    have hcr : cr.length ≤ 6 := by simpa using h2
    refine ⟨_, rfl, a, _, 0, .int c0, rfl, rfl, hA, atI_head, ?_⟩
    refine ⟨_, rfl, 1, rfl, a, _, rfl, hA, ?_, fun p1 e1 => ⟨p1, rfl, ⟨_, SqT.of upd_same⟩, ?_⟩⟩
    · rintro ⟨z, _⟩
      have : HT.sIx ((c0 :: cr).map V.int).length 0 (some ((1 : Nat) : Int)) = 0 := z
      rw [HT.sIx_nat] at this
      simp at this
    have ecut : cutV ((c0 :: cr).map V.int) (some 1) none = cr.map V.int := by
      unfold cutV
      show (((c0 :: cr).map V.int).drop (HT.sIx ((c0 :: cr).map V.int).length 0 (some ((1 : Nat) : Int)))).take (HT.sIx ((c0 :: cr).map V.int).length ((c0 :: cr).map V.int).length none - HT.sIx ((c0 :: cr).map V.int).length 0 (some ((1 : Nat) : Int))) = _
      rw [HT.sIx_nat]
      rw [show min 1 ((c0 :: cr).map V.int).length = 1 by simp]
      show (cr.map V.int).take (((c0 :: cr).map V.int).length - 1) = _
      rw [List.take_of_length_le (by simp)]
    rw [ecut]
    refine comp_tup (xs := cr.map V.int) (fun acc i H2 => Same (upd H p1 (.tup (cr.map V.int))) H2 ∧ H2 acc = some (.lst (((cr.take i).map (c0 + ·)).map V.int))) (fun acc h0 => ⟨Same.new h0, upd_same⟩) (fun acc i H2 h0 _ p => p.1.tup (SqT.of upd_same)) ?_ ?_
    · rintro acc i x H2 h0 hx ⟨s2, hacc⟩
      obtain ⟨z, hz, rfl⟩ := map_get hx
      have hi := (List.getElem?_eq_some_iff.mp hz).1
      refine ⟨_, rfl, _, rfl, _, _, rfl, rfl, _, hacc, ?_, by rw [List.length_map]; exact hi, s2.put h0, ?_⟩
      · exact small1000 (by simp; omega)
      · rw [upd_same, List.take_add_one, hz]
        simp
    · rintro acc H2 h0 ⟨s2, hacc⟩
      rw [List.length_map, List.take_length] at hacc
      refine ⟨_, rfl, (by show 1 ≤ sizeLine; decide), fun p2 e2 => ?_⟩
      refine ⟨acc, p2, _, _, rfl, rfl, (Same.new e2) acc _ hacc, upd_same, ?_, fun p3 e3 => ⟨p3, _, rfl, .inl ⟨SqL.of upd_same, fun l hl => ?_⟩⟩⟩
      · exact Nat.le_of_lt (small1000 (by simp; omega))
      have s3 := (((Same.new (o := .tup (cr.map V.int)) e1).trans s2).trans (Same.new (o := .lst [.int c0]) e2)).trans (Same.new (o := .lst (((cr.map (c0 + ·)).map V.int) ++ [.int c0])) e3)
      refine k l _ (s3.free hl) ?_ (s3.trans (Same.new hl))
      rw [upd_same]
      simp [nextC]
/-! ### level_counts -/
theorem scCounts : FnScope ["p", "n", "counts", "level"] ["p", "n"] (defScope sCounts) := ⟨rfl, rfl, rfl, by decide +kernel, rfl, by decide +kernel, by decide +kernel⟩
theorem ok_counts {f fA fB fC fD : Addr} {fd dA dB dC dD : FuncData} (F : Fun K "level_counts" "level_counts" sCounts f fd) (T : Txt mg) (CA : Cal P w K mg base 2 "check_ways" ["p"] spWays fA dA) (CB : CalD P w K mg base 2 "check_level" ["n", "last"] [.int 300] spLevelD fB dB) (CC : Cal P w K mg base 1 "first_counts" ["p"] spFirst fC dC) (CD : Cal P w K mg base 1 "next_counts" ["counts"] (spNext K) fD dD) :
    FnOk P w K mg base CX0 3 f fd ["p", "n"] spCounts := by
  refine F.ok scCounts (fun vs H Q E h => ?_) (fun cdv A outer s H vs Q E hr h => ?_)
  · obtain ⟨p, n, rfl, _⟩ := h
    rfl
  · obtain ⟨p, n, rfl, h1, h2, h3, k⟩ := h
    have hr1 : Room 1 _ := hr.mono (by decide)
    refine ⟨_, pss_cons (ps_expr (pe_cal CA hr rfl (pa_cons (pv 0) pa_nil))) (pss_cons (ps_expr (pe_calD CB hr rfl (pa_cons (pv 1) pa_nil)))
      (pss_cons (ps_set (i := 2) scCounts.nd rfl (Or.inl rfl) (pe_cal CC hr1 rfl (pa_cons (pv 0) pa_nil)))
      (pss_cons (ps_for PassesOwn.never rfl (pi_range1 rfl T.range (pa_cons (pv 1) pa_nil)) (pg_name (i := 3) scCounts.nd rfl (Or.inl rfl))
        (pss_one (ps_set (i := 2) scCounts.nd rfl (Or.inl rfl) (pe_cal CD hr1 rfl (pa_cons (pv 2) pa_nil)))))
      (pss_one (ps_ret (pv 2)))))), ?_⟩
    refine ⟨_, rfl, p, rfl, by omega, by omega, ?_⟩
    refine ⟨_, rfl, n, 300, rfl, by omega, by omega, ?_⟩
    refine ⟨_, rfl, p, rfl, h1, h2, fun l H1 hl0 hl1 s1 => ?_⟩
    refine ⟨_, rfl, n, rfl, by omega, by omega, for_range (fun i σ H2 => ∃ (l : Addr) (o : Option V), σ = [some (.int p), some (.int n), some (.ref l), o] ∧ H l = none ∧ H2 l = some (.tup ((cnt p i).map V.int)) ∧ Same H H2)
      ⟨l, none, rfl, hl0, hl1, s1⟩ ?_ ?_⟩
    · rintro i σ H2 hi ⟨l, o, rfl, hl0, hl2, s2⟩
      have hlen := cnt_len (p := p) (by omega) i
      refine ⟨_, rfl, l, cnt p i, rfl, SqT.of hl2, by omega, by omega, fun l3 H3 h30 h3 s3 => ?_⟩
      exact ⟨l3, _, rfl, s2.free h30, h3, s2.trans s3⟩
    · rintro σ H2 ⟨l, o, rfl, hl0, hl2, s2⟩
      refine ⟨_, rfl, k l H2 hl0 ?_ s2⟩
      simpa using hl2
/-! ### level_total -/
theorem scTotal : FnScope ["p", "n"] ["p", "n"] (defScope sTotal) := ⟨rfl, rfl, rfl, by decide +kernel, rfl, by decide +kernel, by decide +kernel⟩
theorem ok_total {f fA : Addr} {fd dA : FuncData} (F : Fun K "level_total" "level_total" sTotal f fd) (T : Txt mg) (CA : Cal P w K mg base 3 "level_counts" ["p", "n"] spCounts fA dA) : FnOk P w K mg base CX0 4 f fd ["p", "n"] spTotal := by
  refine F.ok scTotal (fun vs H Q E h => ?_) (fun cdv A outer s H vs Q E hr h => ?_)
  · obtain ⟨p, n, rfl, _⟩ := h
    rfl
  · obtain ⟨p, n, rfl, h1, h2, h3, k⟩ := h
    refine ⟨_, pss_one (ps_ret (pe_callB (call_sumT rfl) rfl T.sum b_sum (pa_cons (pe_cal CA hr rfl (pa_cons (pv 0) (pa_cons (pv 1) pa_nil))) pa_nil))), ?_⟩
    exact ⟨_, rfl, _, rfl, p, n, rfl, h1, h2, h3, fun l H1 hl0 hl1 s1 => ⟨l, _, rfl, SqT.of hl1, k H1 s1⟩⟩
/-! ### check_total -/
theorem scTot : FnScope ["total"] ["total"] (defScope sTot) := ⟨rfl, rfl, rfl, by decide +kernel, rfl, by decide +kernel, by decide +kernel⟩
theorem ok_tot {f : Addr} {fd : FuncData} {tM : Tok} (F : Fun K "check_total" "check_total" sTot f fd) (T : Txt mg) (hM : mg "MOST_PLACES" = some (.int 4000 tM)) : FnOk P w K mg base CX0 1 f fd ["total"] spTot := by
  refine F.ok scTot (fun vs H Q E h => ?_) (fun cdv A outer s H vs Q E hr h => ?_)
  · obtain ⟨i, rfl, _⟩ := h
    rfl
  · obtain ⟨i, rfl, h4, k⟩ := h
    refine ⟨_, pss_one (ps_if (pt_cmpR op_gt (pv 0) (pe_gint rfl hM) (nomark _)) pss_never pss_nil), ?_⟩
    refine ⟨_, rfl, _, _, rfl, rfl, _, rfl, ?_⟩
    rw [decide_eq_false (by omega)]
    exact iteF k
/-! ### first_numbers -/
theorem scFirstN : FnScope ["p"] ["p"] (defScope sFirstN) := ⟨rfl, rfl, rfl, by decide +kernel, rfl, by decide +kernel, by decide +kernel⟩
theorem ok_firstN {f : Addr} {fd : FuncData} (F : Fun K "first_numbers" "first_numbers" sFirstN f fd) (T : Txt mg) : FnOk P w K mg base CX0 1 f fd ["p"] spFirstN := by
  refine F.ok scFirstN (fun vs H Q E h => ?_) (fun cdv A outer s H vs Q E hr h => ?_)
  · obtain ⟨p, rfl, _⟩ := h
    rfl
  · obtain ⟨p, rfl, h1, h2, k⟩ := h
    refine ⟨_, pss_one (ps_ret (pe_callTy call_tuple_of rfl T.tuple b_tuple (pa_cons (pe_op op_cat (pe_lst (pa_cons (pe_tup (pa_cons pe_int pa_nil)) pa_nil)) (pe_op op_rep (pe_lst (pa_cons (pe_tup pa_nil) pa_nil)) (pe_op op_sub (pv 0) pe_int))) pa_nil))), ?_⟩
    refine ⟨(by show 1 ≤ sizeLine; decide), fun q0 e0 => ⟨(by show 1 ≤ sizeLine; decide), fun p1 e1 => ⟨Nat.zero_le _, fun q1 f1 => ⟨(by show 1 ≤ sizeLine; decide), fun p2 e2 => ⟨_, rfl, _, _, rfl, rfl, ?_⟩⟩⟩⟩⟩
    have t0 : Same H (upd H q0 (.tup [.int 0])) := Same.new e0
    have t1 := t0.trans (Same.new (o := .lst [.ref q0]) e1)
    have t2 := t1.trans (Same.new (o := .tup []) f1)
    have t3 := t2.trans (Same.new (o := .lst [.ref q1]) e2)
    have a0 : (upd (upd (upd (upd H q0 (.tup [.int 0])) p1 (.lst [.ref q0])) q1 (.tup [])) p2 (.lst [.ref q1])) q0 = some (.tup [.int 0]) := ((Same.new e1).trans ((Same.new f1).trans (Same.new e2))) q0 _ upd_same
    have a1 : (upd (upd (upd (upd H q0 (.tup [.int 0])) p1 (.lst [.ref q0])) q1 (.tup [])) p2 (.lst [.ref q1])) p1 = some (.lst [.ref q0]) := ((Same.new f1).trans (Same.new e2)) p1 _ upd_same
    have a2 : (upd (upd (upd (upd H q0 (.tup [.int 0])) p1 (.lst [.ref q0])) q1 (.tup [])) p2 (.lst [.ref q1])) q1 = some (.tup []) := (Same.new e2) q1 _ upd_same
    have a3 : (upd (upd (upd (upd H q0 (.tup [.int 0])) p1 (.lst [.ref q0])) q1 (.tup [])) p2 (.lst [.ref q1])) p2 = some (.lst [.ref q1]) := upd_same
    generalize (upd (upd (upd (upd H q0 (.tup [.int 0])) p1 (.lst [.ref q0])) q1 (.tup [])) p2 (.lst [.ref q1])) = H1 at t3 a0 a1 a2 a3 ⊢
    refine ⟨p2, (p : Int) - 1, _, rfl, rfl, a3, by omega, by omega, ?_, fun p3 e3 => ?_⟩
    · exact Nat.le_of_lt (small1000 (by show 1 * ((p : Int) - 1).toNat ≤ 1000; omega))
    have ez : (List.replicate ((p : Int) - 1).toNat [V.ref q1]).flatten = List.replicate (p - 1) (V.ref q1) := by
      rw [show ((p : Int) - 1).toNat = p - 1 by omega]
      exact List.flatten_replicate_singleton
    rw [ez]
    have s3 := Same.new (o := .lst (List.replicate (p - 1) (V.ref q1))) e3
    refine ⟨p1, p3, _, _, rfl, rfl, s3 p1 _ a1, upd_same, ?_, fun p4 e4 => ⟨p4, _, rfl, .inl ⟨SqL.of upd_same, fun l hl => ?_⟩⟩⟩
    · exact Nat.le_of_lt (small1000 (by rw [List.length_replicate]; show 1 + (p - 1) ≤ 1000; omega))
    have s4 := s3.trans (Same.new (o := .lst ([.ref q0] ++ List.replicate (p - 1) (V.ref q1))) e4)
    have s5 := s4.trans (Same.new (o := .tup ([.ref q0] ++ List.replicate (p - 1) (V.ref q1))) hl)
    have hl0 : H l = none := (t3.trans s4).free hl
    refine k l (q0 :: List.replicate (p - 1) q1) _ hl0 (by rw [upd_same]; simp) ⟨by simp [num0], fun j r xs ha hb => ?_⟩ (t3.trans s5)
    cases j with
    | zero =>
      have : r = q0 := by simpa using ha.symm
      have : xs = [0] := by simpa [num0] using hb.symm
      subst r xs
      exact s5 q0 _ a0
    | succ j =>
      have : r = q1 := rep_get (j := j) (by simpa using ha)
      have : xs = [] := rep_get (j := j) (by simpa [num0] using hb)
      subst r xs
      exact s5 q1 _ a2
/-! ### check_places -/
theorem scPlaces : FnScope ["p", "n"] ["p", "n"] (defScope sPlaces) := ⟨rfl, rfl, rfl, by decide +kernel, rfl, by decide +kernel, by decide +kernel⟩
theorem ok_places {f fA fB : Addr} {fd dA dB : FuncData} (F : Fun K "check_places" "check_places" sPlaces f fd) (T : Txt mg) (CA : Cal P w K mg base 4 "level_total" ["p", "n"] spTotal fA dA) (CB : Cal P w K mg base 1 "check_total" ["total"] spTot fB dB) : FnOk P w K mg base CX0 5 f fd ["p", "n"] spPlaces := by
  refine F.ok scPlaces (fun vs H Q E h => ?_) (fun cdv A outer s H vs Q E hr h => ?_)
  · obtain ⟨p, n, rfl, _⟩ := h
    rfl
  · obtain ⟨p, n, rfl, h1, h2, h3, h4, k⟩ := h
    have hr1 : Room 1 _ := hr.mono (by decide)
    refine ⟨_, pss_one (ps_expr (pe_cal CB hr1 rfl (pa_cons (pe_cal CA hr rfl (pa_cons (pv 0) (pa_cons (pv 1) pa_nil))) pa_nil))), ?_⟩
    exact ⟨_, rfl, _, rfl, p, n, rfl, h1, h2, h3, fun H1 s1 => ⟨_, rfl, h4, k H1 s1⟩⟩
/-! ### next_numbers -/
theorem scNextN : FnScope ["numbers", "first"] ["numbers"] (defScope sNextN) := ⟨rfl, rfl, rfl, by decide +kernel, rfl, by decide +kernel, by decide +kernel⟩
theorem ok_nextN {f : Addr} {fd : FuncData} (F : Fun K "next_numbers" "next_numbers" sNextN f fd) (T : Txt mg) : FnOk P w K mg base CX0 1 f fd ["numbers"] spNextN := by
  refine F.ok scNextN (fun vs H Q E h => ?_) (fun cdv A outer s H vs Q E hr h => ?_)
  · obtain ⟨a, rs, N, rfl, _⟩ := h
    rfl
  · obtain ⟨a, rs, N, rfl, hA, hT, h1, h2, hne, hz, k⟩ := h
    refine ⟨_, pss_cons (ps_set (i := 1) scNextN.nd rfl (Or.inr rfl) (pe_callTy call_tuple_of rfl T.tuple b_tuple (pa_cons (pe_comp (own := ["number"]) (js := []) (CompOk.by (sc := defScope sNextN) (N := ["numbers", "first"]) rfl rfl (by decide +kernel)) rfl (pi_tup (pe_ix ix_tup (pv 0) pe_int (fun _ _ => rfl))) gkeep_name
          (fun _ _ _ _ _ => pg_name (i := 0) (by show (["number"] : List Str).Nodup; decide +kernel) rfl (Or.inl rfl) (.inr rfl)) (fun _ _ _ _ _ => pts_nil) (fun _ _ _ _ _ => pe_op op_add (pv 0) pe_int)) pa_nil)))
      (pss_one (ps_ret (pe_callTy call_tuple_of rfl T.tuple b_tuple (pa_cons (pe_op op_cat
        (pe_comp (own := ["reel"]) (js := [1]) (CompOk.by (sc := defScope sNextN) (N := ["numbers", "first"]) rfl rfl (by decide +kernel)) rfl (pi_tup (pe_slice sl_tup (pv 0) (po_some pe_int) po_none)) gkeep_name
          (fun _ _ _ _ _ => pg_name (i := 0) (by show (["reel", "first"] : List Str).Nodup; decide +kernel) rfl (Or.inl rfl) (.inr rfl)) (fun _ _ _ _ _ => pts_nil) (fun _ _ _ _ _ => pe_op (opK_catT K) (pv 1) (pv 0)))
        (pe_lst (pa_cons (pv 1) pa_nil))) pa_nil)))), ?_⟩
    obtain ⟨x0, xr, rfl⟩ : ∃ x0 xr, N = x0 :: xr := by
      cases N with
      | nil => simp at h1
      | cons x y => exact ⟨x, y, rfl⟩
    obtain ⟨r0, rr, rfl⟩ : ∃ r0 rr, rs = r0 :: rr := by
      cases rs with
      | nil => have := hT.1; simp at this
      | cons x y => exact ⟨x, y, rfl⟩
    have hr0 : H r0 = some (.tup (x0.map V.int)) := hT.2 0 r0 x0 rfl rfl
    have hrl : rr.length = xr.length := by have := hT.1; simpa using this
    have hxr : xr.length ≤ 6 := by simpa using h2
    have hx0 : x0.length ≤ 4000 := hz x0 (by simp)
    have ef : fstN (x0 :: xr) = x0.map (· + 1) := rfl
    refine ⟨_, rfl, a, _, 0, .ref r0, rfl, rfl, SqT.of hA, atI_nat (j := 0) rfl, r0, rfl, ⟨_, SqT.of hr0⟩, ?_⟩
    refine comp_tup (xs := x0.map V.int) (fun acc i H2 => Same H H2 ∧ H2 acc = some (.lst (((x0.take i).map (· + 1)).map V.int))) (fun acc h0 => ⟨Same.new h0, upd_same⟩) (fun acc i H2 h0 _ p => p.1.tup (SqT.of hr0)) ?_ ?_
    · rintro acc i x H2 h0 hx ⟨s2, hacc⟩
      obtain ⟨z, hz', rfl⟩ := map_get hx
      have hi := (List.getElem?_eq_some_iff.mp hz').1
      refine ⟨_, rfl, z, 1, rfl, rfl, _, hacc, ?_, by rw [List.length_map]; exact hi, s2.put h0, ?_⟩
      · exact small8000 (by simp; omega)
      · rw [upd_same, List.take_add_one, hz', Option.toList_some, List.map_append, List.map_append]
        rfl
    rintro acc H2 h0 ⟨s2, hacc⟩
    rw [List.length_map, List.take_length] at hacc
    refine ⟨acc, _, rfl, .inl ⟨SqL.of hacc, fun fl hfl => ?_⟩⟩
    have s3 := s2.trans (Same.new (o := .tup ((x0.map (· + 1)).map V.int)) hfl)
    have hfl3 : (upd H2 fl (.tup ((x0.map (· + 1)).map V.int))) fl = some (.tup ((x0.map (· + 1)).map V.int)) := upd_same
    generalize (upd H2 fl (.tup ((x0.map (· + 1)).map V.int))) = H3 at s3 hfl3 ⊢
    have hfl0 : H fl = none := s2.free hfl
    refine ⟨_, rfl, 1, rfl, a, _, rfl, SqT.of (s3 a _ hA), ?_, fun p1 e1 => ⟨p1, rfl, ⟨_, SqT.of upd_same⟩, ?_⟩⟩
    · rintro ⟨z, _⟩
      have : HT.sIx ((r0 :: rr).map V.ref).length 0 (some ((1 : Nat) : Int)) = 0 := z
      rw [HT.sIx_nat] at this
      simp at this
    have ecut : cutV ((r0 :: rr).map V.ref) (some 1) none = rr.map V.ref := by
      unfold cutV
      show (((r0 :: rr).map V.ref).drop (HT.sIx ((r0 :: rr).map V.ref).length 0 (some ((1 : Nat) : Int)))).take (HT.sIx ((r0 :: rr).map V.ref).length ((r0 :: rr).map V.ref).length none - HT.sIx ((r0 :: rr).map V.ref).length 0 (some ((1 : Nat) : Int))) = _
      rw [HT.sIx_nat]
      rw [show min 1 ((r0 :: rr).map V.ref).length = 1 by simp]
      show (rr.map V.ref).take (((r0 :: rr).map V.ref).length - 1) = _
      rw [List.take_of_length_le (by simp)]
    rw [ecut]
    have s4 := s3.trans (Same.new (o := .tup (rr.map V.ref)) e1)
    have hfl4 := (Same.new (o := .tup (rr.map V.ref)) e1) fl _ hfl3
    have hp14 : (upd H3 p1 (.tup (rr.map V.ref))) p1 = some (.tup (rr.map V.ref)) := upd_same
    generalize (upd H3 p1 (.tup (rr.map V.ref))) = H4 at s4 hfl4 hp14 ⊢
    have hr : ∀ (j : Nat) r xs, rr[j]? = some r → xr[j]? = some xs → H r = some (.tup (xs.map V.int)) := fun j r xs a b => hT.2 (j + 1) r xs a b
    have hxz : ∀ xs ∈ xr, xs.length ≤ 4000 := fun xs hx => hz xs (by simp [hx])
    have hx0ne : x0 ≠ [] := hne
    refine comp_tup (xs := rr.map V.ref) (fun acc i H5 => Same H4 H5 ∧ ∃ qs : List Addr, H5 acc = some (.lst (qs.map V.ref)) ∧ TTs H5 qs ((xr.take i).map (x0.map (· + 1) ++ ·))) (fun acc h0 => ⟨Same.new h0, [], upd_same, rfl, fun j r xs a b => by simp at a⟩) (fun acc i H5 h0 _ p => p.1.tup (SqT.of hp14)) ?_ ?_
    · rintro acc i x H5 h0 hx ⟨s5, qs, hacc, hq⟩
      obtain ⟨r, hr', rfl⟩ := map_ref_get hx
      have hi := (List.getElem?_eq_some_iff.mp hr').1
      have hix : i < xr.length := by omega
      have hrx : H5 r = some (.tup (xr[i].map V.int)) := (s4.trans s5) r _ (hr i r _ hr' (List.getElem?_eq_getElem hix))
      have hfl5 := s5 fl _ hfl4
      have hxi : xr[i].length ≤ 4000 := hxz _ (List.getElem_mem hix)
      have hqs : qs.length ≤ 6 := by have := hq.1; simp at this; omega
      have e2 : (xr.take (i + 1)).map (x0.map (· + 1) ++ ·) = (xr.take i).map (x0.map (· + 1) ++ ·) ++ [x0.map (· + 1) ++ xr[i]] := by
        rw [List.take_succ_eq_append_getElem hix, List.map_append]
        rfl
      rw [e2]
      refine ⟨_, rfl, _, rfl, fl, r, _, _, rfl, rfl, SqT.of hfl5, SqT.of hrx, by simpa using hx0ne, ?_, fun hemp => ?_, fun hemp pn en => ?_⟩
      · exact Nat.le_of_lt (small8000 (by simp; omega))
      · have hemp' : xr[i] = [] := by simpa using hemp
        refine ⟨_, hacc, small8000 (by simp; omega), by rw [List.length_map]; exact hi, s5.put h0, qs ++ [fl], by rw [upd_same]; simp, ?_⟩
        refine (hq.lst hacc).snoc ?_
        rw [hemp', List.append_nil, upd_ne (by intro z; subst z; rw [hacc] at hfl5; cases hfl5)]
        exact hfl5
      · have hacc6 := (Same.new (o := .tup ((x0.map (· + 1)).map V.int ++ xr[i].map V.int)) en) acc _ hacc
        refine ⟨_, hacc6, small8000 (by simp; omega), by rw [List.length_map]; exact hi, (s5.trans (Same.new en)).put h0, qs ++ [pn], by rw [upd_same]; simp, ?_⟩
        refine ((hq.same (Same.new en)).lst hacc6).snoc ?_
        rw [upd_ne (by intro z; subst z; rw [hacc] at en; cases en), upd_same]
        simp
    · rintro acc H5 h0 ⟨s5, qs, hacc, hq⟩
      rw [List.length_map, hrl, List.take_length] at hq
      have hfl5 := s5 fl _ hfl4
      have hqs : qs.length ≤ 6 := by have := hq.1; simp at this; omega
      refine ⟨_, rfl, (by show 1 ≤ sizeLine; decide), fun p2 e2 => ?_⟩
      refine ⟨acc, p2, _, _, rfl, rfl, (Same.new e2) acc _ hacc, upd_same, ?_, fun p3 e3 => ⟨p3, _, rfl, .inl ⟨SqL.of upd_same, fun l hl => ?_⟩⟩⟩
      · exact Nat.le_of_lt (small8000 (by simp; omega))
      have sz := ((Same.new (o := .lst [V.ref fl]) e2).trans (Same.new (o := .lst (qs.map V.ref ++ [V.ref fl])) e3)).trans (Same.new (o := .tup (qs.map V.ref ++ [V.ref fl])) hl)
      have s6 := (s4.trans s5).trans sz
      refine k l (qs ++ [fl]) _ ?_ (by rw [upd_same]; simp) ?_ s6
      · exact ((s4.trans s5).trans ((Same.new (o := .lst [V.ref fl]) e2).trans (Same.new (o := .lst (qs.map V.ref ++ [V.ref fl])) e3))).free hl
      · exact (hq.same sz).snoc (sz fl _ hfl5)
/-! ### numbers_after -/
theorem scAfter : FnScope ["p", "n", "following", "numbers", "level"] ["p", "n", "following"] (defScope sAfter) := ⟨rfl, rfl, rfl, by decide +kernel, rfl, by decide +kernel, by decide +kernel⟩
theorem ok_after {f fA fB : Addr} {fd dA dB : FuncData} (F : Fun K "numbers_after" "numbers_after" sAfter f fd) (T : Txt mg) (CB : Cal P w K mg base 1 "first_numbers" ["p"] spFirstN fB dB) (CA : Cal P w K mg base 1 "next_numbers" ["numbers"] spNextN fA dA) : FnOk P w K mg base CX0 2 f fd ["p", "n", "following"] (spAfter fA) := by
  refine F.ok scAfter (fun vs H Q E h => ?_) (fun cdv A outer s H vs Q E hr h => ?_)
  · obtain ⟨p, n, rfl, _⟩ := h
    rfl
  · obtain ⟨p, n, rfl, h1, h2, h3, h4, k⟩ := h
    refine ⟨_, pss_cons (ps_set (i := 3) scAfter.nd rfl (Or.inl rfl) (pe_cal CB hr rfl (pa_cons (pv 0) pa_nil)))
      (pss_cons (ps_for PassesOwn.never rfl (pi_range1 rfl T.range (pa_cons (pv 1) pa_nil)) (pg_name (i := 4) scAfter.nd rfl (Or.inl rfl)) (pss_one (ps_set (i := 3) scAfter.nd rfl (Or.inl rfl) (pe_calV 2 CA hr (pa_cons (pv 3) pa_nil)))))
      (pss_one (ps_ret (pv 3)))), ?_⟩
    refine ⟨_, rfl, p, rfl, h1, h2, fun l qs H1 hl0 hl1 hq1 s1 => ?_⟩
    refine ⟨_, rfl, n, rfl, by omega, by omega, for_range (fun i σ H2 => ∃ (l : Addr) (qs : List Addr) (o : Option V), σ = [some (.int p), some (.int n), some (.ref fA), some (.ref l), o] ∧ H l = none ∧ H2 l = some (.tup (qs.map V.ref)) ∧ TTs H2 qs (num p i) ∧ Same H H2)
      ⟨l, qs, none, rfl, hl0, hl1, hq1, s1⟩ ?_ ?_⟩
    · rintro i σ H2 hi ⟨l, qs, o, rfl, hl0, hl2, hq, s2⟩
      have hlen := num_len (p := p) (by omega) i
      have htot := tot_mono (p := p) h1 (show i ≤ n by omega)
      refine ⟨rfl, _, rfl, l, qs, num p i, rfl, hl2, hq, by omega, by omega, ?_, fun xs hx => ?_, fun l3 qs3 H3 h30 h3 hq3 s3 => ?_⟩
      · obtain ⟨a, r, e, ha, _⟩ := num_cons h1 i
        rw [e]
        exact ha
      · have := num_le hx
        omega
      · exact ⟨l3, qs3, _, rfl, s2.free h30, h3, hq3, s2.trans s3⟩
    · rintro σ H2 ⟨l, qs, o, rfl, hl0, hl2, hq, s2⟩
      refine ⟨_, rfl, k l qs H2 hl0 hl2 ?_ s2⟩
      simpa using hq
/-! ### numbers_of -/
theorem scNumOf : FnScope ["p", "n"] ["p", "n"] (defScope sNumOf) := ⟨rfl, rfl, rfl, by decide +kernel, rfl, by decide +kernel, by decide +kernel⟩
theorem ok_numof {f fA fB : Addr} {fd dA dB : FuncData} (F : Fun K "numbers_of" "numbers_of" sNumOf f fd) (T : Txt mg) (CA : Cal P w K mg base 1 "next_numbers" ["numbers"] spNextN fA dA) (CB : Cal P w K mg base 2 "numbers_after" ["p", "n", "following"] (spAfter fA) fB dB) : FnOk P w K mg base CX0 3 f fd ["p", "n"] spNum := by
  refine F.ok scNumOf (fun vs H Q E h => ?_) (fun cdv A outer s H vs Q E hr h => ?_)
  · obtain ⟨p, n, rfl, _⟩ := h
    rfl
  · obtain ⟨p, n, rfl, h1, h2, h3, h4, k⟩ := h
    refine ⟨_, pss_one (ps_ret (pe_cal CB hr rfl (pa_cons (pv 0) (pa_cons (pv 1) (pa_cons (pe_gfn CA rfl) pa_nil))))), ?_⟩
    exact ⟨_, rfl, _, rfl, p, n, rfl, h1, h2, h3, h4, k⟩
/-! ### level_numbers -/
theorem scLN : FnScope ["p", "n"] ["p", "n"] (defScope sLN) := ⟨rfl, rfl, rfl, by decide +kernel, rfl, by decide +kernel, by decide +kernel⟩
theorem ok_ln {f fA fB : Addr} {fd dA dB : FuncData} (F : Fun K "level_numbers" "level_numbers" sLN f fd) (T : Txt mg) (CA : Cal P w K mg base 5 "check_places" ["p", "n"] spPlaces fA dA) (CB : Cal P w K mg base 3 "numbers_of" ["p", "n"] spNum fB dB) : FnOk P w K mg base CX0 6 f fd ["p", "n"] spNum := by
  refine F.ok scLN (fun vs H Q E h => ?_) (fun cdv A outer s H vs Q E hr h => ?_)
  · obtain ⟨p, n, rfl, _⟩ := h
    rfl
  · obtain ⟨p, n, rfl, h1, h2, h3, h4, k⟩ := h
    have hr2 : Room 3 _ := hr.mono (by decide)
    refine ⟨_, pss_cons (ps_expr (pe_cal CA hr rfl (pa_cons (pv 0) (pa_cons (pv 1) pa_nil)))) (pss_one (ps_ret (pe_cal CB hr2 rfl (pa_cons (pv 0) (pa_cons (pv 1) pa_nil))))), ?_⟩
    refine ⟨_, rfl, _, rfl, p, n, rfl, h1, h2, h3, h4, fun H1 s1 => ?_⟩
    exact ⟨_, rfl, _, rfl, p, n, rfl, h1, h2, h3, h4, fun l qs H2 hl0 hl hq s2 => k l qs H2 (s1.free hl0) hl hq (s1.trans s2)⟩
/-! ### reading_of -/
theorem scRead : FnScope ["numbers", "laying"] ["numbers", "laying"] (defScope sRead) := ⟨rfl, rfl, rfl, by decide +kernel, rfl, by decide +kernel, by decide +kernel⟩
theorem ok_read {f : Addr} {fd : FuncData} (F : Fun K "reading_of" "reading_of" sRead f fd) (T : Txt mg) : FnOk P w K mg base CX0 1 f fd ["numbers", "laying"] spRead := by
  refine F.ok scRead (fun vs H Q E h => ?_) (fun cdv A outer s H vs Q E hr h => ?_)
  · obtain ⟨a, b, qs, rs, N, B, rfl, _⟩ := h
    rfl
  · obtain ⟨a, b, qs, rs, N, B, rfl, hA, hB, hq, hr, hNB, h7, hz, k⟩ := h
    have nd4 : (["on_reel", "reals", "number", "real"] : List Str).Nodup := by decide +kernel
    refine ⟨_, pss_one (ps_ret (pe_callB (call_sumI rfl) rfl T.sum b_sum (pa_cons (pe_comp2 (own := ["on_reel", "reals", "number", "real"]) (js := []) (fr := [2, 3]) (CompOk.by (sc := defScope sRead) (N := ["numbers", "laying"]) rfl rfl (by decide +kernel)) rfl (pi_zipB rfl T.zip (pa_cons (pv 0) (pa_cons (pv 1) pa_nil))) (gkeepF_two (i := 0) (k := 1)) gkeepT_two
      (fun _ _ _ _ _ => pgK_tup K rfl (pgs_cons (pg_name (i := 0) nd4 rfl (Or.inl rfl) (.inr rfl)) (pgs_cons (pg_name (i := 1) nd4 rfl (Or.inl rfl) (.inr rfl)) pgs_nil))) (fun _ _ _ _ _ => pts_nil)
      (fun _ _ _ _ _ => piK_zipB K rfl T.zip (pa_cons (pv 0) (pa_cons (pv 1) pa_nil)))
      (fun _ _ _ _ _ => pgK_tup K rfl (pgs_cons (pg_name (i := 2) nd4 rfl (Or.inl rfl) (.inr rfl)) (pgs_cons (pg_name (i := 3) nd4 rfl (Or.inl rfl) (.inr rfl)) pgs_nil))) (fun _ _ _ _ _ => pts_one (pt_val (pv 3))) (fun _ _ _ _ _ => pv 2)) pa_nil))), ?_⟩
    have qA : SqB false K H a (qs.map V.ref) := SqT.of hA
    have qB : SqB false K H b (rs.map V.ref) := SqT.of hB
    have hql := hq.1
    have hrl := hr.1
    refine ⟨_, rfl, _, rfl, false, false, a, b, rfl, ⟨_, qA⟩, ⟨_, qB⟩, comp2_zip (xs := qs.map V.ref) (ys := rs.map V.ref) (by simp; omega) (fun acc i H2 => Same H H2 ∧ H2 acc = some (.lst ((readL (N.take i) (B.take i)).map V.int)) ∧ (readL (N.take i) (B.take i)).length ≤ i * 4000) (fun acc h0 => ⟨Same.new h0, upd_same, Nat.zero_le _⟩) (fun acc i H2 h0 _ p => ⟨p.1.tup (SqT.of hA), p.1.tup (SqT.of hB)⟩) ?_ ?_⟩
    · rintro acc i x y pa H2 h0' hx hy ⟨s2, hacc, hacl⟩ hpa
      obtain ⟨q, hq', rfl⟩ := map_ref_get hx
      obtain ⟨r, hr', rfl⟩ := map_ref_get hy
      have hi : i < qs.length := (List.getElem?_eq_some_iff.mp hq').1
      have hiN : i < N.length := by omega
      have hiB : i < B.length := by omega
      have eN := List.getElem?_eq_getElem hiN
      have eB := List.getElem?_eq_getElem hiB
      obtain ⟨hl, hl4⟩ := hz i _ _ eN eB
      have s3 := s2.trans (Same.new (o := .tup [V.ref q, .ref r]) hpa)
      have hq3 := s3 q _ (hq.2 i q _ hq' eN)
      have hr3 := s3 r _ (hr.2 i r _ hr' eB)
      have hacc3 := (Same.new (o := .tup [V.ref q, .ref r]) hpa) acc _ hacc
      have hp3 : (upd H2 pa (.tup [V.ref q, .ref r])) pa = some (.tup [V.ref q, .ref r]) := upd_same
      generalize (upd H2 pa (.tup [V.ref q, .ref r])) = H3 at s3 hq3 hr3 hacc3 hp3 ⊢
      refine ⟨pa, _, rfl, SqT.of hp3, rfl, _, _, rfl, _, _, rfl, rfl, ?_⟩
      have q1 : SqB false K H3 q ((N[i]).map V.int) := SqT.of hq3
      have q2 : SqB false K H3 r ((B[i]).map V.bl) := SqT.of hr3
      refine ⟨_, rfl, _, rfl, false, false, q, r, rfl, ⟨_, q1⟩, ⟨_, q2⟩, ?_⟩
      have hqa : q ≠ acc := by intro z; subst z; rw [hacc3] at hq3; cases hq3
      have hra : r ≠ acc := by intro z; subst z; rw [hacc3] at hr3; cases hr3
      refine in_zip (xs := (N[i]).map V.int) (ys := (B[i]).map V.bl) (by simp; omega) (fun m H4 => Sm acc H3 H4 ∧ H4 acc = some (.lst ((readL (N.take i) (B.take i) ++ selK N[i] B[i] m).map V.int))) ⟨Sm.refl _ _, by rw [hacc3]; simp [selK]⟩ (fun m H4 _ p => ⟨SqT.of (p.1 q _ hq3 hqa), SqT.of (p.1 r _ hr3 hra)⟩) ?_ ?_
      · rintro m x y pb H4 hx hy ⟨s4, hac4⟩ hpb
        obtain ⟨x', hx', rfl⟩ := map_get hx
        have hm := (List.getElem?_eq_some_iff.mp hx').1
        obtain ⟨y', hy', rfl⟩ : ∃ y', (B[i])[m]? = some y' ∧ y = .bl y' := by
          rw [List.getElem?_map] at hy
          cases e : (B[i])[m]? with
          | none => rw [e] at hy; cases hy
          | some v => rw [e] at hy; exact ⟨v, rfl, (Option.some.inj hy).symm⟩
        have hac5 := (Same.new (o := .tup [V.int x', .bl y']) hpb) acc _ hac4
        have es := selK_succ hx' hy'
        refine ⟨pb, _, rfl, SqT.of upd_same, rfl, _, _, rfl, _, _, rfl, rfl, _, rfl, y', rfl, ?_⟩
        cases y' with
        | true =>
          refine iteT ⟨_, rfl, _, hac5, ?_, by rw [List.length_map]; exact hm, (s4.trans (Sm.new hpb)).trans Sm.put, ?_⟩
          · rw [List.length_map, List.length_append]
            have := selK_len N[i] B[i] m
            have hsl : (40000 : Nat) < sizeLine := by rw [sizeLine_eq]; decide
            have : i * 4000 ≤ 7 * 4000 := Nat.mul_le_mul_right _ (by omega)
            omega
          · rw [upd_same, es]
            simp
        | false =>
          refine iteF ⟨by rw [List.length_map]; exact hm, s4.trans (Sm.new hpb), ?_⟩
          rw [hac5, es]
          simp
      · rintro H4 ⟨s4, hac4⟩
        have et := take_readL eN eB
        rw [List.length_map, selK_all hl, ← et] at hac4
        refine ⟨by rw [List.length_map]; exact hi, Sm.after s3 s4 h0', hac4, ?_⟩
        rw [et, List.length_append]
        have h1 := selK_len N[i] B[i] N[i].length
        rw [selK_all hl] at h1
        rw [Nat.add_mul]
        omega
    · rintro acc H2 h0 ⟨s2, hacc, _⟩
      refine ⟨acc, _, rfl, SqL.of hacc, ?_⟩
      rw [List.length_map, hql, List.take_length, hNB, List.take_length, readL_sum]
      exact k H2 s2
/-! ### cellAt -/
theorem scCellAt : FnScope ["script", "k"] ["script", "k"] (defScope sCellAt) := ⟨rfl, rfl, rfl, by decide +kernel, rfl, by decide +kernel, by decide +kernel⟩
theorem ok_cellAt {f : Addr} {fd : FuncData} (F : Fun K "_law_cell_at" "_law_cell_at" sCellAt f fd) (T : Txt mg) : FnOk P w K mg base CX0 1 f fd ["script", "k"] (spCell K) := by
  refine F.ok scCellAt (fun vs H Q E h => ?_) (fun cdv A outer s H vs Q E hr h => ?_)
  · obtain ⟨a, ns, i, rfl, _⟩ := h
    rfl
  · obtain ⟨a, ns, i, rfl, hS, i0, k⟩ := h
    refine ⟨_, pss_cons (ps_if (pt_cmpR op_lt (pv 1) (pe_callB call_len_seq rfl T.len PySem.boot_len (pa_cons (pv 0) pa_nil)) (nomark _)) (pss_one (ps_ret (pe_ix ix_list (pv 0) (pv 1) (fun _ _ => rfl)))) pss_nil) (pss_one (ps_ret pe_int)), ?_⟩
    refine ⟨_, rfl, _, rfl, a, _, rfl, .inl hS, _, _, rfl, rfl, _, rfl, ?_⟩
    refine ite2 (fun hc => ?_) (fun hc => k 0)
    have hc' : i < (ns.length : Int) := by have := of_decide_eq_true hc; rwa [List.length_map] at this
    exact ⟨_, rfl, _, rfl, a, _, i, _, rfl, rfl, hS, atI_int i0 hc', k _⟩
/-! ### poolB -/
theorem scPool : FnScope ["script", "at", "cell", "big", "turn", "one"] ["script", "at"] (defScope sPool) := ⟨rfl, rfl, rfl, by decide +kernel, rfl, by decide +kernel, by decide +kernel⟩
theorem b01 (k : Bool) : -(2 ^ 64) < (if k = true then (1 : Int) else 0) ∧ (if k = true then (1 : Int) else 0) < 2 ^ 64 := by cases k <;> decide
theorem ok_pool {f fA : Addr} {fd dA : FuncData} (F : Fun K "_law_pool" "_law_pool" sPool f fd) (T : Txt mg) (CA : Cal P w K mg base 1 "_law_cell_at" ["script", "k"] (spCell K) fA dA) : FnOk P w K mg base CX0 2 f fd ["script", "at"] (spPool K) := by
  refine F.ok scPool (fun vs H Q E h => ?_) (fun cdv A outer s H vs Q E hr h => ?_)
  · obtain ⟨a, ns, i, rfl, _⟩ := h
    rfl
  · obtain ⟨a, ns, i, rfl, hS, i0, i1, k⟩ := h
    refine ⟨_, pss_cons (ps_set (i := 2) scPool.nd rfl (Or.inl rfl) (pe_cal CA hr rfl (pa_cons (pv 0) (pa_cons (pv 1) pa_nil))))
      (pss_cons (ps_set (i := 3) scPool.nd rfl (Or.inl rfl) pe_int)
      (pss_cons (ps_for PassesOwn.never rfl (pi_range1 rfl T.range (pa_cons pe_int pa_nil)) (pg_name (i := 4) scPool.nd rfl (Or.inl rfl))
        (pss_cons (ps_set (i := 5) scPool.nd rfl (Or.inl rfl) (pe_op op_mod (pe_op op_mul (pe_op op_add (pe_op op_add (pe_op op_add (pe_op op_mod (pv 2) pe_int) (pe_op op_mul (pe_op op_mul pe_int (pv 4)) (pv 4))) (pe_op op_mul pe_int (pv 1))) pe_int) pe_int) pe_int))
        (pss_cons (ps_set (i := 5) scPool.nd rfl (Or.inl rfl) (pe_op op_mod (pe_op op_mul (pv 5) (pv 5)) pe_int))
        (pss_cons (ps_set (i := 5) scPool.nd rfl (Or.inl rfl) (pe_op op_mod (pe_op op_mul (pe_op op_add (pv 5) (pe_op op_mul pe_int (pv 4))) pe_int) pe_int))
        (pss_one (ps_set (i := 3) scPool.nd rfl (Or.inl rfl) (pe_op op_add (pe_op op_mul (pv 3) pe_int) (pe_op op_mod (pe_op op_fdiv (pv 5) pe_int) pe_int))))))))
      (pss_one (ps_ret (pe_lst (pa_cons (pe_op op_mul (pv 2) (pe_callTy call_int1 rfl T.int b_int (pa_cons (pe_cmpR op_ge (pv 2) (pe_op op_pow pe_int pe_int) (nomark _)) pa_nil))) (pa_cons (pv 3) pa_nil))))))), ?_⟩
    refine ⟨_, rfl, _, rfl, a, ns, i, rfl, hS, i0, fun c => ?_⟩
    refine ⟨99, rfl, by decide, by decide, for_range (fun j σ H2 => ∃ (bg : Int) (tn on : Option V), σ = [some (.ref a), some (.int i), some (.int c), some (.int bg), tn, on] ∧ H2 = H) ⟨0, none, none, rfl, rfl⟩ ?_ ?_⟩
    · rintro j σ H2 hj ⟨bg, tn, on, rfl, rfl⟩
      have hj' : j < 99 := hj
      refine ⟨_, rfl, c, _, rfl, rfl, (by show (0 : Int) < 998244353; decide), _, rfl, 89, _, rfl, rfl, .inl ⟨by decide, by decide⟩, _, rfl, _, _, rfl, rfl, .inr ⟨by omega, by omega⟩, _, _, rfl, rfl, _, rfl, 7, i, rfl, rfl, .inl ⟨by decide, by decide⟩, _, _, rfl, rfl, _, 1, rfl, rfl, _, _, rfl, rfl, .inr ⟨by decide, by decide⟩, _, _, rfl, rfl, (by show (0 : Int) < 2147483647; decide), ?_⟩
      have m0 := Int.emod_nonneg ((c % 998244353 + 89 * (0 + (j : Int)) * (0 + (j : Int)) + 7 * i + 1) * 48271) (show (2147483647 : Int) ≠ 0 by decide)
      have m1 := Int.emod_lt_of_pos ((c % 998244353 + 89 * (0 + (j : Int)) * (0 + (j : Int)) + 7 * i + 1) * 48271) (show (0 : Int) < 2147483647 by decide)
      refine ⟨_, rfl, _, rfl, _, _, rfl, rfl, .inl ⟨by omega, by omega⟩, _, _, rfl, rfl, (by show (0 : Int) < 1000000007; decide), ?_⟩
      refine ⟨_, rfl, _, rfl, 7919, _, rfl, rfl, .inl ⟨by decide, by decide⟩, _, _, rfl, rfl, _, _, rfl, rfl, .inr ⟨by decide, by decide⟩, _, _, rfl, rfl, (by show (0 : Int) < 2147483587; decide), ?_⟩
      refine ⟨_, rfl, bg, _, rfl, rfl, .inr ⟨by decide, by decide⟩, _, rfl, _, 8, rfl, rfl, ⟨by decide, by decide⟩, _, _, rfl, rfl, (by show (0 : Int) < 1000003; decide), _, _, rfl, rfl, ?_⟩
      exact ⟨_, _, _, rfl, rfl⟩
    · rintro σ H2 ⟨bg, tn, on, rfl, rfl⟩
      refine ⟨_, rfl, _, rfl, 10, 18, rfl, rfl, ⟨by decide, by decide, by decide⟩, _, _, rfl, rfl, .inr ⟨_, rfl, _, _, rfl, rfl, .inr (b01 _), _, rfl, (by show 2 ≤ sizeLine; decide), fun l hl => ?_⟩⟩
      exact k l _ hl ⟨_, _, upd_same⟩ (Same.new hl)
/-! ### takeB -/
theorem scTake : FnScope ["pool", "many", "at", "number"] ["pool", "many"] (defScope sTake) := ⟨rfl, rfl, rfl, by decide +kernel, rfl, by decide +kernel, by decide +kernel⟩
theorem ok_take {f : Addr} {fd : FuncData} (F : Fun K "_law_take" "_law_take" sTake f fd) (T : Txt mg) : FnOk P w K mg base CX0 1 f fd ["pool", "many"] spTake := by
  refine F.ok scTake (fun vs H Q E h => ?_) (fun cdv A outer s H vs Q E hr h => ?_)
  · obtain ⟨p, m, rfl, _⟩ := h
    rfl
  · obtain ⟨p, m, rfl, ⟨a, b, hp⟩, h0, h1, k⟩ := h
    refine ⟨_, pss_cons (ps_set (i := 2) scTake.nd rfl (Or.inl rfl) (pe_callTy call_int1 rfl T.int b_int (pa_cons (pe_cmpR op_eq (pe_ix ix_list (pv 0) pe_int (fun _ _ => rfl)) pe_int (nomark _)) pa_nil)))
      (pss_cons (ps_set (i := 3) scTake.nd rfl (Or.inl rfl) (pe_op op_mod (pe_ix ix_list (pv 0) (pv 2) (fun _ _ => rfl)) (pv 1)))
      (pss_cons (ps_asg (pe_op op_fdivB (pe_ix ix_list (pv 0) (pv 2) (fun _ _ => rfl)) (pv 1)) (pg_sub (pv 0) (pv 2) set_list))
      (pss_one (ps_ret (pv 3))))), ?_⟩
    refine ⟨_, rfl, p, _, 0, .int a, rfl, rfl, SqL.of hp, rfl, rfl, .inr ⟨_, rfl, ?_⟩⟩
    cases decide (V.int a = V.int 0) with
    | false =>
      refine ⟨_, rfl, _, rfl, p, _, 0, .int a, rfl, rfl, SqL.of hp, rfl, _, rfl, a, m, rfl, rfl, h0, ?_⟩
      refine ⟨_, rfl, _, rfl, p, _, 0, .int a, rfl, rfl, SqL.of hp, rfl, _, rfl, a, m, rfl, rfl, ⟨h0, h1⟩, _, rfl, _, rfl, p, _, 0, 0, rfl, rfl, hp, rfl, _, rfl, ?_⟩
      exact k _ _ (Int.emod_nonneg _ (by omega)) (Int.emod_lt_of_pos _ h0) ⟨_, _, upd_same⟩ Sm.put
    | true =>
      refine ⟨_, rfl, _, rfl, p, _, 1, .int b, rfl, rfl, SqL.of hp, rfl, _, rfl, b, m, rfl, rfl, h0, ?_⟩
      refine ⟨_, rfl, _, rfl, p, _, 1, .int b, rfl, rfl, SqL.of hp, rfl, _, rfl, b, m, rfl, rfl, ⟨h0, h1⟩, _, rfl, _, rfl, p, _, 1, 1, rfl, rfl, hp, rfl, _, rfl, ?_⟩
      exact k _ _ (Int.emod_nonneg _ (by omega)) (Int.emod_lt_of_pos _ h0) ⟨_, _, upd_same⟩ Sm.put
/-! ### lcountsB -/
theorem scLCounts : FnScope ["p", "n", "counts", "turn"] ["p", "n"] (defScope sLCounts) := ⟨rfl, rfl, rfl, by decide +kernel, rfl, by decide +kernel, by decide +kernel⟩
theorem ok_lcounts {f : Addr} {fd : FuncData} (F : Fun K "_law_counts" "_law_counts" sLCounts f fd) (T : Txt mg) : FnOk P w K mg base CX0 1 f fd ["p", "n"] spCounts := by
  refine F.ok scLCounts (fun vs H Q E h => ?_) (fun cdv A outer s H vs Q E hr h => ?_)
  · obtain ⟨p, n, rfl, _⟩ := h
    rfl
  · obtain ⟨p, n, rfl, h1, h2, h3, k⟩ := h
    refine ⟨_, pss_cons (ps_set (i := 2) scLCounts.nd rfl (Or.inr rfl) (pe_op op_catT (pe_tup (pa_cons pe_int pa_nil)) (pe_op op_repT (pe_tup (pa_cons pe_int pa_nil)) (pe_op op_sub (pv 0) pe_int))))
      (pss_cons (ps_for PassesOwn.never rfl (pi_range1 rfl T.range (pa_cons (pv 1) pa_nil)) (pg_name (i := 3) scLCounts.nd rfl (Or.inl rfl))
        (pss_one (ps_set (i := 2) scLCounts.nd rfl (Or.inr rfl) (pe_callTy call_tuple_of rfl T.tuple b_tuple (pa_cons (pe_op op_cat
          (pe_comp (own := ["count"]) (js := [2]) (CompOk.by (sc := defScope sLCounts) (N := ["p", "n", "counts", "turn"]) rfl rfl (by decide +kernel)) rfl (pi_tup (pe_slice sl_tup (pv 2) (po_some pe_int) po_none)) gkeep_name
            (fun _ _ _ _ _ => pg_name (i := 0) (by show (["count", "counts"] : List Str).Nodup; decide +kernel) rfl (Or.inl rfl) (.inr rfl)) (fun _ _ _ _ _ => pts_nil) (fun _ _ _ _ _ => pe_op op_add (pe_ix (ixK_tup K) (pv 1) pe_int (fun _ _ => rfl)) (pv 0)))
          (pe_lst (pa_cons (pe_ix ix_tup (pv 2) pe_int (fun _ _ => rfl)) pa_nil))) pa_nil)))))
      (pss_one (ps_ret (pv 2)))), ?_⟩
    refine cut1 (fun σ' H' => ∃ l : Addr, σ' = [some (.int p), some (.int n), some (.ref l), none] ∧ H l = none ∧ H' l = some (.tup ((firstC p).map V.int)) ∧ Same H H') (fun R hR => ?_) ?_
    · refine ⟨(by show 1 ≤ sizeLine; decide), fun p1 e1 => ⟨(by show 1 ≤ sizeLine; decide), fun p2 e2 => ⟨_, rfl, _, _, rfl, rfl, ?_⟩⟩⟩
      have s2 := (Same.new (o := .tup [.int 1]) e1).trans (Same.new (o := .tup [.int 0]) e2)
      have z1 : (upd (upd H p1 (.tup [.int 1])) p2 (.tup [.int 0])) p1 = some (.tup [.int 1]) := (Same.new e2) p1 _ upd_same
      have z2 : (upd (upd H p1 (.tup [.int 1])) p2 (.tup [.int 0])) p2 = some (.tup [.int 0]) := upd_same
      generalize (upd (upd H p1 (.tup [.int 1])) p2 (.tup [.int 0])) = H1 at s2 z1 z2 ⊢
      have ez : (List.replicate ((p : Int) - 1).toNat [V.int 0]).flatten = (List.replicate (p - 1) (0 : Int)).map V.int := by
        rw [show ((p : Int) - 1).toNat = p - 1 by omega, List.map_replicate]
        exact List.flatten_replicate_singleton
      -- (1,) + (0, ..)
      have rest : ∀ (q : Addr) (H2 : Hp) (Q' : VK), Same H H2 → H2 p1 = some (.tup [.int 1]) → H2 q = some (.tup ((List.replicate (p - 1) (0 : Int)).map V.int)) → (∀ l H3, H l = none → H3 l = some (.tup ((firstC p).map V.int)) → Same H H3 → Q' (.ref l) H3) → rCatT K (.ref p1) (.ref q) H2 Q' := by
        intro q H2 Q' s h1' hq hQ
        refine ⟨p1, q, _, _, rfl, rfl, SqT.of h1', SqT.of hq, by simp, ?_, fun z => ?_, fun z pn en => ?_⟩
        · exact Nat.le_of_lt (small1000 (by simp; omega))
        · simp at z
          omega
        · exact hQ pn _ (s.free en) (by rw [upd_same]; simp [firstC]) (s.trans (Same.new en))
      refine ⟨p2, _, _, rfl, rfl, SqT.of z2, by simp, by omega, by omega, by show 1 * ((p : Int) - 1).toNat ≤ 1000; omega, fun ek => ?_, fun ek pn en => ?_⟩
      · refine rest p2 H1 _ s2 z1 (by rw [z2, show p - 1 = 1 by omega]; rfl) fun l H3 hl0 hl3 s3 => ?_
        exact hR _ _ ⟨l, rfl, hl0, hl3, s3⟩
      · rw [ez]
        refine rest pn _ _ (s2.trans (Same.new en)) ((Same.new en) p1 _ z1) upd_same fun l H3 hl0 hl3 s3 => ?_
        exact hR _ _ ⟨l, rfl, hl0, hl3, s3⟩
    · rintro σ' H' ⟨l, rfl, hl0, hl1, s1⟩
      refine ⟨_, rfl, n, rfl, by omega, by omega, for_range (fun i σ H2 => ∃ (l : Addr) (o : Option V), σ = [some (.int p), some (.int n), some (.ref l), o] ∧ H l = none ∧ H2 l = some (.tup ((cnt p i).map V.int)) ∧ Same H H2)
        ⟨l, none, rfl, hl0, hl1, s1⟩ ?_ ?_⟩
      · rintro i σ H2 hi ⟨l, o, rfl, hl0, hl2, s2⟩
        have hlen := cnt_len (p := p) (by omega) i
        have ex : cnt p (i + 1) = nextC (cnt p i) := rfl
        rw [ex]
        generalize cnt p i = c at hl2 hlen ⊢
        obtain ⟨c0, cr, rfl⟩ : ∃ c0 cr, c = c0 :: cr := by
          cases c with
          | nil => simp at hlen; omega
          | cons x y => exact ⟨x, y, rfl⟩
        have hcr : cr.length ≤ 6 := by simp at hlen; omega
        refine ⟨_, rfl, 1, rfl, l, _, rfl, SqT.of hl2, ?_, fun p1 e1 => ⟨p1, rfl, ⟨_, SqT.of upd_same⟩, ?_⟩⟩
        · rintro ⟨z, _⟩
          have : HT.sIx ((c0 :: cr).map V.int).length 0 (some ((1 : Nat) : Int)) = 0 := z
          rw [HT.sIx_nat] at this
          simp at this
        have ecut : cutV ((c0 :: cr).map V.int) (some 1) none = cr.map V.int := by
          unfold cutV
          show (((c0 :: cr).map V.int).drop (HT.sIx ((c0 :: cr).map V.int).length 0 (some ((1 : Nat) : Int)))).take (HT.sIx ((c0 :: cr).map V.int).length ((c0 :: cr).map V.int).length none - HT.sIx ((c0 :: cr).map V.int).length 0 (some ((1 : Nat) : Int))) = _
          rw [HT.sIx_nat]
          rw [show min 1 ((c0 :: cr).map V.int).length = 1 by simp]
          show (cr.map V.int).take (((c0 :: cr).map V.int).length - 1) = _
          rw [List.take_of_length_le (by simp)]
        rw [ecut]
        refine comp_tup (xs := cr.map V.int) (fun acc j H3 => Same (upd H2 p1 (.tup (cr.map V.int))) H3 ∧ H3 acc = some (.lst (((cr.take j).map (c0 + ·)).map V.int))) (fun acc h0 => ⟨Same.new h0, upd_same⟩) (fun acc j H3 h0 _ p => p.1.tup (SqT.of upd_same)) ?_ ?_
        · rintro acc j x H3 h0 hx ⟨s3, hacc⟩
          obtain ⟨z, hz, rfl⟩ := map_get hx
          have hj := (List.getElem?_eq_some_iff.mp hz).1
          have hl3 := s3 l _ ((Same.new e1) l _ hl2)
          refine ⟨_, rfl, l, _, 0, .int c0, rfl, rfl, SqT.of hl3, atI_head, _, rfl, c0, z, rfl, rfl, _, hacc, ?_, by rw [List.length_map]; exact hj, s3.put h0, ?_⟩
          · exact small1000 (by simp; omega)
          · rw [upd_same, List.take_add_one, hz, Option.toList_some, List.map_append, List.map_append]
            rfl
        · rintro acc H3 h0 ⟨s3, hacc⟩
          rw [List.length_map, List.take_length] at hacc
          have hl3 := s3 l _ ((Same.new e1) l _ hl2)
          refine ⟨_, rfl, l, _, 0, .int c0, rfl, rfl, SqT.of hl3, atI_head, (by show 1 ≤ sizeLine; decide), fun q2 f2 => ?_⟩
          refine ⟨acc, q2, _, _, rfl, rfl, (Same.new f2) acc _ hacc, upd_same, ?_, fun q3 f3 => ⟨q3, _, rfl, .inl ⟨SqL.of upd_same, fun l4 hl4 => ?_⟩⟩⟩
          · exact Nat.le_of_lt (small1000 (by simp; omega))
          have s5 := (s2.trans ((Same.new e1).trans s3)).trans ((Same.new (o := .lst [.int c0]) f2).trans (Same.new (o := .lst (((cr.map (c0 + ·)).map V.int) ++ [.int c0])) f3))
          refine ⟨l4, _, rfl, s5.free hl4, ?_, s5.trans (Same.new hl4)⟩
          rw [upd_same]
          simp [nextC]
      · rintro σ H2 ⟨l, o, rfl, hl0, hl2, s2⟩
        refine ⟨_, rfl, k l H2 hl0 ?_ s2⟩
        simpa using hl2
/-! ### llevB -/
theorem scLLevel : FnScope ["pool", "p", "most", "levels"] ["pool", "p", "most"] (defScope sLLevel) := ⟨rfl, rfl, rfl, by decide +kernel, rfl, by decide +kernel, by decide +kernel⟩
theorem ok_llev {f fA fB : Addr} {fd dA dB : FuncData} (F : Fun K "_law_level" "_law_level" sLLevel f fd) (T : Txt mg) (CA : Cal P w K mg base 1 "_law_counts" ["p", "n"] spCounts fA dA) (CB : Cal P w K mg base 1 "_law_take" ["pool", "many"] spTake fB dB) : FnOk P w K mg base CX0 2 f fd ["pool", "p", "most"] spLLev := by
  refine F.ok scLLevel (fun vs H Q E h => ?_) (fun cdv A outer s H vs Q E hr h => ?_)
  · obtain ⟨pl, p, m, rfl, _⟩ := h
    rfl
  · obtain ⟨pl, p, m, rfl, hP, h1, h2, m1, m2, k⟩ := h
    refine ⟨_, pss_cons (ps_set (i := 3) scLLevel.nd rfl (Or.inl rfl) (pe_lst (pa_cons pe_int pa_nil)))
      (pss_cons (ps_while PassesOwn.never (pt_cmpR op_le (pe_callB (call_sumT rfl) rfl T.sum b_sum (pa_cons (pe_cal CA hr rfl (pa_cons (pv 1) (pa_cons (pe_callB call_len_seq rfl T.len PySem.boot_len (pa_cons (pv 3) pa_nil)) pa_nil))) pa_nil)) (pv 2) (nomark _))
        (pss_one (ps_expr (pe_bm PySem.F.plainAttrs_list PySem.F.slot_list_append PySem.F.type_list_append mt_append (pv 3) (pa_cons (pe_callB call_len_seq rfl T.len PySem.boot_len (pa_cons (pv 3) pa_nil)) pa_nil)))))
      (pss_cons (ps_if (pt_cmpR op_eq (pe_cal CB hr rfl (pa_cons (pv 0) (pa_cons pe_int pa_nil))) pe_int (nomark _))
        (pss_one (ps_ret (pe_ix ix_list (pv 3) (pe_op op_sub (pe_un un_neg pe_int) (pe_cal CB hr rfl (pa_cons (pv 0) (pa_cons (pe_callB (call_min2 rfl) rfl T.min b_min (pa_cons pe_int (pa_cons (pe_callB call_len_seq rfl T.len PySem.boot_len (pa_cons (pv 3) pa_nil)) pa_nil))) pa_nil)))) (fun _ _ => rfl)))) pss_nil)
      (pss_one (ps_ret (pe_ix ix_list (pv 3) (pe_cal CB hr rfl (pa_cons (pv 0) (pa_cons (pe_callB call_len_seq rfl T.len PySem.boot_len (pa_cons (pv 3) pa_nil)) pa_nil))) (fun _ _ => rfl)))))), ?_⟩
    refine ⟨(by show 1 ≤ sizeLine; decide), fun l hl => ?_⟩
    have hlp : l ≠ pl := hP.ne hl
    have t0 : tot p 0 ≤ m := by
      have : tot p 0 ≤ 1 := tot_le h1 h2 0
      omega
    refine ⟨fun q σ H2 => ∃ L : Nat, σ = [some (.ref pl), some (.int p), some (.int m), some (.ref l)] ∧ H2 l = some (.lst ((upN (L + 1)).map V.int)) ∧ Same H H2 ∧ tot p L ≤ m ∧ q = 20 - L, ⟨_, 0, rfl, by rw [upd_same]; rfl, Same.new hl, t0, rfl⟩, ?_⟩
    rintro q σ H2 ⟨L, rfl, hl2, s2, hL, rfl⟩
    have hLl := lev19 h1 h2 (show tot p L ≤ 4000 by omega)
    have hlen : ((upN (L + 1)).map V.int).length = L + 1 := by rw [List.length_map, upN_len]
    refine ⟨_, rfl, _, rfl, l, _, rfl, .inl (SqL.of hl2), ?_⟩
    refine ⟨p, L + 1, (by rw [hlen]; rfl), h1, h2, by omega, fun cl H3 cl0 cl1 s3 => ⟨cl, _, rfl, SqT.of cl1, _, rfl, _, _, rfl, rfl, _, rfl, ?_⟩⟩
    have s03 := s2.trans s3
    have hl3 := s3 l _ hl2
    refine ite2 (fun hc => ?_) (fun hc => ?_)
    · have hc' : tot p (L + 1) ≤ m := of_decide_eq_true hc
      have hL2 := lev19 h1 h2 (show tot p (L + 1) ≤ 4000 by omega)
      refine ⟨fun σ H2 => σ = [some (.ref pl), some (.int p), some (.int m), some (.ref l)] ∧ H2 l = some (.lst ((upN (L + 2)).map V.int)) ∧ Same H H2, ?_, ?_⟩
      · rintro σ' H' ⟨rfl, hl', s'⟩
        exact ⟨20 - (L + 1), by omega, L + 1, rfl, hl', s', hc', rfl⟩
      · refine ⟨_, rfl, .inl ⟨rfl, _, SqL.of hl3⟩, _, rfl, l, _, rfl, .inl (SqL.of hl3), l, _, _, rfl, rfl, hl3, (by rw [hlen]; exact small1000 (by omega)), rfl, ?_, s03.put hl⟩
        rw [upd_same, hlen, upN_succ (L + 1), List.map_append]
        rfl
    · have hP3 := hP.same s03
      refine ⟨_, rfl, pl, 2, rfl, hP3, by decide, by decide, fun d H4 _ _ hP4 sm4 => ⟨rfl, _, rfl, ?_⟩⟩
      have hl4 := sm4 l _ hl3 hlp
      refine ite2 (fun _ => ?_) (fun _ => ?_)
      · refine ⟨_, rfl, 1, rfl, _, rfl, _, rfl, l, _, rfl, .inl (SqL.of hl4), 3, _, rfl, pl, _, rfl, hP4, ?_, ?_, fun d2 H5 y0 y1 hP5 sm5 => ⟨_, _, rfl, rfl, l, _, _, _, rfl, rfl, SqL.of (sm5 l _ hl4 hlp), upN_neg (L := L + 1) (d := d2) y0 ?_, ?_⟩⟩
        · rw [hlen]; split <;> omega
        · refine bits_small ?_ ?_
          · rw [hlen]; split <;> omega
          · rw [hlen]; split <;> omega
        · rw [hlen] at y1
          split at y1 <;> omega
        · refine k _ H5 ?_ hP5 (((Sm.of s03).trans sm4).trans sm5)
          have := tot_mono (p := p) h1 (show L + 1 - 1 - d2.toNat ≤ L by omega)
          omega
      · refine ⟨_, rfl, _, rfl, _, rfl, l, _, rfl, .inl (SqL.of hl4), pl, _, rfl, hP4, ?_, ?_, fun d2 H5 y0 y1 hP5 sm5 => ⟨l, _, d2, _, rfl, rfl, SqL.of (sm5 l _ hl4 hlp), upN_at (L := L + 1) y0 ?_, ?_⟩⟩
        · rw [hlen]; omega
        · refine bits_small ?_ ?_ <;> rw [hlen] <;> omega
        · rw [hlen] at y1; omega
        · rw [hlen] at y1
          refine k _ H5 ?_ hP5 (((Sm.of s03).trans sm4).trans sm5)
          have := tot_mono (p := p) h1 (show d2.toNat ≤ L by omega)
          omega
/-! ### _law_whole -/
theorem scLWhole : FnScope ["thing"] ["thing"] (defScope sLWhole) := ⟨rfl, rfl, rfl, by decide +kernel, rfl, by decide +kernel, by decide +kernel⟩
theorem ok_lwhole {f : Addr} {fd : FuncData} (F : Fun K "_law_whole" "_law_whole" sLWhole f fd) (T : Txt mg) : FnOk P w K mg base CX0 1 f fd ["thing"] spWhole := by
  refine F.ok scLWhole (fun vs H Q E h => ?_) (fun cdv A outer s H vs Q E hr h => ?_)
  · obtain ⟨i, rfl, _⟩ := h
    rfl
  · obtain ⟨i, rfl, k⟩ := h
    refine ⟨_, pss_one (ps_ret (pe_and (pe_callB call_isinst rfl T.isinstance b_isinstance (pa_cons (pv 0) (pa_cons (pe_ty rfl T.int b_int) pa_nil)))
      (pe_one (pe_not (pe_callB call_isinst rfl T.isinstance b_isinstance (pa_cons (pv 0) (pa_cons (pe_ty rfl T.bool b_bool) pa_nil))))))), ?_⟩
    refine ⟨_, rfl, .int i, "int", _, true, rfl, .int i, kit_int_int, true, rfl, iteT ?_⟩
    exact ⟨_, rfl, .int i, "bool", _, false, rfl, .int i, kit_int_bool, false, rfl, k⟩
end
end Fs30

set_option Elab.async false
set_option linter.all false
set_option maxRecDepth 100000
set_option maxHeartbeats 4000000
namespace Fs30
open PySem L2 Lv
section
variable {P : Program} {w : World} {K : PySem.W.Frag} {mg : Str → Option Value} {base : Heap}
theorem scWhole : FnScope ["thing"] ["thing"] (defScope sWhole) := ⟨rfl, rfl, rfl, by decide +kernel, rfl, by decide +kernel, by decide +kernel⟩
theorem ok_wholeA {f : Addr} {fd : FuncData} (F : Fun K "is_whole" "is_whole" sWhole f fd) (T : Txt mg) : FnOk P w K mg base CX0 1 f fd ["thing"] (spWholeA K) := by
  refine F.ok scWhole (fun vs H Q E h => ?_) (fun cdv A outer s H vs Q E hr h => ?_)
  · obtain ⟨x, T, rfl, _⟩ := h
    rfl
  · obtain ⟨x, Tx, rfl, ⟨ty, hT⟩, k⟩ := h
    refine ⟨_, pss_one (ps_ret (pe_and (pe_callB call_isinst rfl T.isinstance b_isinstance (pa_cons (pv 0) (pa_cons (pe_ty rfl T.int b_int) pa_nil)))
      (pe_one (pe_not (pe_callB call_isinst rfl T.isinstance b_isinstance (pa_cons (pv 0) (pa_cons (pe_ty rfl T.bool b_bool) pa_nil))))))), ?_⟩
    refine ⟨_, rfl, x, "int", _, _, rfl, ty, kit_an_int hT, _, rfl, ?_⟩
    by_cases e1 : Tx = "int"
    · subst e1
      exact iteT ⟨_, rfl, x, "bool", _, _, rfl, ty, kit_an_bool hT, _, rfl, by simpa using k⟩
    · by_cases e2 : Tx = "bool"
      · subst e2
        exact iteT ⟨_, rfl, x, "bool", _, _, rfl, ty, kit_an_bool hT, _, rfl, by simpa using k⟩
      · have e : (decide (Tx = "int") || decide (Tx = "bool")) = false := by simp [e1, e2]
        rw [decide_eq_false e1] at k
        rw [e]
        exact iteF k

theorem scWaysE : FnScope ["p"] ["p"] (defScope sWays) := ⟨rfl, rfl, rfl, by decide +kernel, rfl, by decide +kernel, by decide +kernel⟩
theorem ok_waysE {f fW : Addr} {fd dW : FuncData} {t2 t7 : Tok} (F : Fun K "check_ways" "check_ways" sWays f fd) (T : Txt mg) (XX : Excs K mg) (hz : excAll K XX.nWays = true) (hL : mg "LEAST_WAYS" = some (.int 2 t2)) (hM : mg "MOST_WAYS" = some (.int 7 t7)) (CW : Cal P w K mg base 1 "is_whole" ["thing"] (spWholeA K) fW dW) :
    FnOk P w K mg base (CX1 P w) 2 f fd ["p"] (spChkE K 2 7 XX.nWays) := by
  refine F.okE scWaysE (fun vs H Q E h => ?_) (fun cdv A outer s H vs Q E hr h => ?_)
  · obtain ⟨v, Tv, rfl, _⟩ := h
    rfl
  · obtain ⟨v, Tv, rfl, th, hc⟩ := h
    refine ⟨_, pss_one (ps_if (PW.pt (pw_or (pt_not (pt_val (pe_cal CW hr rfl (pa_cons (pv 0) pa_nil))))
      (pw_or1 (pt_not (pt_chain op_le op_le (pe_gint rfl hL) (pv 0) (pe_gint rfl hM))))))
      (pss_one (ps_raise takes1 rfl XX.mWays hz (pa_cons (pe_fstr (.con (by decide) (.val (pe_gint rfl hL) (.con (by decide) (.val (pe_gint rfl hM) (.con (by decide) .nil)))))) pa_nil))) pss_nil), ?_⟩
    refine ⟨_, rfl, v, Tv, rfl, th, _, rfl, ?_⟩
    rcases hc with ⟨i, rfl, h1, h2, k⟩ | ⟨hn | ⟨i, rfl, hni⟩, hE⟩
    · rw [decide_eq_true th.ty_int]
      refine iteF ⟨_, rfl, 2, i, rfl, rfl, _, rfl, ?_⟩
      rw [decide_eq_true h1]
      refine iteT ⟨i, 7, rfl, rfl, _, rfl, ?_⟩
      rw [decide_eq_true h2]
      exact iteF k
    · rw [decide_eq_false hn]
      exact iteT (iteT ⟨2, rfl, by decide, by decide, 7, rfl, by decide, by decide, fun x => ⟨by show 1 ≤ 1000; decide, hE⟩⟩)
    · rw [decide_eq_true th.ty_int]
      refine iteF ⟨_, rfl, 2, i, rfl, rfl, _, rfl, ?_⟩
      by_cases h1 : (2 : Int) ≤ i
      · rw [decide_eq_true h1]
        refine iteT ⟨i, 7, rfl, rfl, _, rfl, ?_⟩
        rw [decide_eq_false (by omega)]
        exact iteT ⟨2, rfl, by decide, by decide, 7, rfl, by decide, by decide, fun x => ⟨by show 1 ≤ 1000; decide, hE⟩⟩
      · rw [decide_eq_false h1]
        exact iteF ⟨_, rfl, iteT ⟨2, rfl, by decide, by decide, 7, rfl, by decide, by decide, fun x => ⟨by show 1 ≤ 1000; decide, hE⟩⟩⟩

theorem scLevelE : FnScope ["n", "last"] ["n", "last"] (defScope sLevel) := ⟨rfl, rfl, rfl, by decide +kernel, rfl, by decide +kernel, by decide +kernel⟩
/-- refused with the class at C where the first is no whole number from 0 to hi, the second -/
def spLvlE (K : PySem.W.Frag) (hi : Int) (C : Addr) : Sp := fun vs H Q E => ∃ (v : V) (T : String), vs = [v, .int hi] ∧ (hi = 300 ∨ hi = 100) ∧ Thing K H v T ∧ ((∃ i, v = .int i ∧ 0 ≤ i ∧ i ≤ hi ∧ Q .non H) ∨ (NotIn 0 hi v T ∧ E (.ref C) none H))
theorem txt_hi {hi : Int} (h : hi = 300 ∨ hi = 100) : hi.natAbs.log2 < 1920 ∧ (Str.ofString (toString hi)).length ≤ 1000 := by
  rcases h with rfl | rfl
  · exact ⟨by decide, by decide⟩
  · exact ⟨by decide, by decide⟩
theorem ok_levelE {f fW da : Addr} {fd dW : FuncData} {hi : Int} (F : FunD K "check_level" "check_level" sLevel f da fd) (T : Txt mg) (XX : Excs K mg) (hz : excAll K XX.nLevel = true) (CW : Cal P w K mg base 1 "is_whole" ["thing"] (spWholeA K) fW dW) :
    FnOk P w K mg base (CX1 P w) 2 f fd ["n", "last"] (spLvlE K hi XX.nLevel) := by
  refine F.okE scLevelE (fun vs H Q E h => ?_) (fun cdv A outer s H vs Q E hr h => ?_)
  · obtain ⟨v, Tv, rfl, _⟩ := h
    rfl
  · obtain ⟨v, Tv, rfl, hh, th, hc⟩ := h
    obtain ⟨x1, x2⟩ := txt_hi hh
    refine ⟨_, pss_one (ps_if (PW.pt (pw_or (pt_not (pt_val (pe_cal CW hr rfl (pa_cons (pv 0) pa_nil))))
      (pw_or1 (pt_not (pt_chain op_le op_le pe_int (pv 0) (pv 1))))))
      (pss_one (ps_raise takes1 rfl XX.mLevel hz (pa_cons (pe_fstr (.con (by decide) (.val (pv 1) .nil))) pa_nil))) pss_nil), ?_⟩
    refine ⟨_, rfl, v, Tv, rfl, th, _, rfl, ?_⟩
    rcases hc with ⟨i, rfl, h1, h2, k⟩ | ⟨hn | ⟨i, rfl, hni⟩, hE⟩
    · rw [decide_eq_true th.ty_int]
      refine iteF ⟨_, rfl, 0, i, rfl, rfl, _, rfl, ?_⟩
      rw [decide_eq_true h1]
      refine iteT ⟨_, rfl, i, hi, rfl, rfl, _, rfl, ?_⟩
      rw [decide_eq_true h2]
      exact iteF k
    · rw [decide_eq_false hn]
      exact iteT (iteT ⟨_, rfl, hi, rfl, x1, x2, fun x => ⟨by show 1 ≤ 1000; decide, hE⟩⟩)
    · rw [decide_eq_true th.ty_int]
      refine iteF ⟨_, rfl, 0, i, rfl, rfl, _, rfl, ?_⟩
      by_cases h1 : (0 : Int) ≤ i
      · rw [decide_eq_true h1]
        refine iteT ⟨_, rfl, i, hi, rfl, rfl, _, rfl, ?_⟩
        rw [decide_eq_false (by omega)]
        exact iteT ⟨_, rfl, hi, rfl, x1, x2, fun x => ⟨by show 1 ≤ 1000; decide, hE⟩⟩
      · rw [decide_eq_false h1]
        exact iteF ⟨_, rfl, iteT ⟨_, rfl, hi, rfl, x1, x2, fun x => ⟨by show 1 ≤ 1000; decide, hE⟩⟩⟩

def spWL (K : PySem.W.Frag) (cW cL : Addr) : Sp := fun vs H _ E => ∃ (v u : V) (T : String), vs = [v, u] ∧ Thing K H v T ∧ ((NotIn 2 7 v T ∧ E (.ref cW) none H) ∨ ∃ (p : Int) (S : String), v = .int p ∧ 2 ≤ p ∧ p ≤ 7 ∧ Thing K H u S ∧ NotIn 0 300 u S ∧ E (.ref cL) none H)
theorem ok_countsE {f f1 f2 : Addr} {fd d1 d2 : FuncData} {cW cL : Addr} (F : Fun K "level_counts" "level_counts" sCounts f fd) (CW : CalE P w K mg base 2 "check_ways" ["p"] [] (spChkE K 2 7 cW) f1 d1) (CV : CalE P w K mg base 2 "check_level" ["n", "last"] [.int 300] (spLvlE K 300 cL) f2 d2) : FnOk P w K mg base (CX1 P w) 3 f fd ["p", "n"] (spWL K cW cL) := by
  refine F.okE scCounts (fun vs H Q E h => ?_) (fun cdv A outer s H vs Q E hr h => ?_)
  · obtain ⟨v, u, Tv, rfl, _⟩ := h
    rfl
  · obtain ⟨v, u, Tv, rfl, th, hc⟩ := h
    refine ⟨_, pss_cons (ps_expr (pe_calE CW hr passes1 rfl (pa_cons (pv 0) pa_nil))) (pss_cons (ps_expr (pe_calE CV hr passes1 rfl (pa_cons (pv 1) pa_nil))) pss_never), ?_⟩
    rcases hc with ⟨hn, hE⟩ | ⟨p, S, rfl, p2, p7, th2, hn, hE⟩
    · exact ⟨_, rfl, v, Tv, rfl, th, .inr ⟨hn, hE⟩⟩
    · exact ⟨_, rfl, .int p, Tv, rfl, th, .inl ⟨p, rfl, p2, p7, _, rfl, u, S, rfl, .inl rfl, th2, .inr ⟨hn, hE⟩⟩⟩

theorem ok_totalE {f fA : Addr} {fd dA : FuncData} {cW cL : Addr} (F : Fun K "level_total" "level_total" sTotal f fd) (T : Txt mg) (CA : CalE P w K mg base 3 "level_counts" ["p", "n"] [] (spWL K cW cL) fA dA) : FnOk P w K mg base (CX1 P w) 4 f fd ["p", "n"] (spWL K cW cL) := by
  refine F.okE scTotal (fun vs H Q E h => ?_) (fun cdv A outer s H vs Q E hr h => ?_)
  · obtain ⟨v, u, Tv, rfl, _⟩ := h
    rfl
  · obtain ⟨v, u, Tv, rfl, th, hc⟩ := h
    refine ⟨_, pss_one (ps_ret (pe_callB (call_sumT rfl) rfl T.sum b_sum (pa_cons (pe_calE CA hr passes1 rfl (pa_cons (pv 0) (pa_cons (pv 1) pa_nil))) pa_nil))), ?_⟩
    exact ⟨_, rfl, _, rfl, v, u, Tv, rfl, th, hc⟩

def spTotE (cM : Addr) : Sp := fun vs H _ E => ∃ i : Int, vs = [.int i] ∧ 4000 < i ∧ E (.ref cM) none H
theorem ok_totE {f : Addr} {fd : FuncData} {tM : Tok} (F : Fun K "check_total" "check_total" sTot f fd) (XX : Excs K mg) (zM : excAll K XX.tMany = true) (hM : mg "MOST_PLACES" = some (.int 4000 tM)) : FnOk P w K mg base (CX1 P w) 1 f fd ["total"] (spTotE XX.tMany) := by
  refine F.okE scTot (fun vs H Q E h => ?_) (fun cdv A outer s H vs Q E hr h => ?_)
  · obtain ⟨i, rfl, _⟩ := h
    rfl
  · obtain ⟨i, rfl, h4, hE⟩ := h
    refine ⟨_, pss_one (ps_if (pt_cmpR op_gt (pv 0) (pe_gint rfl hM) (nomark _)) (pss_one (ps_raise takes1 rfl XX.mMany zM (pa_cons (pe_fstr (.con (by decide) (.val (pe_gint rfl hM) (.con (by decide) .nil)))) pa_nil))) pss_nil), ?_⟩
    refine ⟨_, rfl, _, _, rfl, rfl, _, rfl, ?_⟩
    rw [decide_eq_true (by omega)]
    exact iteT ⟨4000, rfl, by decide, by decide, fun x => ⟨by show 1 ≤ 1000; decide, hE⟩⟩

/-- why level_numbers refuses -/
def spPlE (K : PySem.W.Frag) (cW cL cM : Addr) : Sp := fun vs H _ E => ∃ (v u : V) (T : String), vs = [v, u] ∧ Thing K H v T ∧ ((NotIn 2 7 v T ∧ E (.ref cW) none H) ∨ ∃ p : Nat, v = .int p ∧ 2 ≤ p ∧ p ≤ 7 ∧ ((∃ S, Thing K H u S ∧ NotIn 0 300 u S ∧ E (.ref cL) none H) ∨ ∃ n : Nat, u = .int n ∧ n ≤ 300 ∧ 4000 < tot p n ∧ ∀ H', Same H H' → E (.ref cM) none H'))
theorem ok_placesE {f fA fB : Addr} {fd dA dB : FuncData} {cW cL cM : Addr} (F : Fun K "check_places" "check_places" sPlaces f fd) (CA : CalE P w K mg base 4 "level_total" ["p", "n"] [] (fun vs H Q E => spTotal vs H Q E ∨ spWL K cW cL vs H Q E) fA dA) (CB : CalE P w K mg base 1 "check_total" ["total"] [] (spTotE cM) fB dB) : FnOk P w K mg base (CX1 P w) 5 f fd ["p", "n"] (spPlE K cW cL cM) := by
  refine F.okE scPlaces (fun vs H Q E h => ?_) (fun cdv A outer s H vs Q E hr h => ?_)
  · obtain ⟨v, u, Tv, rfl, _⟩ := h
    rfl
  · obtain ⟨v, u, Tv, rfl, th, hc⟩ := h
    have hr1 : Room 1 _ := hr.mono (by decide)
    refine ⟨_, pss_one (ps_expr (pe_calE CB hr1 passes1 rfl (pa_cons (pe_calE CA hr passes1 rfl (pa_cons (pv 0) (pa_cons (pv 1) pa_nil))) pa_nil))), ?_⟩
    rcases hc with ⟨hn, hE⟩ | ⟨p, rfl, p2, p7, ⟨S, thu, hnu, hE⟩ | ⟨n, rfl, hn, ht, hE⟩⟩
    · exact ⟨_, rfl, _, rfl, .inr ⟨v, u, Tv, rfl, th, .inl ⟨hn, hE⟩⟩⟩
    · exact ⟨_, rfl, _, rfl, .inr ⟨.int p, u, Tv, rfl, th, .inr ⟨p, S, rfl, by omega, by omega, thu, hnu, hE⟩⟩⟩
    · exact ⟨_, rfl, _, rfl, .inl ⟨p, n, rfl, p2, p7, hn, fun H1 s1 => ⟨_, rfl, ht, hE H1 s1⟩⟩⟩

theorem ok_lnE {f fA : Addr} {fd dA : FuncData} {cW cL cM : Addr} (F : Fun K "level_numbers" "level_numbers" sLN f fd) (CA : CalE P w K mg base 5 "check_places" ["p", "n"] [] (spPlE K cW cL cM) fA dA) : FnOk P w K mg base (CX1 P w) 6 f fd ["p", "n"] (spPlE K cW cL cM) := by
  refine F.okE scLN (fun vs H Q E h => ?_) (fun cdv A outer s H vs Q E hr h => ?_)
  · obtain ⟨v, u, Tv, rfl, _⟩ := h
    rfl
  · obtain ⟨v, u, Tv, rfl, th, hc⟩ := h
    refine ⟨_, pss_cons (ps_expr (pe_calE CA hr passes1 rfl (pa_cons (pv 0) (pa_cons (pv 1) pa_nil)))) pss_never, ?_⟩
    refine ⟨_, rfl, _, rfl, v, u, Tv, rfl, th, ?_⟩
    rcases hc with ⟨hn, hE⟩ | ⟨p, rfl, p2, p7, ⟨S, thu, hnu, hE⟩ | ⟨n, rfl, hn, ht, hE⟩⟩
    · exact .inl ⟨hn, hE⟩
    · exact .inr ⟨p, rfl, p2, p7, .inl ⟨S, thu, hnu, hE⟩⟩
    · exact .inr ⟨p, rfl, p2, p7, .inr ⟨n, rfl, hn, ht, hE⟩⟩

end
end Fs30

set_option Elab.async false
set_option linter.all false
set_option maxRecDepth 100000
set_option maxHeartbeats 4000000
namespace Fs30
open PySem L2 Lv
section
variable {P : Program} {w : World} {K : PySem.W.Frag} {mg : Str → Option Value} {base : Heap}
theorem le_sum : ∀ {c : List Int}, (∀ x ∈ c, 0 ≤ x) → ∀ x ∈ c, x ≤ c.sum
  | [], _, x, hx => by simp at hx
  | y :: c, h, x, hx => by
    have h0 : 0 ≤ c.sum := by
      have hc : ∀ z ∈ c, 0 ≤ z := fun z hz => h z (List.mem_cons_of_mem _ hz)
      cases c with
      | nil => simp
      | cons z c => exact Int.le_trans (hc z List.mem_cons_self) (le_sum hc z List.mem_cons_self)
    rw [List.sum_cons]
    rcases List.mem_cons.mp hx with rfl | hx
    · omega
    · have := le_sum (fun z hz => h z (List.mem_cons_of_mem _ hz)) x hx
      have := h y List.mem_cons_self
      omega

theorem scTupOf : FnScope ["thing", "many"] ["thing", "many"] (defScope sTupOf) := ⟨rfl, rfl, rfl, by decide +kernel, rfl, by decide +kernel, by decide +kernel⟩
theorem ok_tupof2 {f : Addr} {fd : FuncData} (F : Fun K "is_tuple_of" "is_tuple_of" sTupOf f fd) (T : Txt mg) : FnOk P w K mg base CX0 1 f fd ["thing", "many"] spTupOf2 := by
  refine F.ok scTupOf (fun vs H Q E h => ?_) (fun cdv A outer s H vs Q E hr h => ?_)
  · obtain ⟨a, xs, n, rfl, _⟩ := h
    rfl
  · obtain ⟨a, xs, n, rfl, hA, k⟩ := h
    refine ⟨_, pss_one (ps_ret (pe_and (pe_callB call_isinst rfl T.isinstance b_isinstance (pa_cons (pv 0) (pa_cons (pe_ty rfl T.tuple b_tuple) pa_nil))) (pe_one (pe_cmpR op_eq (pe_callB call_len_seq rfl T.len PySem.boot_len (pa_cons (pv 0) pa_nil)) (pv 1) (nomark _))))), ?_⟩
    refine ⟨_, rfl, .ref a, "tuple", _, true, rfl, .tup hA, kit_tuple_tuple, true, rfl, iteT ⟨_, rfl, a, _, rfl, .inr (SqT.of hA), _, rfl, rfl, ?_⟩⟩
    simpa using k
theorem kit_bb {K : PySem.W.Frag} : PySem.W.kitOne K (.type "bool") (.type "bool") = some true := by rfl
theorem bl_get {bs : List Bool} {i : Nat} {x : V} (h : (bs.map V.bl)[i]? = some x) : ∃ b, bs[i]? = some b ∧ x = .bl b := by
  rw [List.getElem?_map] at h
  cases e : bs[i]? with
  | none => rw [e] at h; cases h
  | some r => rw [e] at h; exact ⟨r, rfl, (Option.some.inj h).symm⟩
theorem small9 {n : Nat} (h : n ≤ 90000) : n < sizeLine := Nat.lt_of_le_of_lt h (by decide)
theorem scFits : FnScope ["on_reel", "count"] ["on_reel", "count"] (defScope sFits) := ⟨rfl, rfl, rfl, by decide +kernel, rfl, by decide +kernel, by decide +kernel⟩
theorem ok_fits {f f1 : Addr} {fd d1 : FuncData} (F : Fun K "fits_reel" "fits_reel" sFits f fd) (T : Txt mg) (CT : Cal P w K mg base 1 "is_tuple_of" ["thing", "many"] spTupOf2 f1 d1) : FnOk P w K mg base CX0 2 f fd ["on_reel", "count"] spFits := by
  refine F.ok scFits (fun vs H Q E h => ?_) (fun cdv A outer s H vs Q E hr h => ?_)
  · obtain ⟨a, xs, n, rfl, _⟩ := h
    rfl
  · obtain ⟨a, bs, n, rfl, hA, hl, k⟩ := h
    refine ⟨_, (pss_one (ps_ret (pe_and (pe_cal CT hr rfl (pa_cons (pv 0) (pa_cons (pv 1) pa_nil))) (pe_one (pe_callB (call_all rfl) rfl T.all b_all (pa_cons (pe_comp (own := ["real"]) (js := []) (CompOk.by (sc := defScope sFits) (N := ["on_reel", "count"]) rfl rfl (by decide +kernel)) rfl (pi_tup (pv 0)) gkeep_name (fun _ _ _ _ _ => (pg_name (i := 0) (by show (["real"] : List Str).Nodup; decide +kernel) rfl (Or.inl rfl) (.inr rfl))) (fun _ _ _ _ _ => pts_nil) (fun _ _ _ _ _ => (pe_callB (callK_isinst K) rfl T.isinstance b_isinstance (pa_cons (pv 0) (pa_cons (pe_ty rfl T.bool b_bool) pa_nil))))) pa_nil)))))), ?_⟩
    refine ⟨_, rfl, _, rfl, a, _, n, rfl, hA, _, rfl, ?_⟩
    rw [List.length_map]
    by_cases hn : (bs.length : Int) = n
    · rw [decide_eq_true hn] at k ⊢
      refine iteT ⟨_, rfl, a, rfl, ⟨_, SqT.of hA⟩, ?_⟩
      refine comp_tup (xs := bs.map V.bl) (fun acc i H2 => Same H H2 ∧ H2 acc = some (.lst ((List.replicate i true).map V.bl))) (fun acc h0 => ⟨Same.new h0, upd_same⟩) (fun acc i H2 h0 _ p => p.1.tup (SqT.of hA)) ?_ ?_
      · rintro acc i x H2 h0 hx ⟨s2, hacc⟩
        obtain ⟨z, hz, rfl⟩ := bl_get hx
        have hi := (List.getElem?_eq_some_iff.mp hz).1
        refine ⟨_, rfl, .bl z, "bool", _, true, rfl, .bl z, kit_bb, ?_⟩
        refine ⟨_, hacc, small9 (by simp; omega), by rw [List.length_map]; exact hi, s2.put h0, ?_⟩
        rw [upd_same, List.replicate_succ', List.map_append]
        rfl
      · rintro acc H2 h0 ⟨s2, hacc⟩
        refine ⟨acc, _, rfl, SqL.of hacc, ?_⟩
        rw [all_true]
        exact k H2 s2
    · rw [decide_eq_false hn] at k ⊢
      exact iteF (k H (Same.refl H))
theorem scReal : FnScope ["laying"] ["laying"] (defScope sReal) := ⟨rfl, rfl, rfl, by decide +kernel, rfl, by decide +kernel, by decide +kernel⟩
theorem ok_real {f : Addr} {fd : FuncData} (F : Fun K "real_rows" "real_rows" sReal f fd) (T : Txt mg) : FnOk P w K mg base CX0 1 f fd ["laying"] spReal := by
  refine F.ok scReal (fun vs H Q E h => ?_) (fun cdv A outer s H vs Q E hr h => ?_)
  · obtain ⟨a, N, rfl, _⟩ := h
    rfl
  · obtain ⟨a, N, rfl, ⟨rs, hA, hT⟩, hf, k⟩ := h
    refine ⟨_, (pss_one (ps_ret (pe_callB (call_sumI rfl) rfl T.sum b_sum (pa_cons (pe_comp (own := ["on_reel"]) (js := []) (CompOk.by (sc := defScope sReal) (N := ["laying"]) rfl rfl (by decide +kernel)) rfl (pi_tup (pv 0)) gkeep_name (fun _ _ _ _ _ => (pg_name (i := 0) (by show (["on_reel"] : List Str).Nodup; decide +kernel) rfl (Or.inl rfl) (.inr rfl))) (fun _ _ _ _ _ => pts_nil) (fun _ _ _ _ _ => (pe_bmT PySem.F.slot_tuple_count PySem.F.type_tuple_count mt_countT (pv 0) (pa_cons pe_bl pa_nil)))) pa_nil)))), ?_⟩
    refine ⟨_, rfl, a, rfl, ⟨_, SqT.of hA⟩, ?_⟩
    refine comp_tup (xs := rs.map V.ref) (fun acc i H2 => Same H H2 ∧ H2 acc = some (.lst (((N.take i).map fun bs => ((bs.count true : Nat) : Int)).map V.int))) (fun acc h0 => ⟨Same.new h0, upd_same⟩) (fun acc i H2 h0 _ p => p.1.tup (SqT.of hA)) ?_ ?_
    · rintro acc i x H2 h0 hx ⟨s2, hacc⟩
      obtain ⟨r, hz, rfl⟩ := ref_get hx
      obtain ⟨bs, hb, hm, hr2⟩ := hT.at hz
      have hi := (List.getElem?_eq_some_iff.mp hz).1
      have hl := hT.1
      have hq := hf.1
      refine ⟨_, rfl, ⟨r, _, rfl, s2 _ _ hr2⟩, r, bs, true, rfl, rfl, s2 _ _ hr2, ?_⟩
      refine ⟨_, hacc, small9 (by simp; omega), by rw [List.length_map]; exact hi, s2.put h0, ?_⟩
      rw [upd_same, List.take_add_one, hb]
      simp
    · rintro acc H2 h0 ⟨s2, hacc⟩
      refine ⟨acc, _, rfl, SqL.of hacc, ?_⟩
      rw [List.length_map, hT.1, List.take_length]
      exact k H2 s2

theorem scIsLay : FnScope ["p", "n", "laying"] ["p", "n", "laying"] (defScope sIsLay) := ⟨rfl, rfl, rfl, by decide +kernel, rfl, by decide +kernel, by decide +kernel⟩
theorem all_take {N : List (List Bool)} {c : List Int} (h : N.length = c.length) : ((N.zip c).map fun q => decide (((q.1.length : Nat) : Int) = q.2)).all id = decide (lensB N = c) := by
  induction N generalizing c with
  | nil => cases c with
    | nil => rfl
    | cons _ _ => simp at h
  | cons bs N ih => cases c with
    | nil => simp at h
    | cons x c =>
      rw [List.zip_cons_cons, List.map_cons, List.all_cons, ih (by simpa using h)]
      simp only [lensB, List.map_cons, List.cons.injEq, id_eq, Bool.decide_and]
      rfl
theorem ok_islay {f f1 f2 f3 f4 : Addr} {fd d1 d2 d3 d4 : FuncData} (F : Fun K "is_laying" "is_laying" sIsLay f fd) (T : Txt mg) (CT : Cal P w K mg base 1 "is_tuple_of" ["thing", "many"] spTupOf2 f1 d1) (CF : Cal P w K mg base 2 "fits_reel" ["on_reel", "count"] spFits f2 d2)
    (CC : Cal P w K mg base 3 "level_counts" ["p", "n"] spCounts f3 d3) (CR : Cal P w K mg base 1 "real_rows" ["laying"] spReal f4 d4) : FnOk P w K mg base CX0 4 f fd ["p", "n", "laying"] spIsLay := by
  refine F.ok scIsLay (fun vs H Q E h => ?_) (fun cdv A outer s H vs Q E hr h => ?_)
  · obtain ⟨p, n, a, N, rfl, _⟩ := h
    rfl
  · obtain ⟨p, n, a, N, rfl, h1, h2, h3, h4, hL, hf, k⟩ := h
    obtain ⟨rs, hA, hT⟩ := id hL
    have hr1 : Room 1 _ := hr.mono (by decide)
    have hr2 : Room 2 _ := hr.mono (by decide)
    have hr3 : Room 3 _ := hr.mono (by decide)
    refine ⟨_, (pss_cons (ps_if (pt_not (pt_val (pe_cal CT hr1 rfl (pa_cons (pv 2) (pa_cons (pv 0) pa_nil)))))
      (pss_one (ps_ret pe_bl))
      pss_nil)
      (pss_cons (ps_if (pt_not (pt_val (pe_callB (call_all rfl) rfl T.all b_all (pa_cons (pe_comp (own := ["on_reel", "count"]) (js := []) (CompOk.by (sc := defScope sIsLay) (N := ["p", "n", "laying"]) rfl rfl (by decide +kernel)) rfl (pi_zipB rfl T.zip (pa_cons (pv 2) (pa_cons (pe_cal CC hr3 rfl (pa_cons (pv 0) (pa_cons (pv 1) pa_nil))) pa_nil))) (gkeep_two (i := 0) (k := 1) (K := K)) (fun _ _ _ _ _ => (pgK_tup K rfl (pgs_cons (pg_name (i := 0) (by show (["on_reel", "count"] : List Str).Nodup; decide +kernel) rfl (Or.inl rfl) (.inr rfl)) (pgs_cons (pg_name (i := 1) (by show (["on_reel", "count"] : List Str).Nodup; decide +kernel) rfl (Or.inl rfl) (.inr rfl)) pgs_nil)))) (fun _ _ _ _ _ => pts_nil) (fun _ _ _ _ _ => (pe_cal CF hr2 rfl (pa_cons (pv 0) (pa_cons (pv 1) pa_nil))))) pa_nil))))
      (pss_one (ps_ret pe_bl))
      pss_nil)
      (pss_one (ps_ret (pe_cmpR op_gt (pe_cal CR hr1 rfl (pa_cons (pv 2) pa_nil)) pe_int (nomark _)))))), ?_⟩
    have hcl := cnt_len (p := p) (by omega) n
    refine ⟨_, rfl, _, rfl, a, _, p, rfl, hA, ?_⟩
    rw [List.length_map, hT.1]
    by_cases hn : ((N.length : Nat) : Int) = (p : Int)
    · rw [decide_eq_true hn]
      refine ⟨_, rfl, iteF ?_⟩
      refine ⟨_, rfl, _, rfl, _, rfl, p, n, rfl, h1, h2, h3, fun l H1 _ hl1 s1 => ?_⟩
      have hA1 := s1 _ _ hA
      have hT1 := hT.same s1
      have qA : SqB false K H1 a (rs.map V.ref) := SqT.of hA1
      have qB : SqB false K H1 l ((cnt p n).map V.int) := SqT.of hl1
      have hNl : N.length = (cnt p n).length := by rw [hcl]; omega
      refine ⟨false, false, a, l, rfl, ⟨_, qA⟩, ⟨_, qB⟩, ?_⟩
      refine comp_zip (b1 := false) (b2 := false) (xs := rs.map V.ref) (ys := (cnt p n).map V.int) (by rw [List.length_map, List.length_map, hT.1]; omega) (fun acc i H2 => Same H1 H2 ∧ H2 acc = some (.lst ((((N.zip (cnt p n)).map fun q => decide (((q.1.length : Nat) : Int) = q.2)).take i).map V.bl))) (fun acc h0 => ⟨Same.new h0, upd_same⟩) (fun acc i H2 h0 _ q => ⟨q.1.tup qA, q.1.tup qB⟩) ?_ ?_
      · rintro acc i x y pp H2 h0 hx hy ⟨s2, hacc⟩ hp
        obtain ⟨r, hz, rfl⟩ := ref_get hx
        obtain ⟨c, hc, rfl⟩ := map_get hy
        obtain ⟨bs, hb, hm, hr2⟩ := hT1.at hz
        have hi := (List.getElem?_eq_some_iff.mp hz).1
        have hTl := hT.1
        have hfl := hf.1
        have s3 : Same H2 (upd H2 pp (.tup [.ref r, .int c])) := Same.new hp
        refine ⟨pp, _, rfl, SqT.of upd_same, rfl, _, _, rfl, _, _, rfl, rfl, ?_⟩
        refine ⟨_, rfl, _, rfl, r, bs, c, rfl, s3 _ _ (s2 _ _ hr2), hf.2 bs hm, fun H4 s4 => ?_⟩
        refine ⟨_, s4 _ _ (s3 _ _ hacc), small9 (by simp; omega), by rw [List.length_map]; exact hi, ((s2.trans s3).trans s4).put h0, ?_⟩
        rw [upd_same, List.take_add_one]
        have e : ((N.zip (cnt p n)).map fun q => decide (((q.1.length : Nat) : Int) = q.2))[i]? = some (decide (((bs.length : Nat) : Int) = c)) := by
          rw [List.getElem?_map, List.getElem?_zip_eq_some.mpr (⟨hb, hc⟩ : N[i]? = some (bs, c).1 ∧ (cnt p n)[i]? = some (bs, c).2)]
          rfl
        rw [e, Option.toList_some, List.map_append]
        rfl
      · rintro acc H2 h0 ⟨s2, hacc⟩
        have hfull : (((N.zip (cnt p n)).map fun q => decide (((q.1.length : Nat) : Int) = q.2)).take (rs.map V.ref).length) = ((N.zip (cnt p n)).map fun q => decide (((q.1.length : Nat) : Int) = q.2)) := by
          refine List.take_of_length_le ?_
          rw [List.length_map, List.length_map, List.length_zip, hT.1]
          omega
        rw [hfull] at hacc
        have hS := s1.trans s2
        refine ⟨acc, _, rfl, SqL.of hacc, ?_⟩
        rw [all_take hNl]
        by_cases he : lensB N = cnt p n
        · rw [decide_eq_true he]
          refine ⟨_, rfl, iteF ?_⟩
          refine ⟨_, rfl, a, N, rfl, hL.same hS, hf, fun H3 s3 => ⟨_, 0, rfl, rfl, ?_⟩⟩
          have e2 : holdsB (cnt p n) N = decide (0 < (N.map fun bs => ((bs.count true : Nat) : Int)).sum) := by
            unfold holdsB
            rw [decide_eq_true he, Bool.true_and]
            exact Bool.eq_iff_iff.mpr (by rw [decide_eq_true_iff]; exact ((sum_any N).2).symm)
          have kk := k H3 (hS.trans s3)
          rw [e2] at kk
          exact kk
        · rw [decide_eq_false he]
          refine ⟨_, rfl, iteT ?_⟩
          have e2 : holdsB (cnt p n) N = false := by
            unfold holdsB
            rw [decide_eq_false he, Bool.false_and]
          rw [e2] at k
          exact k H2 hS
    · rw [decide_eq_false hn]
      refine ⟨_, rfl, iteT ?_⟩
      have e2 : holdsB (cnt p n) N = false := by
        unfold holdsB
        rw [decide_eq_false (fun z => hn (by rw [← hcl, ← z]; simp [lensB])), Bool.false_and]
      rw [e2] at k
      exact k H (Same.refl H)
theorem scLayH : FnScope ["p", "n", "laying"] ["p", "n", "laying"] (defScope sLayH) := ⟨rfl, rfl, rfl, by decide +kernel, rfl, by decide +kernel, by decide +kernel⟩
theorem ok_layh {f f1 f2 : Addr} {fd d1 d2 : FuncData} (F : Fun K "laying_holds" "laying_holds" sLayH f fd) (T : Txt mg) (CP : Cal P w K mg base 5 "check_places" ["p", "n"] spPlaces f1 d1) (CI : Cal P w K mg base 4 "is_laying" ["p", "n", "laying"] spIsLay f2 d2) : FnOk P w K mg base CX0 6 f fd ["p", "n", "laying"] spIsLay := by
  refine F.ok scLayH (fun vs H Q E h => ?_) (fun cdv A outer s H vs Q E hr h => ?_)
  · obtain ⟨p, n, a, N, rfl, _⟩ := h
    rfl
  · obtain ⟨p, n, a, N, rfl, h1, h2, h3, h4, hL, hf, k⟩ := h
    have hr4 : Room 4 _ := hr.mono (by decide)
    refine ⟨_, (pss_cons (ps_expr (pe_cal CP hr rfl (pa_cons (pv 0) (pa_cons (pv 1) pa_nil))))
      (pss_one (ps_ret (pe_cal CI hr4 rfl (pa_cons (pv 0) (pa_cons (pv 1) (pa_cons (pv 2) pa_nil))))))), ?_⟩
    refine ⟨_, rfl, _, rfl, p, n, rfl, h1, h2, h3, h4, fun H1 s1 => ?_⟩
    refine ⟨_, rfl, _, rfl, _, rfl, p, n, a, N, rfl, h1, h2, h3, h4, hL.same s1, hf, fun H2 s2 => k H2 (s1.trans s2)⟩

def spLayR : Sp := fun vs H Q _ => ∃ (p n : Nat) (b : Addr) (B : List (List Bool)), vs = [.int p, .int n, .ref b] ∧ 2 ≤ p ∧ p ≤ 7 ∧ n ≤ 300 ∧ tot p n ≤ 4000 ∧ Lay H b B ∧ lensB B = cnt p n ∧ ∀ H', Same H H' → Q (.int (readOf (num p n) B)) H'
theorem scLayR : FnScope ["p", "n", "laying"] ["p", "n", "laying"] (defScope sLayR) := ⟨rfl, rfl, rfl, by decide +kernel, rfl, by decide +kernel, by decide +kernel⟩
theorem ok_layr {f f1 f2 : Addr} {fd d1 d2 : FuncData} (F : Fun K "laying_reading" "laying_reading" sLayR f fd) (T : Txt mg) (CN : Cal P w K mg base 6 "level_numbers" ["p", "n"] spNum f1 d1) (CR : Cal P w K mg base 1 "reading_of" ["numbers", "laying"] spRead f2 d2) : FnOk P w K mg base CX0 7 f fd ["p", "n", "laying"] spLayR := by
  refine F.ok scLayR (fun vs H Q E h => ?_) (fun cdv A outer s H vs Q E hr h => ?_)
  · obtain ⟨p, n, b, B, rfl, _⟩ := h
    rfl
  · obtain ⟨p, n, b, B, rfl, h1, h2, h3, h4, ⟨rs, hB, hT⟩, hl, k⟩ := h
    have hr1 : Room 1 _ := hr.mono (by decide)
    refine ⟨_, (pss_one (ps_ret (pe_cal CR hr1 rfl (pa_cons (pe_cal CN hr rfl (pa_cons (pv 0) (pa_cons (pv 1) pa_nil))) (pa_cons (pv 2) pa_nil))))), ?_⟩
    have hlB : B.length = p := by
      have := congrArg List.length hl
      rw [cnt_len (by omega)] at this
      simpa [lensB] using this
    have hlN : (num p n).length = p := num_len (by omega) n
    refine ⟨_, rfl, _, rfl, p, n, rfl, h1, h2, h3, h4, fun a qs H1 _ ha hq s1 => ?_⟩
    refine ⟨_, rfl, a, b, qs, rs, num p n, B, rfl, ha, s1 _ _ hB, hq, hT.same s1, by omega, by omega, fun j x y hx hy => ?_, fun H2 s2 => k H2 (s1.trans s2)⟩
    have e1 := num_get hx
    have e2 : (y.length : Int) = (cnt p n).getD j 0 := by
      rw [← hl, lensB, List.getD_eq_getElem?_getD, List.getElem?_map, hy]
      rfl
    have e3 : (cnt p n).getD j 0 ≤ (cnt p n).sum := by
      rw [List.getD_eq_getElem?_getD]
      cases e : (cnt p n)[j]? with
      | none =>
        simp
        exact sum_nn (down_cnt p n).2
      | some z => exact le_sum (down_cnt p n).2 z (List.mem_of_getElem? e)
    have e4 : (cnt p n).sum = tot p n := rfl
    omega

end
end Fs30

set_option Elab.async false
set_option linter.all false
set_option maxRecDepth 100000
set_option maxHeartbeats 4000000
namespace Fs30
open PySem L2 Lv
section
variable {P : Program} {w : World} {K : PySem.W.Frag} {mg : Str → Option Value} {base : Heap}
def spOdd31 (K : PySem.W.Frag) : Sp := fun vs H Q _ => ∃ (p : Addr) (lo hi : Int), vs = [.ref p, .int lo, .int hi] ∧ Pool H p ∧ 0 ≤ lo ∧ lo ≤ hi ∧ hi ≤ 1000 ∧ ∀ v T H', Thing K H' v T → NotIn lo hi v T → (∀ q, v = .ref q → q ≠ p) → Pool H' p → Sm p H H' → Q v H'
theorem odd31 {K : PySem.W.Frag} {H : Hp} {p q1 q2 q3 q4 : Addr} {lo hi far i : Int} (m1 : q1 ≠ p) (m2 : q2 ≠ p) (m3 : q3 ≠ p) (m4 : q4 ≠ p) (h1 : H q1 = some (.lst [.int lo])) (h2 : H q2 = some (.tup [.int lo])) (h3 : H q3 = some (.dK [])) (h4 : H q4 = some (.lst [])) (i0 : 0 ≤ i) (i1 : i < 14) (l0 : 0 ≤ lo) (lh : lo ≤ hi) (hb : hi ≤ 1000) (hf : 2000 < far) :
    ∃ v T, atI [V.int (lo - 1), .int (hi + 1), .int (0 - far), .int far, .bl true, .non, .str "3", .ref q1, .ref q2, .bl false, .int (0 - 9), .str "", .ref q3, .ref q4] i = some v ∧ Thing K H v T ∧ NotIn lo hi v T ∧ ∀ q, v = .ref q → q ≠ p := by
  rcases (show i = 0 ∨ i = 1 ∨ i = 2 ∨ i = 3 ∨ i = 4 ∨ i = 5 ∨ i = 6 ∨ i = 7 ∨ i = 8 ∨ i = 9 ∨ i = 10 ∨ i = 11 ∨ i = 12 ∨ i = 13 by omega) with rfl | rfl | rfl | rfl | rfl | rfl | rfl | rfl | rfl | rfl | rfl | rfl | rfl | rfl
  · exact ⟨_, "int", rfl, ⟨.int _, by decide⟩, .inr ⟨_, rfl, by omega⟩, fun q z => nomatch z⟩
  · exact ⟨_, "int", rfl, ⟨.int _, by decide⟩, .inr ⟨_, rfl, by omega⟩, fun q z => nomatch z⟩
  · exact ⟨_, "int", rfl, ⟨.int _, by decide⟩, .inr ⟨_, rfl, by omega⟩, fun q z => nomatch z⟩
  · exact ⟨_, "int", rfl, ⟨.int _, by decide⟩, .inr ⟨_, rfl, by omega⟩, fun q z => nomatch z⟩
  · exact ⟨_, "bool", rfl, ⟨.bl _, by decide⟩, .inl (by decide), fun q z => nomatch z⟩
  · exact ⟨_, "NoneType", rfl, ⟨.non, by decide⟩, .inl (by decide), fun q z => nomatch z⟩
  · exact ⟨_, "str", rfl, ⟨.str _, by decide⟩, .inl (by decide), fun q z => nomatch z⟩
  · exact ⟨_, "list", rfl, ⟨.lst h1, by decide⟩, .inl (by decide), fun q z => by cases z; exact m1⟩
  · exact ⟨_, "tuple", rfl, ⟨.tup h2, by decide⟩, .inl (by decide), fun q z => by cases z; exact m2⟩
  · exact ⟨_, "bool", rfl, ⟨.bl _, by decide⟩, .inl (by decide), fun q z => nomatch z⟩
  · exact ⟨_, "int", rfl, ⟨.int _, by decide⟩, .inr ⟨_, rfl, by omega⟩, fun q z => nomatch z⟩
  · exact ⟨_, "str", rfl, ⟨.str _, by decide⟩, .inl (by decide), fun q z => nomatch z⟩
  · exact ⟨_, "dict", rfl, ⟨.dK h3, by decide⟩, .inl (by decide), fun q z => by cases z; exact m3⟩
  · exact ⟨_, "list", rfl, ⟨.lst h4, by decide⟩, .inl (by decide), fun q z => by cases z; exact m4⟩
theorem scOdd : FnScope ["pool", "least", "most", "way", "far", "some"] ["pool", "least", "most"] (defScope sOdd) := ⟨rfl, rfl, rfl, by decide +kernel, rfl, by decide +kernel, by decide +kernel⟩
theorem ok_odd31 {f f1 : Addr} {fd d1 : FuncData} (F : Fun K "_law_odd" "_law_odd" sOdd f fd) (T : Txt mg) (CK : Cal P w K mg base 1 "_law_take" ["pool", "many"] spTake f1 d1) : FnOk P w K mg base CX0 2 f fd ["pool", "least", "most"] (spOdd31 K) := by
  refine okW F scOdd (fun vs H Q E h => ?_) (fun cdv A outer s H vs Q E hr1 h => ?_)
  · obtain ⟨p, lo, hi, rfl, _⟩ := h
    rfl
  · obtain ⟨p, lo, hi, rfl, hp, g1, hl, g2, k⟩ := h
    refine ⟨_, (wss_cons (ws (ps_set (i := 3) scOdd.nd rfl (Or.inl rfl) (pe_cal CK hr1 rfl (pa_cons (pv 0) (pa_cons pe_int pa_nil)))))
      (wss_cons (ws (ps_set (i := 4) scOdd.nd rfl (Or.inl rfl) (pe_op op_sub (pe_op op_pow pe_int pe_int) (pe_cal CK hr1 rfl (pa_cons (pv 0) (pa_cons pe_int pa_nil))))))
      (wss_cons (ws_set (i := 5) scOdd.nd rfl (Or.inl rfl) (we_lst (wa_cons rfl (pe_op op_sub (pv 1) pe_int) (wa_cons rfl (pe_op op_add (pv 2) pe_int) (wa_cons rfl (pe_op op_sub pe_int (pv 4)) (wa_cons rfl (pv 4) (wa_cons rfl pe_bl (wa_cons rfl pe_non (wa_cons rfl pe_str (wa_consE rfl (we_lst (wa_cons rfl (pv 1) wa_nil)) (wa_consE rfl (we_tup (wa_cons rfl (pv 1) wa_nil)) (wa_cons rfl pe_bl (wa_cons rfl (pe_op op_sub pe_int pe_int) (wa_cons rfl pe_str (wa_cons rfl pe_dnewK (wa_consE rfl (we_lst wa_nil) wa_nil))))))))))))))))
      (wss_one (ws (ps_ret (pe_ix ix_list (pv 5) (pv 3) (fun _ _ => rfl)))))))), ?_⟩
    refine ⟨_, rfl, p, 14, rfl, hp, by decide, by decide, fun dw H1 w0 w1 hp1 sm1 => ?_⟩
    refine ⟨_, _, rfl, rfl, ⟨by decide, by decide, by decide⟩, _, rfl, p, 9, rfl, hp1, by decide, by decide, fun df H2 f0 f1 hp2 sm2 => ⟨_, _, rfl, rfl, ?_⟩⟩
    have hfar : 2000 < (10 : Int) ^ Int.toNat 59 - df := by
      have : (3000 : Int) < (10 : Int) ^ Int.toNat 59 := by decide +kernel
      omega
    dsimp only
    generalize (10 : Int) ^ Int.toNat 59 - df = far at hfar ⊢
    have sm02 := sm1.trans sm2
    refine ⟨_, rfl, _, _, rfl, rfl, _, rfl, _, _, rfl, rfl, _, rfl, _, _, rfl, rfl, _, rfl, _, rfl, (by show 1 ≤ sizeLine; decide), fun q1 n1 => ?_⟩
    have s1 : Same H2 (upd H2 q1 (.lst [.int lo])) := Same.new n1
    have e1 : upd H2 q1 (.lst [.int lo]) q1 = some (.lst [.int lo]) := upd_same
    have m1 : q1 ≠ p := hp2.ne n1
    have hpa := hp2.same s1
    generalize upd H2 q1 (.lst [.int lo]) = G1 at s1 e1 hpa ⊢
    refine ⟨_, rfl, (by show 1 ≤ sizeLine; decide), fun q2 n2 => ?_⟩
    have s2 : Same G1 (upd G1 q2 (.tup [.int lo])) := Same.new n2
    have e2 : upd G1 q2 (.tup [.int lo]) q2 = some (.tup [.int lo]) := upd_same
    have m2 : q2 ≠ p := hpa.ne n2
    have hpb := hpa.same s2
    generalize upd G1 q2 (.tup [.int lo]) = G2 at s2 e2 hpb ⊢
    refine ⟨_, _, rfl, rfl, fun q3 n3 => ?_⟩
    have s3 : Same G2 (upd G2 q3 (.dK [])) := Same.new n3
    have e3 : upd G2 q3 (.dK []) q3 = some (.dK []) := upd_same
    have m3 : q3 ≠ p := hpb.ne n3
    have hpc := hpb.same s3
    generalize upd G2 q3 (.dK []) = G3 at s3 e3 hpc ⊢
    refine ⟨Nat.zero_le _, fun q4 n4 => ?_⟩
    have s4 : Same G3 (upd G3 q4 (.lst [])) := Same.new n4
    have e4 : upd G3 q4 (.lst []) q4 = some (.lst []) := upd_same
    have m4 : q4 ≠ p := hpc.ne n4
    have hpd := hpc.same s4
    generalize upd G3 q4 (.lst []) = G4 at s4 e4 hpd ⊢
    refine ⟨(by show 14 ≤ sizeLine; decide), fun l nl => ?_⟩
    have s5 : ∀ o, Same G4 (upd G4 l (.lst o)) := fun o => Same.new nl
    have hsA := fun o => ((s2.trans s3).trans s4).trans (s5 o)
    obtain ⟨v, Tv, ev, th, hn, hne⟩ := odd31 (K := K) (i := dw) m1 m2 m3 m4 (hsA [V.int (lo - 1), .int (hi + 1), .int (0 - far), .int far, .bl true, .non, .str "3", .ref q1, .ref q2, .bl false, .int (0 - 9), .str "", .ref q3, .ref q4] _ _ e1) (((s3.trans s4).trans (s5 _)) _ _ e2) ((s4.trans (s5 _)) _ _ e3) ((s5 _) _ _ e4) w0 w1 g1 hl g2 hfar
    refine ⟨_, rfl, _, rfl, l, _, _, v, rfl, rfl, SqL.of upd_same, ev, k v Tv _ th hn hne (hpd.same (s5 _)) (sm02.trans (Sm.of (s1.trans (hsA _))))⟩

def eight31 (XX : Excs K mg) : List Addr := [XX.clash, XX.nBack, XX.nLine, XX.nPhase, XX.nPlace, XX.nRoom, XX.nStand, XX.nText]
/-- 0 ways, 1 level, 2 many, 3 few -/
def Kind31 (XX : Excs K mg) (C : Addr) (j : Nat) : Prop := j < 4 ∧ ExcTab K XX.reel C XX.all ∧ PySem.W.kitOne K (.ref C) (.ref XX.nWays) = some (decide (j = 0)) ∧ PySem.W.kitOne K (.ref C) (.ref XX.nLevel) = some (decide (j = 1)) ∧ PySem.W.kitOne K (.ref C) (.ref XX.tMany) = some (decide (j = 2)) ∧ PySem.W.kitOne K (.ref C) (.ref XX.tFew) = some (decide (j = 3)) ∧ PySem.W.kitAny K (.ref C) ((eight31 XX).map Value.ref) = some false
theorem kindG31 (XX : Excs K mg) {C : Addr} {q j : Nat} (hC : C = XX.all.getD q 0) (hj : (q = 0 ∧ j = 0) ∨ (q = 2 ∧ j = 1) ∨ (q = 4 ∧ j = 2) ∨ (q = 5 ∧ j = 3)) (t : ExcTab K XX.reel C XX.all) : Kind31 XX C j := by
  have far := XX.far
  have one : ∀ i, i < 12 → PySem.W.kitOne K (.ref C) (.ref (XX.all.getD i 0)) = some (decide (i = q)) := fun i hi => by
    have hm : XX.all.getD i 0 ∈ XX.all := by
      rw [List.getD_eq_getElem?_getD, List.getElem?_eq_getElem (show i < XX.all.length from hi)]
      exact List.getElem_mem _
    by_cases e : i = q
    · subst e
      rw [decide_eq_true rfl]
      rw [← hC] at hm ⊢
      exact t.yes hm
    · rw [decide_eq_false e]
      exact t.no hm (by rw [hC]; exact far i q hi (by omega) e)
  have k0 := one 0 (by decide)
  have k2 := one 2 (by decide)
  have k4 := one 4 (by decide)
  have k5 := one 5 (by decide)
  have hne : ∀ i, i < 12 → i ≠ q → XX.all.getD i 0 ≠ C := fun i hi e => by rw [hC]; exact far i q hi (by omega) e
  refine ⟨by omega, t, ?_, ?_, ?_, ?_, t.none (by simp [Excs.all, eight31]) ?_⟩
  · have : decide (0 = q) = decide (j = 0) := by rw [Bool.eq_iff_iff, decide_eq_true_iff, decide_eq_true_iff]; omega
    rw [← this]; exact k0
  · have : decide (2 = q) = decide (j = 1) := by rw [Bool.eq_iff_iff, decide_eq_true_iff, decide_eq_true_iff]; omega
    rw [← this]; exact k2
  · have : decide (4 = q) = decide (j = 2) := by rw [Bool.eq_iff_iff, decide_eq_true_iff, decide_eq_true_iff]; omega
    rw [← this]; exact k4
  · have : decide (5 = q) = decide (j = 3) := by rw [Bool.eq_iff_iff, decide_eq_true_iff, decide_eq_true_iff]; omega
    rw [← this]; exact k5
  · intro D hD
    simp only [eight31, List.mem_cons, List.not_mem_nil, or_false] at hD
    rcases hD with rfl | rfl | rfl | rfl | rfl | rfl | rfl | rfl
    · exact hne 11 (by decide) (by omega)
    · exact hne 9 (by decide) (by omega)
    · exact hne 8 (by decide) (by omega)
    · exact hne 10 (by decide) (by omega)
    · exact hne 6 (by decide) (by omega)
    · exact hne 1 (by decide) (by omega)
    · exact hne 3 (by decide) (by omega)
    · exact hne 7 (by decide) (by omega)
def word31 (j : Nat) : Str := match j with | 0 => "ways" | 1 => "level" | 2 => "many" | _ => "few"
def spKind31 (XX : Excs K mg) : Sp := fun vs H Q _ => ∃ (ea C : Addr) (j : Nat), vs = [.ref ea] ∧ H ea = some (isExc ea C) ∧ Kind31 XX C j ∧ ∀ H', Same H H' → Q (.str (word31 j)) H'
theorem scKind : FnScope ["caught", "flags", "others"] ["caught"] (defScope sKind) := ⟨rfl, rfl, rfl, by decide +kernel, rfl, by decide +kernel, by decide +kernel⟩
theorem ok_kind31 {f : Addr} {fd : FuncData} (F : Fun K "_law_kind" "_law_kind" sKind f fd) (T : Txt mg) (Tv : mg "ValueError" = none) (XX : Excs K mg) : FnOk P w K mg base CX0 1 f fd ["caught"] (spKind31 XX) := by
  refine okW F scKind (fun vs H Q E h => ?_) (fun cdv A outer s H vs Q E hr h => ?_)
  · obtain ⟨ea, C, j, rfl, _⟩ := h
    rfl
  · obtain ⟨ea, C, j, rfl, hE, ⟨j4, tab, kw, kl, km, kf, k8⟩, k⟩ := h
    refine ⟨_, (wss_cons (ws (ps_set (i := 1) scKind.nd rfl (Or.inl rfl) (pe_lst (pa_cons (pe_callB call_isinstE rfl T.isinstance b_isinstance (pa_cons (pv 0) (pa_cons (pe_gcls rfl XX.mWays) pa_nil))) (pa_cons (pe_callB call_isinstE rfl T.isinstance b_isinstance (pa_cons (pv 0) (pa_cons (pe_gcls rfl XX.mLevel) pa_nil))) (pa_cons (pe_callB call_isinstE rfl T.isinstance b_isinstance (pa_cons (pv 0) (pa_cons (pe_gcls rfl XX.mMany) pa_nil))) pa_nil))))))
      (wss_cons (ws (ps_expr (pe_bm PySem.F.plainAttrs_list PySem.F.slot_list_append PySem.F.type_list_append mt_append (pv 1) (pa_cons (pe_callB call_isinstE rfl T.isinstance b_isinstance (pa_cons (pv 0) (pa_cons (pe_gcls rfl XX.mFew) pa_nil))) pa_nil))))
      (wss_cons (ws (ps_set (i := 2) scKind.nd rfl (Or.inl rfl) (pe_callB call_isinstET rfl T.isinstance b_isinstance (pa_cons (pv 0) (pa_cons (pe_tup (WA.out (wa_cons rfl (pe_gcls rfl XX.mClash) (wa_cons rfl (pe_gcls rfl XX.mBack) (wa_cons rfl (pe_gcls rfl XX.mLine) (wa_cons rfl (pe_gcls rfl XX.mPhase) (wa_cons rfl (pe_gcls rfl XX.mPlace) (wa_cons rfl (pe_gcls rfl XX.mRoom) (wa_cons rfl (pe_gcls rfl XX.mStand) (wa_cons rfl (pe_gcls rfl XX.mText) wa_nil)))))))))) pa_nil)))))
      (wss_cons (ws_if (PW.pt (pw_or (pt_val (pv 2)) (pw_or (pt_cmpR op_ne (pe_bm PySem.F.plainAttrs_list PySem.F.slot_list_count PySem.F.type_list_count mt_countL (pv 1) (pa_cons pe_bl pa_nil)) pe_int (nomark _)) (pw_or1 (pt_not (pt_val (pe_callB call_isinstE rfl T.isinstance b_isinstance (pa_cons (pv 0) (pa_cons (pe_ty rfl Tv b_ValueError) pa_nil)))))))))
      (wss_one (ws (ps_ret pe_str)))
      wss_nil)
      (wss_one (ws_ret (we_ix ix_list (we_lst (wa_cons rfl pe_str (wa_cons rfl pe_str (wa_cons rfl pe_str (wa_cons rfl pe_str wa_nil))))) (we (pe_bm PySem.F.plainAttrs_list PySem.F.slot_list_index PySem.F.type_list_index mt_indexB (pv 1) (pa_cons pe_bl pa_nil))) (fun _ _ => rfl)))))))), ?_⟩
    refine ⟨_, rfl, ea, C, _, _, _, rfl, hE, tab.ok, .inr ⟨_, rfl, rfl⟩, kw, _, rfl, ea, C, _, _, _, rfl, hE, tab.ok, .inr ⟨_, rfl, rfl⟩, kl, _, rfl, ea, C, _, _, _, rfl, hE, tab.ok, .inr ⟨_, rfl, rfl⟩, km, (by show 3 ≤ sizeLine; decide), fun l nl => ?_⟩
    have s1 : Same H (upd H l (.lst [.bl (decide (j = 0)), .bl (decide (j = 1)), .bl (decide (j = 2))])) := Same.new nl
    have e1 : upd H l (.lst [.bl (decide (j = 0)), .bl (decide (j = 1)), .bl (decide (j = 2))]) l = some (.lst [.bl (decide (j = 0)), .bl (decide (j = 1)), .bl (decide (j = 2))]) := upd_same
    have lea : ea ≠ l := ne_of_none hE nl
    generalize upd H l (.lst [.bl (decide (j = 0)), .bl (decide (j = 1)), .bl (decide (j = 2))]) = H1 at s1 e1 ⊢
    refine ⟨_, rfl, .inl ⟨rfl, _, SqL.of e1⟩, _, rfl, ea, C, _, _, _, rfl, s1 _ _ hE, tab.ok, .inr ⟨_, rfl, rfl⟩, kf, l, _, _, rfl, rfl, e1, (by show 3 < sizeLine; decide), ?_⟩
    have e3 : upd H1 l (.lst ([.bl (decide (j = 0)), .bl (decide (j = 1)), .bl (decide (j = 2))] ++ [.bl (decide (j = 3))])) l = some (.lst (([decide (j = 0), decide (j = 1), decide (j = 2), decide (j = 3)] : List Bool).map V.bl)) := upd_same
    have hE3 : upd H1 l (.lst ([.bl (decide (j = 0)), .bl (decide (j = 1)), .bl (decide (j = 2))] ++ [.bl (decide (j = 3))])) ea = some (isExc ea C) := by rw [upd_ne lea]; exact s1 _ _ hE
    have s3 : Same H (upd H1 l (.lst ([.bl (decide (j = 0)), .bl (decide (j = 1)), .bl (decide (j = 2))] ++ [.bl (decide (j = 3))]))) := s1.put nl
    generalize upd H1 l (.lst ([.bl (decide (j = 0)), .bl (decide (j = 1)), .bl (decide (j = 2))] ++ [.bl (decide (j = 3))])) = H3 at e3 hE3 s3 ⊢
    refine ⟨_, rfl, (by show 8 ≤ sizeLine; decide), fun t nt => ⟨ea, C, t, eight31 XX, false, rfl, (Same.new nt) _ _ hE3, tab.ok, upd_same, k8, ?_⟩⟩
    have s4 : Same H3 (upd H3 t (.tup [.ref XX.clash, .ref XX.nBack, .ref XX.nLine, .ref XX.nPhase, .ref XX.nPlace, .ref XX.nRoom, .ref XX.nStand, .ref XX.nText])) := Same.new nt
    generalize (upd H3 t (.tup [.ref XX.clash, .ref XX.nBack, .ref XX.nLine, .ref XX.nPhase, .ref XX.nPlace, .ref XX.nRoom, .ref XX.nStand, .ref XX.nText])) = H4 at s4 ⊢
    have e4 := s4 _ _ e3
    have hE4 := s4 _ _ hE3
    have ec : (([decide (j = 0), decide (j = 1), decide (j = 2), decide (j = 3)] : List Bool).count true) = 1 := by
      rcases (show j = 0 ∨ j = 1 ∨ j = 2 ∨ j = 3 by omega) with rfl | rfl | rfl | rfl <;> rfl
    have ei : (([decide (j = 0), decide (j = 1), decide (j = 2), decide (j = 3)] : List Bool).idxOf true) = j := by
      rcases (show j = 0 ∨ j = 1 ∨ j = 2 ∨ j = 3 by omega) with rfl | rfl | rfl | rfl <;> rfl
    have em : true ∈ ([decide (j = 0), decide (j = 1), decide (j = 2), decide (j = 3)] : List Bool) := by
      rcases (show j = 0 ∨ j = 1 ∨ j = 2 ∨ j = 3 by omega) with rfl | rfl | rfl | rfl <;> decide
    refine ⟨_, rfl, false, rfl, iteF ⟨_, rfl, .inl ⟨rfl, _, SqL.of e4⟩, l, _, true, rfl, rfl, SqL.of e4, rfl, _, rfl, ?_⟩⟩
    rw [ec]
    refine iteF ⟨_, rfl, ea, C, _, _, true, rfl, hE4, tab.ok, .inl ⟨rfl, rfl⟩, tab.isV, true, rfl, iteF ?_⟩
    refine ⟨(by show 4 ≤ sizeLine; decide), fun lw nw => ?_⟩
    have s5 : Same H4 (upd H4 lw (.lst [.str "ways", .str "level", .str "many", .str "few"])) := Same.new nw
    have e5 : upd H4 lw (.lst [.str "ways", .str "level", .str "many", .str "few"]) lw = some (.lst [.str "ways", .str "level", .str "many", .str "few"]) := upd_same
    generalize upd H4 lw (.lst [.str "ways", .str "level", .str "many", .str "few"]) = H5 at s5 e5 ⊢
    refine ⟨_, rfl, .inl ⟨rfl, _, SqL.of (s5 _ _ e4)⟩, l, _, true, rfl, rfl, SqL.of (s5 _ _ e4), em, ?_⟩
    rw [ei]
    refine ⟨lw, _, _, .str (word31 j), rfl, rfl, SqL.of e5, ?_, k H5 ((s3.trans s4).trans s5)⟩
    refine atI_nat ?_
    rcases (show j = 0 ∨ j = 1 ∨ j = 2 ∨ j = 3 by omega) with rfl | rfl | rfl | rfl <;> rfl

end
end Fs30

set_option Elab.async false
set_option linter.all false
set_option maxRecDepth 100000
set_option maxHeartbeats 4000000
namespace Fs30
open PySem L2 Lv
section
variable {P : Program} {w : World} {K : PySem.W.Frag} {mg : Str → Option Value} {base : Heap}
def spPl3 (K : PySem.W.Frag) (cW cL cM : Addr) : Sp := fun vs H Q E => ∃ (v u l : V), vs = [v, u, l] ∧ spPlE K cW cL cM [v, u] H Q E
theorem ok_layhE {f fA : Addr} {fd dA : FuncData} {cW cL cM : Addr} (F : Fun K "laying_holds" "laying_holds" sLayH f fd) (CA : CalE P w K mg base 5 "check_places" ["p", "n"] [] (spPlE K cW cL cM) fA dA) : FnOk P w K mg base (CX1 P w) 6 f fd ["p", "n", "laying"] (spPl3 K cW cL cM) := by
  refine F.okE scLayH (fun vs H Q E h => ?_) (fun cdv A outer s H vs Q E hr h => ?_)
  · obtain ⟨v, u, l, rfl, _⟩ := h
    rfl
  · obtain ⟨v, u, l, rfl, hc⟩ := h
    refine ⟨_, pss_cons (ps_expr (pe_calE CA hr passes1 rfl (pa_cons (pv 0) (pa_cons (pv 1) pa_nil)))) pss_never, ?_⟩
    exact ⟨_, rfl, _, rfl, hc⟩
theorem ok_layrE {f fA fB : Addr} {fd dA dB : FuncData} {cW cL cM : Addr} (F : Fun K "laying_reading" "laying_reading" sLayR f fd) (CA : CalE P w K mg base 6 "level_numbers" ["p", "n"] [] (fun vs H Q E => spNum vs H Q E ∨ spPlE K cW cL cM vs H Q E) fA dA) (CB : Cal P w K mg base 1 "reading_of" ["numbers", "laying"] spRead fB dB) : FnOk P w K mg base (CX1 P w) 7 f fd ["p", "n", "laying"] (spPl3 K cW cL cM) := by
  refine F.okE scLayR (fun vs H Q E h => ?_) (fun cdv A outer s H vs Q E hr h => ?_)
  · obtain ⟨v, u, l, rfl, _⟩ := h
    rfl
  · obtain ⟨v, u, l, rfl, hc⟩ := h
    have hr1 : Room 1 _ := hr.mono (by decide)
    refine ⟨_, pss_one (ps_ret (pe_cal CB hr1 rfl (pa_cons (pe_calE CA hr passes1 rfl (pa_cons (pv 0) (pa_cons (pv 1) pa_nil))) (pa_cons (pv 2) pa_nil)))), ?_⟩
    exact ⟨_, rfl, _, rfl, .inr hc⟩

theorem scWord : FnScope ["way", "p", "n", "laying", "caught", "e"] ["way", "p", "n", "laying"] (defScope sWord) := ⟨rfl, rfl, rfl, by decide +kernel, rfl, by decide +kernel, by decide +kernel⟩
def spWord30 (K : PySem.W.Frag) : Sp := fun vs H Q _ => ∃ (wy : Nat) (v u : V) (l : Addr) (N : List (List Bool)), vs = [.int wy, v, u, .ref l] ∧ wy ≤ 1 ∧ Lay H l N ∧ Few 9 4001 N ∧ ∃ T, Thing K H v T ∧ ((NotIn 2 7 v T ∧ ∀ H', Same H H' → Q (.str "ways") H') ∨ ∃ p : Nat, v = .int p ∧ 2 ≤ p ∧ p ≤ 7 ∧ ((∃ S, Thing K H u S ∧ NotIn 0 300 u S ∧ ∀ H', Same H H' → Q (.str "level") H') ∨ ∃ n : Nat, u = .int n ∧ n ≤ 300 ∧ ((4000 < tot p n ∧ ∀ H', Same H H' → Q (.str "many") H') ∨ (tot p n ≤ 4000 ∧ lensB N = cnt p n ∧ ∀ H', Same H H' → Q (.str "told") H'))))
theorem ok_word30 {f : Addr} {fd : FuncData} (F : Fun K "_law_word" "_law_word" sWord f fd) (XX : Excs K mg) (tW : ExcTab K XX.reel XX.nWays XX.all) (tL : ExcTab K XX.reel XX.nLevel XX.all) (tM : ExcTab K XX.reel XX.tMany XX.all) {f0 f1 : Addr} {d0 d1 : FuncData} (C0 : CalE P w K mg base 6 "laying_holds" ["p", "n", "laying"] [] (fun vs H Q E => spIsLay vs H Q E ∨ spPl3 K XX.nWays XX.nLevel XX.tMany vs H Q E) f0 d0) (C1 : CalE P w K mg base 7 "laying_reading" ["p", "n", "laying"] [] (fun vs H Q E => spLayR vs H Q E ∨ spPl3 K XX.nWays XX.nLevel XX.tMany vs H Q E) f1 d1) {fk : Addr} {dk : FuncData} (CI : Cal P w K mg base 1 "_law_kind" ["caught"] (spKind31 XX) fk dk) : FnOk P w K mg base CX0 8 f fd ["way", "p", "n", "laying"] (spWord30 K) := by
  refine okW F scWord (fun vs H Q E h => ?_) (fun cdv A outer s H vs Q E hr h => ?_)
  · obtain ⟨wy, v, u, l, N, rfl, _⟩ := h
    rfl
  · obtain ⟨wy, v, u, l, N, rfl, hw, hL, hF, Tp, th, hc⟩ := h
    have hr1 : Room 1 _ := hr.mono (by decide)
    have hr6 : Room 6 _ := hr.mono (by decide)
    refine ⟨_, (wss_cons (ws (ps_set (i := 4) scWord.nd rfl (Or.inl rfl) pe_non))
      (wss_cons (ws (ps_try (i := 5) scWord.nd rfl rfl rfl XX.mReel (fun Ex pn' xe' hx => (WSs.out (wss_one (ws_if (pt_cmpR op_eq (pv 0) pe_int (nomark _))
        (wss_one (ws (ps_expr (pe_calE C0 hr6 hx rfl (pa_cons (pv 1) (pa_cons (pv 2) (pa_cons (pv 3) pa_nil)))))))
        (wss_one (ws (ps_expr (pe_calE C1 hr hx rfl (pa_cons (pv 1) (pa_cons (pv 2) (pa_cons (pv 3) pa_nil)))))))))))
      (fun ea => (WSs.out (wss_one (ws (ps_set (i := 4) scWord.nd rfl (Or.inl rfl) (pv 5))))))))
      (wss_cons (ws_if (pt_cmpR op_isN (pv 4) pe_non (nomark _))
      (wss_one (ws (ps_ret pe_str)))
      wss_nil)
      (wss_one (ws (ps_ret (pe_cal CI hr1 rfl (pa_cons (pv 4) pa_nil)))))))), ?_⟩
    refine ⟨_, rfl, rfl, _, rfl, ite2 (fun h0 => ?_) (fun h0 => ?_)⟩
    · rcases hc with ⟨hn, k⟩ | ⟨p, rfl, p2, p7, ⟨S, thu, hnu, k⟩ | ⟨n, rfl, hn, ⟨ht, k⟩ | ⟨ht, hl, k⟩⟩⟩
      · exact ⟨_, rfl, _, rfl, _, rfl, .inr ⟨v, u, .ref l, rfl, v, u, Tp, rfl, th, .inl ⟨hn, XX.nWays, rfl, tW.exm, fun ea hea => ⟨_, rfl, _, rfl, rfl, _, rfl, iteF ⟨_, rfl, ea, XX.nWays, 0, rfl, upd_same, kindG31 (q := 0) XX rfl (by omega) tW, fun H' s => k H' ((Same.new hea).trans s)⟩⟩⟩⟩⟩
      · exact ⟨_, rfl, _, rfl, _, rfl, .inr ⟨.int p, u, .ref l, rfl, .int p, u, Tp, rfl, th, .inr ⟨p, rfl, p2, p7, .inl ⟨S, thu, hnu, XX.nLevel, rfl, tL.exm, fun ea hea => ⟨_, rfl, _, rfl, rfl, _, rfl, iteF ⟨_, rfl, ea, XX.nLevel, 1, rfl, upd_same, kindG31 (q := 2) XX rfl (by omega) tL, fun H' s => k H' ((Same.new hea).trans s)⟩⟩⟩⟩⟩⟩
      · exact ⟨_, rfl, _, rfl, _, rfl, .inr ⟨.int p, .int n, .ref l, rfl, .int p, .int n, Tp, rfl, th, .inr ⟨p, rfl, p2, p7, .inr ⟨n, rfl, hn, ht, fun H1 s1 => ⟨XX.tMany, rfl, tM.exm, fun ea hea => ⟨_, rfl, _, rfl, rfl, _, rfl, iteF ⟨_, rfl, ea, XX.tMany, 2, rfl, upd_same, kindG31 (q := 4) XX rfl (by omega) tM, fun H' s => k H' ((s1.trans (Same.new hea)).trans s)⟩⟩⟩⟩⟩⟩⟩
      · exact ⟨_, rfl, _, rfl, _, rfl, .inl ⟨p, n, l, N, rfl, p2, p7, hn, ht, hL, hF, fun H1 s1 => ⟨_, rfl, rfl, _, rfl, iteT (k H1 s1)⟩⟩⟩
    · rcases hc with ⟨hn, k⟩ | ⟨p, rfl, p2, p7, ⟨S, thu, hnu, k⟩ | ⟨n, rfl, hn, ⟨ht, k⟩ | ⟨ht, hl, k⟩⟩⟩
      · exact ⟨_, rfl, _, rfl, _, rfl, .inr ⟨v, u, .ref l, rfl, v, u, Tp, rfl, th, .inl ⟨hn, XX.nWays, rfl, tW.exm, fun ea hea => ⟨_, rfl, _, rfl, rfl, _, rfl, iteF ⟨_, rfl, ea, XX.nWays, 0, rfl, upd_same, kindG31 (q := 0) XX rfl (by omega) tW, fun H' s => k H' ((Same.new hea).trans s)⟩⟩⟩⟩⟩
      · exact ⟨_, rfl, _, rfl, _, rfl, .inr ⟨.int p, u, .ref l, rfl, .int p, u, Tp, rfl, th, .inr ⟨p, rfl, p2, p7, .inl ⟨S, thu, hnu, XX.nLevel, rfl, tL.exm, fun ea hea => ⟨_, rfl, _, rfl, rfl, _, rfl, iteF ⟨_, rfl, ea, XX.nLevel, 1, rfl, upd_same, kindG31 (q := 2) XX rfl (by omega) tL, fun H' s => k H' ((Same.new hea).trans s)⟩⟩⟩⟩⟩⟩
      · exact ⟨_, rfl, _, rfl, _, rfl, .inr ⟨.int p, .int n, .ref l, rfl, .int p, .int n, Tp, rfl, th, .inr ⟨p, rfl, p2, p7, .inr ⟨n, rfl, hn, ht, fun H1 s1 => ⟨XX.tMany, rfl, tM.exm, fun ea hea => ⟨_, rfl, _, rfl, rfl, _, rfl, iteF ⟨_, rfl, ea, XX.tMany, 2, rfl, upd_same, kindG31 (q := 4) XX rfl (by omega) tM, fun H' s => k H' ((s1.trans (Same.new hea)).trans s)⟩⟩⟩⟩⟩⟩⟩
      · exact ⟨_, rfl, _, rfl, _, rfl, .inl ⟨p, n, l, N, rfl, p2, p7, hn, ht, hL, hl, fun H1 s1 => ⟨_, rfl, rfl, _, rfl, iteT (k H1 s1)⟩⟩⟩

end
end Fs30

set_option Elab.async false
set_option linter.all false
set_option maxRecDepth 100000
set_option maxHeartbeats 4000000
namespace Fs30
open PySem L2 Lv
section
variable {P : Program} {w : World} {K : PySem.W.Frag} {mg : Str → Option Value} {base : Heap}
theorem scRef30 : FnScope ["pool", "p", "n", "laying", "great", "ways", "level", "way", "words"] ["pool", "p", "n", "laying"] (defScope sRef30) := ⟨rfl, rfl, rfl, by decide +kernel, rfl, by decide +kernel, by decide +kernel⟩
theorem lay_sm {H H' : Hp} {pl l : Addr} {N : List (List Bool)} (h : Lay H l N) (hp : Pool H pl) (s : Sm pl H H') : Lay H' l N := by
  obtain ⟨rs, h1, h2⟩ := h
  obtain ⟨a, b, e⟩ := hp
  have ne : ∀ q xs, H q = some (.tup xs) → q ≠ pl := fun q xs hq z => by rw [z, e] at hq; cases hq
  exact ⟨rs, s _ _ h1 (ne _ _ h1), h2.1, fun j r bs a b => s _ _ (h2.2 j r bs a b) (ne _ _ (h2.2 j r bs a b))⟩
def spRef30 : Sp := fun vs H Q _ => ∃ (pl : Addr) (p n : Nat) (l : Addr) (N : List (List Bool)), vs = [.ref pl, .int p, .int n, .ref l] ∧ Pool H pl ∧ 2 ≤ p ∧ p ≤ 7 ∧ tot p n ≤ 4000 ∧ Lay H l N ∧ Few 9 4001 N ∧ lensB N = cnt p n ∧ ∀ H', Pool H' pl → Sm pl H H' → Q (.bl true) H'
theorem ok_ref30 {f f1 f2 f3 f4 : Addr} {fd d1 d2 d3 d4 : FuncData} (F : Fun K "_law_refused_right" "_law_refused_right" sRef30 f fd) (T : Txt mg) (CC : Cal P w K mg base 1 "_law_counts" ["p", "n"] spCounts f1 d1) (CO : Cal P w K mg base 2 "_law_odd" ["pool", "least", "most"] (spOdd31 K) f2 d2) (CK : Cal P w K mg base 1 "_law_take" ["pool", "many"] spTake f3 d3) (CX : Cal P w K mg base 8 "_law_word" ["way", "p", "n", "laying"] (spWord30 K) f4 d4) : FnOk P w K mg base CX0 9 f fd ["pool", "p", "n", "laying"] spRef30 := by
  refine okW F scRef30 (fun vs H Q E h => ?_) (fun cdv A outer s H vs Q E hr h => ?_)
  · obtain ⟨pl, p, n, l, N, rfl, _⟩ := h
    rfl
  · obtain ⟨pl, p, n, l, N, rfl, hp, h1, h2, h3, hL, hF, hl, k⟩ := h
    have hr1 : Room 1 _ := hr.mono (by decide)
    have hr2 : Room 2 _ := hr.mono (by decide)
    have hu12 : (A.deeper (PyProof.Rows.envOfC "_law_refused_right" (defScope sRef30) s.heap.objs.size f cdv)).units + 12 < cLine := by have := hr.un; omega
    have hn19 := lev19 h1 h2 h3
    refine ⟨_, (wss_cons (ws (ps_set (i := 4) scRef30.nd rfl (Or.inl rfl) (pv 2)))
      (wss_cons (ws (ps_while PassesOwn.never (pt_cmpR op_le (pe_callB (call_sumT rfl) rfl T.sum b_sum (pa_cons (pe_cal CC hr1 rfl (pa_cons (pv 1) (pa_cons (pv 4) pa_nil))) pa_nil)) pe_int (nomark _))
      (WSs.out (wss_one (ws (ps_set (i := 4) scRef30.nd rfl (Or.inl rfl) (pe_op op_add (pv 4) pe_int)))))))
      (wss_cons (ws (ps_set (i := 5) scRef30.nd rfl (Or.inl rfl) (pe_cal CO hr2 rfl (pa_cons (pv 0) (pa_cons pe_int (pa_cons pe_int pa_nil))))))
      (wss_cons (ws (ps_set (i := 6) scRef30.nd rfl (Or.inl rfl) (pe_cal CO hr2 rfl (pa_cons (pv 0) (pa_cons pe_int (pa_cons pe_int pa_nil))))))
      (wss_cons (ws (ps_set (i := 4) scRef30.nd rfl (Or.inl rfl) (pe_op op_add (pv 4) (pe_cal CK hr1 rfl (pa_cons (pv 0) (pa_cons pe_int pa_nil))))))
      (wss_cons (ws (ps_for PassesOwn.never rfl (pi_range1 rfl T.range (pa_cons pe_int pa_nil)) (pg_name (i := 7) scRef30.nd rfl (Or.inl rfl))
      (WSs.out (wss_cons (ws (ps_set (i := 8) scRef30.nd rfl (Or.inl rfl) (pe_lst (pa_cons (pe_cal CX hr rfl (pa_cons (pv 7) (pa_cons (pv 5) (pa_cons (pv 6) (pa_cons (pv 3) pa_nil))))) (pa_cons (pe_cal CX hr rfl (pa_cons (pv 7) (pa_cons (pv 5) (pa_cons (pv 4) (pa_cons (pv 3) pa_nil))))) pa_nil)))))
        (wss_cons (ws (ps_set (i := 8) scRef30.nd rfl (Or.inl rfl) (pe_op op_cat (pv 8) (pe_lst (pa_cons (pe_cal CX hr rfl (pa_cons (pv 7) (pa_cons (pv 1) (pa_cons (pv 6) (pa_cons (pv 3) pa_nil))))) (pa_cons (pe_cal CX hr rfl (pa_cons (pv 7) (pa_cons (pv 1) (pa_cons (pv 4) (pa_cons (pv 3) pa_nil))))) pa_nil))))))
        (wss_one (ws_if (PW.pt (pw_or (pt_cmpR (op_neR hu12) (pv 8) (WE.out (we_lst (wa_cons rfl pe_str (wa_cons rfl pe_str (wa_cons rfl pe_str (wa_cons rfl pe_str wa_nil)))))) (nomark _)) (pw_or1 (pt_cmpR op_ne (pe_cal CX hr rfl (pa_cons (pv 7) (pa_cons (pv 1) (pa_cons (pv 2) (pa_cons (pv 3) pa_nil))))) pe_str (nomark _)))))
        (wss_one (ws (ps_ret pe_bl)))
        wss_nil)))))))
      (wss_one (ws (ps_ret pe_bl))))))))), ?_⟩
    refine ⟨_, rfl, ?_⟩
    refine ⟨fun q σ H7 => ∃ L : Nat, σ = [some (.ref pl), some (.int p), some (.int n), some (.ref l), some (.int L), none, none, none, none] ∧ Same H H7 ∧ n ≤ L ∧ (L = n ∨ tot p (L - 1) ≤ 4000) ∧ q = 21 - L, ⟨_, n, rfl, Same.refl _, Nat.le_refl _, .inl rfl, rfl⟩, ?_⟩
    rintro q σ H7 ⟨L, rfl, s7, hnL, hLL, rfl⟩
    have hL20 : L ≤ 20 := by
      rcases hLL with rfl | hLL
      · omega
      · have := lev19 h1 h2 hLL
        omega
    refine ⟨_, rfl, _, rfl, p, L, rfl, h1, h2, by omega, fun cl H8 cl0 cl1 s8 => ⟨cl, _, rfl, SqT.of cl1, _, _, rfl, rfl, _, rfl, ?_⟩⟩
    have s08 := s7.trans s8
    refine ite2 (fun hc => ?_) (fun hc => ?_)
    · have hc' : tot p L ≤ 4000 := of_decide_eq_true hc
      have hL19 := lev19 h1 h2 hc'
      refine ⟨fun σ H7 => σ = [some (.ref pl), some (.int p), some (.int n), some (.ref l), some (.int ((L : Int) + 1)), none, none, none, none] ∧ Same H H7, ?_, ?_⟩
      · rintro σ' H' ⟨rfl, s'⟩
        exact ⟨21 - (L + 1), by omega, L + 1, rfl, s', by omega, .inr hc', rfl⟩
      · exact ⟨_, rfl, _, _, rfl, rfl, rfl, s08⟩
    · have hc' : ¬ tot p L ≤ 4000 := fun z => hc (decide_eq_true z)
      have hp8 := hp.same s08
      refine ⟨_, rfl, pl, 2, 7, rfl, hp8, by decide, by decide, by decide, fun v Tv H9 th hn hne hp9 sm9 => ?_⟩
      refine ⟨_, rfl, pl, 0, 300, rfl, hp9, by decide, by decide, by decide, fun u Tu H10 thu hnu hneu hp10 sm10 => ?_⟩
      have th10 := th.sm hne sm10
      refine ⟨_, rfl, _, rfl, pl, 9, rfl, hp10, by decide, by decide, fun dg H11 g0 g1 hp11 sm11 => ⟨_, _, rfl, rfl, ?_⟩⟩
      obtain ⟨gg, eg⟩ : ∃ gg : Nat, (L : Int) + dg = (gg : Int) := ⟨((L : Int) + dg).toNat, by omega⟩
      dsimp only
      rw [eg]
      have tg : 4000 < tot p gg := by
        have := tot_mono h1 (show L ≤ gg by omega)
        omega
      have sm08 : Sm pl H H8 := Sm.of s08
      have smB : Sm pl H H11 := ((sm08.trans sm9).trans sm10).trans sm11
      have hLb := lay_sm hL hp smB
      have thB := th10.sm hne sm11
      have thuB := thu.sm hneu sm11
      refine ⟨2, rfl, by decide, by decide, for_range (fun i2 σ H12 => ∃ o7 o8 : Option V, σ = [some (.ref pl), some (.int p), some (.int n), some (.ref l), some (.int gg), some v, some u, o7, o8] ∧ Same H11 H12) ⟨_, _, rfl, Same.refl _⟩ ?_ ?_⟩
      · rintro i2 σ H12 hi2 ⟨o7, o8, rfl, s12⟩
        refine ⟨_, rfl, _, rfl, _, rfl, _, rfl, i2, v, u, l, N, (by rw [Int.zero_add]; rfl), by omega, hLb.same s12, hF, Tv, thB.same s12, .inl ⟨hn, fun H13 s13 => ?_⟩⟩
        have t13 := s12.trans s13
        refine ⟨_, rfl, _, rfl, _, rfl, _, rfl, i2, v, .int gg, l, N, (by rw [Int.zero_add]; rfl), by omega, hLb.same t13, hF, Tv, thB.same t13, .inl ⟨hn, fun H14 s14 => ?_⟩⟩
        have t14 := t13.trans s14
        refine ⟨(by show 2 ≤ sizeLine; decide), fun la na => ?_⟩
        have s15 : Same H14 (upd H14 la (.lst [.str "ways", .str "ways"])) := Same.new na
        have e15 : upd H14 la (.lst [.str "ways", .str "ways"]) la = some (.lst [.str "ways", .str "ways"]) := upd_same
        generalize upd H14 la (.lst [.str "ways", .str "ways"]) = H15 at s15 e15 ⊢
        have t15 := t14.trans s15
        refine ⟨_, rfl, _, rfl, _, rfl, _, rfl, _, rfl, i2, .int p, u, l, N, (by rw [Int.zero_add]; rfl), by omega, hLb.same t15, hF, "int", ⟨.int _, by decide⟩, .inr ⟨p, rfl, h1, h2, .inl ⟨Tu, thuB.same t15, hnu, fun H16 s16 => ?_⟩⟩⟩
        have t16 := t15.trans s16
        refine ⟨_, rfl, _, rfl, _, rfl, _, rfl, i2, .int p, .int gg, l, N, (by rw [Int.zero_add]; rfl), by omega, hLb.same t16, hF, "int", ⟨.int _, by decide⟩, .inr ⟨p, rfl, h1, h2, .inr ⟨gg, rfl, by omega, .inl ⟨tg, fun H17 s17 => ?_⟩⟩⟩⟩
        have t17 := t16.trans s17
        refine ⟨(by show 2 ≤ sizeLine; decide), fun lb nb => ?_⟩
        have s18 : Same H17 (upd H17 lb (.lst [.str "level", .str "many"])) := Same.new nb
        have e18 : upd H17 lb (.lst [.str "level", .str "many"]) lb = some (.lst [.str "level", .str "many"]) := upd_same
        generalize upd H17 lb (.lst [.str "level", .str "many"]) = H18 at s18 e18 ⊢
        have e15' := s18 _ _ (s17 _ _ (s16 _ _ e15))
        refine ⟨la, lb, _, _, rfl, rfl, e15', e18, (by show 4 ≤ sizeLine; decide), fun lw nw => ?_⟩
        have s19 : Same H18 (upd H18 lw (.lst [.str "ways", .str "ways", .str "level", .str "many"])) := Same.new nw
        have e19 : upd H18 lw (.lst [.str "ways", .str "ways", .str "level", .str "many"]) lw = some (.lst [.str "ways", .str "ways", .str "level", .str "many"]) := upd_same
        show gName 8 (.ref lw) _ (upd H18 lw (.lst [.str "ways", .str "ways", .str "level", .str "many"])) _
        generalize upd H18 lw (.lst [.str "ways", .str "ways", .str "level", .str "many"]) = H19 at s19 e19 ⊢
        refine ⟨_, rfl, (by show 4 ≤ sizeLine; decide), fun lx nx => ?_⟩
        have s20 : Same H19 (upd H19 lx (.lst [.str "ways", .str "ways", .str "level", .str "many"])) := Same.new nx
        have e20 : upd H19 lx (.lst [.str "ways", .str "ways", .str "level", .str "many"]) lx = some (.lst [.str "ways", .str "ways", .str "level", .str "many"]) := upd_same
        generalize upd H19 lx (.lst [.str "ways", .str "ways", .str "level", .str "many"]) = H20 at s20 e20 ⊢
        refine ⟨lw, lx, .list [.str "ways", .str "ways", .str "level", .str "many"], rfl, rfl, .lst (s20 _ _ e19) (.cons (.str _) (.cons (.str _) (.cons (.str _) (.cons (.str _) .nil)))), .lst e20 (.cons (.str _) (.cons (.str _) (.cons (.str _) (.cons (.str _) .nil)))), by decide, _, rfl, iteF ?_⟩
        have t20 := ((t17.trans s18).trans s19).trans s20
        refine ⟨_, rfl, _, rfl, _, rfl, _, rfl, i2, .int p, .int n, l, N, (by rw [Int.zero_add]; rfl), by omega, hLb.same t20, hF, "int", ⟨.int _, by decide⟩, .inr ⟨p, rfl, h1, h2, .inr ⟨n, rfl, by omega, .inr ⟨h3, hl, fun H21 s21 => ⟨rfl, _, rfl, iteF ?_⟩⟩⟩⟩⟩
        exact ⟨_, _, rfl, t20.trans s21⟩
      · rintro σ H12 ⟨o7, o8, rfl, s12⟩
        exact k H12 (hp11.same s12) (smB.trans (Sm.of s12))

end
end Fs30

set_option Elab.async false
set_option linter.all false
set_option maxRecDepth 100000
set_option maxHeartbeats 4000000
namespace Fs30
open PySem L2 Lv
section
variable {P : Program} {w : World} {K : PySem.W.Frag} {mg : Str → Option Value} {base : Heap}
/-- pairs of ints, with their places -/
def PrZ (H : Hp) (zs : List (Addr × Int × Int)) : Prop := ∀ z ∈ zs, H z.1 = some (.tup [.int z.2.1, .int z.2.2])
theorem PrZ.same {H H' : Hp} {zs : List (Addr × Int × Int)} (h : PrZ H zs) (s : Same H H') : PrZ H' zs := fun q hq => s _ _ (h q hq)
theorem PrZ.lst {H : Hp} {zs : List (Addr × Int × Int)} {a : Addr} {xs ys : List V} (h : PrZ H zs) (e : H a = some (.lst xs)) : PrZ (upd H a (.lst ys)) zs := fun q hq => by
  have e' := h q hq
  rw [upd_ne (by intro z; rw [z, e] at e'; cases e')]
  exact e'
def spLay35 : Sp := fun vs H Q _ => ∃ (pl b : Addr) (c : List Int) (rows : Nat), vs = [.ref pl, .ref b, .int rows] ∧ Pool H pl ∧ H b = some (.tup (c.map V.int)) ∧ c.length ≤ 7 ∧ (∀ x ∈ c, 0 ≤ x) ∧ c.sum ≤ 4000 ∧ (rows : Int) ≤ c.sum ∧ rows ≤ 4000 ∧
  ∀ l ks H', H l = none → Lay H' l (nf ks 0 c) → (nf ks 0 c).flatten.count true = rows → Pool H' pl → Sm pl H H' → Q (.ref l) H'
theorem callK_tuple_of (K : PySem.W.Frag) {X : Cx} (hK : X.K = K := by rfl) : CallR X (.type "tuple") (fun xs H Q => ∃ p ys, xs = [.ref p] ∧ ((SqL K H p ys ∧ ∀ l, H l = none → Q (.ref l) (upd H l (.tup ys))) ∨ (SqT K H p ys ∧ Q (.ref p) H))) := by subst hK; exact call_tuple_of
theorem erase_perm {α : Type} : ∀ {l : List α} {i : Nat} (h : i < l.length), l.Perm (l[i] :: l.eraseIdx i)
  | a :: l, 0, _ => List.Perm.refl _
  | a :: l, i + 1, h => ((erase_perm (l := l) (i := i) (by simpa using h)).cons a).trans (List.Perm.swap _ _ _)
theorem smPut {p q : Addr} {H H2 : Hp} {o : HO} (s : Sm p H H2) (h : H q = none) : Sm p H (upd H2 q o) := fun b u e n => by rw [upd_ne (ne_of_none e h)]; exact s b u e n
theorem take_le : ∀ {c : List Int}, (∀ x ∈ c, 0 ≤ x) → ∀ i, 0 ≤ (c.take i).sum ∧ (c.take i).sum ≤ c.sum
  | [], _, i => by simp
  | y :: c, h, 0 => by
    have := take_le (c := c) (fun z hz => h z (List.mem_cons_of_mem _ hz)) c.length
    have := h y List.mem_cons_self
    rw [List.take_length] at *
    simp only [List.take_zero, List.sum_nil, List.sum_cons]
    omega
  | y :: c, h, i + 1 => by
    have := take_le (c := c) (fun z hz => h z (List.mem_cons_of_mem _ hz)) i
    have := h y List.mem_cons_self
    simp only [List.take_succ_cons, List.sum_cons]
    omega
theorem seqIx {i : Int} {n : Nat} (h0 : 0 ≤ i) (h : i < (n : Int)) : seqIndex? i n = some i.toNat := by
  unfold seqIndex?
  rw [if_pos (by simp; omega)]
  rw [if_neg (by omega)]
theorem scLay29 : FnScope ["pool", "counts", "rows", "places", "reel", "count", "real", "turn"] ["pool", "counts", "rows"] (defScope sLay29) := ⟨rfl, rfl, rfl, by decide +kernel, rfl, by decide +kernel, by decide +kernel⟩
theorem ok_lay35 {f f1 : Addr} {fd d1 : FuncData} (F : Fun K "_law_laying" "_law_laying" sLay29 f fd) (T : Txt mg) (Te : mg "enumerate" = none) (CK : Cal P w K mg base 1 "_law_take" ["pool", "many"] spTake f1 d1) : FnOk P w K mg base CX0 2 f fd ["pool", "counts", "rows"] spLay35 := by
  refine okW F scLay29 (fun vs H Q E h => ?_) (fun cdv A outer s H vs Q E hr h => ?_)
  · obtain ⟨pl, b, c, rows, rfl, _⟩ := h
    rfl
  · obtain ⟨pl, b, c, rows, rfl, hp, hB, hc7, hc0, hc4, hrs, hr60, k⟩ := h
    have hu := hu_of hr
    refine ⟨_, (wss_cons (ws (ps_set (i := 3) scLay29.nd rfl (Or.inl rfl) (pe_lst pa_nil)))
      (wss_cons (ws (ps_for PassesOwn.never rfl (pi_enumB rfl Te (pa_cons (pv 1) pa_nil)) (pg_tup rfl (pgs_cons (pg_name (i := 4) scLay29.nd rfl (Or.inr rfl)) (pgs_cons (pg_name (i := 5) scLay29.nd rfl (Or.inl rfl)) pgs_nil)))
      (WSs.out (wss_one (ws (ps_expr (pe_bm PySem.F.plainAttrs_list PySem.F.slot_list_extend PySem.F.type_list_extend mt_extend (pv 3) (pa_cons (pe_comp (own := ["place"]) (js := [4]) (CompOk.by (sc := defScope sLay29) (N := ["pool", "counts", "rows", "places", "reel", "count", "real", "turn"]) rfl rfl (by decide +kernel)) rfl (pi_range1 rfl T.range (pa_cons (pv 5) pa_nil)) gkeep_name (fun _ _ _ _ _ => (pg_name (i := 0) (by show (["place", "reel"] : List Str).Nodup; decide +kernel) rfl (Or.inl rfl) (.inr rfl))) (fun _ _ _ _ _ => pts_nil) (fun _ _ _ _ _ => (pe_tup (pa_cons (pv 1) (pa_cons (pv 0) pa_nil))))) pa_nil))))))))
      (wss_cons (ws (ps_set (i := 6) scLay29.nd rfl (Or.inr rfl) pe_dnewT))
      (wss_cons (ws (ps_for PassesOwn.never rfl (pi_range1 rfl T.range (pa_cons (pv 2) pa_nil)) (pg_name (i := 7) scLay29.nd rfl (Or.inl rfl))
      (WSs.out (wss_one (ws (ps_dput hu (pv 6) (pe_bm PySem.F.plainAttrs_list PySem.F.slot_list_pop PySem.F.type_list_pop mt_popAt (pv 3) (pa_cons (pe_cal CK hr rfl (pa_cons (pv 0) (pa_cons (pe_callB call_len_seq rfl T.len PySem.boot_len (pa_cons (pv 3) pa_nil)) pa_nil))) pa_nil)) pe_bl rfl))))))
      (wss_one (ws (ps_ret (pe_callTy call_tuple_of rfl T.tuple b_tuple (pa_cons (pe_compK (own := ["reel", "count"]) (js := [6]) (CompOkK.by (sc := defScope sLay29) (N := ["pool", "counts", "rows", "places", "reel", "count", "real", "turn"]) rfl rfl (by decide +kernel)) rfl (pi_enumB rfl Te (pa_cons (pv 1) pa_nil)) (gkeep_two (i := 0) (k := 1) (K := K)) (fun _ _ _ _ _ => (pgK_tup K rfl (pgs_cons (pg_name (i := 0) (by show (["reel", "count", "real"] : List Str).Nodup; decide +kernel) rfl (Or.inr rfl) (.inl rfl)) (pgs_cons (pg_name (i := 1) (by show (["reel", "count", "real"] : List Str).Nodup; decide +kernel) rfl (Or.inl rfl) (.inr rfl)) pgs_nil)))) (fun _ _ _ _ _ => pts_nil) (fun _ _ _ _ _ => (pe_callTy (callK_tuple_of K) rfl T.tuple b_tuple (pa_cons (pe_comp (own := ["place"]) (js := [0, 2]) (CompOk.by (N := ["reel", "count", "real"]) rfl rfl rfl) rfl (pi_range1 rfl T.range (pa_cons (pv 1) pa_nil)) gkeep_name (fun _ _ _ _ _ => (pg_name (i := 0) (by show (["place", "reel", "real"] : List Str).Nodup; decide +kernel) rfl (Or.inl rfl) (.inr rfl))) (fun _ _ _ _ _ => pts_nil) (fun _ _ _ _ _ => (pe_cmp (pc_din hu (pe_tup (pa_cons (pv 1) (pa_cons (pv 0) pa_nil))) (pv 2)) rfl))) pa_nil)))) pa_nil))))))))), ?_⟩
    refine ⟨Nat.zero_le _, fun lp nlp => ?_⟩
    have s1 : Same H (upd H lp (.lst [])) := Same.new nlp
    have hlp1 : upd H lp (.lst []) lp = some (.lst []) := upd_same
    show gName 3 (.ref lp) _ (upd H lp (.lst [])) _
    generalize upd H lp (.lst []) = H1 at s1 hlp1 ⊢
    have hB1 := s1 _ _ hB
    refine ⟨_, rfl, b, false, rfl, ⟨_, (SqT.of hB1 : SqB false K H1 b (c.map V.int))⟩, ?_⟩
    refine for_enumB (b := false) (K := K) (xs := c.map V.int) (fun i σ H2 => ∃ (zs : List (Addr × Int × Int)) (o4 o5 : Option V), σ = [some (.ref pl), some (.ref b), some (.int rows), some (.ref lp), o4, o5, none, none] ∧ H2 lp = some (.lst (zs.map fun z => V.ref z.1)) ∧ PrZ H2 zs ∧ zs.map (·.2) = pl3 0 (c.take i) ∧ Same H H2)
      ⟨[], none, none, rfl, hlp1, fun q hq => by simp at hq, by simp [pl3], s1⟩ (fun i σ H2 _ ⟨zs, o4, o5, _, _, _, _, s2⟩ => (SqT.of (s2 _ _ hB) : SqB false K H2 b (c.map V.int))) ?_ ?_
    · rintro i x pp σ H2 hx ⟨zs, o4, o5, rfl, hlp2, hps, hpl, s2⟩ hpp
      obtain ⟨z, hz, rfl⟩ := map_get hx
      have hzm := List.mem_of_getElem? hz
      have z0 := hc0 z hzm
      have z4 := le_sum hc0 z hzm
      have hzl : zs.length ≤ 4000 := by
        have h1 := (take_le hc0 i).2
        have h2 := pl3_len 0 (c.take i) (fun y hy => hc0 y (List.mem_of_mem_take hy))
        rw [← hpl, List.length_map] at h2
        omega
      have s3 : Same H2 (upd H2 pp (.tup [.int i, .int z])) := Same.new hpp
      have e3 : upd H2 pp (.tup [.int i, .int z]) pp = some (.tup [.int i, .int z]) := upd_same
      generalize upd H2 pp (.tup [.int i, .int z]) = H3 at s3 e3 ⊢
      refine ⟨pp, _, rfl, SqT.of e3, rfl, _, _, rfl, _, _, rfl, rfl, ?_⟩
      have hlp3 := s3 _ _ hlp2
      have hps3 := hps.same s3
      refine ⟨_, rfl, .inl ⟨rfl, _, SqL.of hlp3⟩, ?_⟩
      refine ⟨_, rfl, z, rfl, by omega, by omega, ?_⟩
      refine comp_range (n := z.toNat) (fun acc j H4 => ∃ qs : List (Addr × Int × Int), H4 acc = some (.lst (qs.map fun z => V.ref z.1)) ∧ PrZ H4 qs ∧ qs.map (·.2) = (List.range j).map (fun (t : Nat) => ((i : Int), (t : Int))) ∧ Same H3 H4) (fun acc h0 => ⟨[], upd_same, fun q hq => by simp at hq, rfl, Same.new h0⟩) ?_ ?_
      · rintro acc j H4 h0 hj ⟨qs, hacc, hqs, hql, s4⟩
        have hqll : qs.length = j := by have := congrArg List.length hql; simpa using this
        refine ⟨_, rfl, _, rfl, (by show 2 ≤ sizeLine; decide), fun q nq => ?_⟩
        have s5 : Same H4 (upd H4 q (.tup [.int i, .int (0 + (j : Int))])) := Same.new nq
        have e5 : upd H4 q (.tup [.int i, .int (0 + (j : Int))]) q = some (.tup [.int i, .int (0 + (j : Int))]) := upd_same
        have hacc5 := s5 _ _ hacc
        refine ⟨_, hacc5, small9 (by rw [List.length_map]; omega), hj, qs ++ [(q, (i : Int), (j : Int))], by rw [upd_same]; simp, ?_, by rw [List.map_append, hql, List.range_succ, List.map_append]; rfl, (s4.trans s5).put h0⟩
        intro x hx
        rcases List.mem_append.mp hx with hx | hx
        · exact ((hqs.same s5).lst hacc5) x hx
        · have : x = (q, (i : Int), (j : Int)) := by simpa using hx
          subst this
          show upd _ acc _ q = _
          rw [upd_ne (ne_of_none hacc nq).symm, e5, Int.zero_add]
      · rintro acc H4 h0 ⟨qs, hacc, hqs, hql, s4⟩
        have hqll : qs.length = z.toNat := by have := congrArg List.length hql; simpa using this
        have hlp4 := s4 _ _ hlp3
        refine ⟨lp, acc, _, _, rfl, rfl, hlp4, hacc, ?_, ?_⟩
        · have hz : 100000 < sizeLine := by decide
          rw [List.length_map, List.length_map]
          omega
        · refine ⟨zs ++ qs, _, _, rfl, by rw [upd_same]; simp, ?_, ?_, ((s2.trans s3).trans s4).put nlp⟩
          · intro x hx
            rcases List.mem_append.mp hx with hx | hx
            · exact ((hps3.same s4).lst hlp4) x hx
            · exact (hqs.lst hlp4) x hx
          · rw [pl3_take hz, List.map_append, hpl, hql]
            rfl
    · rintro σ H2 ⟨zs, o4, o5, rfl, hlp2, hps, hpl, s2⟩
      rw [List.length_map, List.take_length] at hpl
      intro d nd
      have s3 : Same H2 (upd H2 d (.dT [])) := Same.new nd
      have hd3 : upd H2 d (.dT []) d = some (.dT (dP [])) := upd_same
      show gName 6 (.ref d) _ (upd H2 d (.dT [])) _
      have nd0 : H d = none := s2.free nd
      have hlpd : lp ≠ d := ne_of_none hlp2 nd
      have hlppl : lp ≠ pl := hp.ne nlp
      have hdpl : d ≠ pl := hp.ne nd0
      have sH3 := s2.trans s3
      have hP3 := pl3_len 0 c hc0
      have hPnd := pl3_nd 0 c
      generalize upd H2 d (.dT []) = H3 at s3 hd3 sH3 ⊢
      refine ⟨_, rfl, rows, rfl, by omega, by omega, ?_⟩
      refine for_range (n := rows) (fun i σ H4 => ∃ (zs : List (Addr × Int × Int)) (ks : List (Int × Int)) (o7 : Option V), σ = [some (.ref pl), some (.ref b), some (.int rows), some (.ref lp), o4, o5, some (.ref d), o7] ∧ H4 lp = some (.lst (zs.map fun z => V.ref z.1)) ∧ PrZ H4 zs ∧ (zs.map (·.2) ++ ks).Perm (pl3 0 c) ∧ H4 d = some (.dT (dP ks)) ∧ ks.length = i ∧ Pool H4 pl ∧ Sm pl H H4)
        ⟨zs, [], none, rfl, s3 _ _ hlp2, hps.same s3, by rw [List.append_nil, hpl], hd3, rfl, hp.same sH3, Sm.of sH3⟩ ?_ ?_
      · rintro i σ H4 hi ⟨zs, ks, o7, rfl, hlp4, hps4, hpm4, hd4, hkl, hp4, sm4⟩
        have hzk : (zs.length : Int) + i = c.sum := by
          have := hpm4.length_eq
          rw [List.length_append, List.length_map] at this
          omega
        refine ⟨_, rfl, _, rfl, .inl ⟨rfl, _, SqL.of hlp4⟩, ?_⟩
        refine ⟨_, rfl, _, rfl, lp, _, rfl, .inl (SqL.of hlp4), pl, _, rfl, hp4, ?_, ?_, fun dg H5 d0 d1 hP5 sm5 => ?_⟩
        · rw [List.length_map]; omega
        · rw [List.length_map]; exact bits_small (by omega) (by omega)
        rw [List.length_map] at d1
        have hlp5 := sm5 lp _ hlp4 hlppl
        have hd5 := sm5 d _ hd4 hdpl
        have hdn : dg.toNat < zs.length := by omega
        have hps5 : PrZ H5 zs := fun q hq => sm5 q.1 _ (hps4 q hq) (by
          intro z
          have e := hps4 q hq
          obtain ⟨u, v, e'⟩ := hp4
          rw [z, e'] at e
          cases e)
        refine ⟨lp, _, dg, dg.toNat, .ref zs[dg.toNat].1, rfl, rfl, hlp5, by omega, by omega, ?_, ?_, ?_⟩
        · exact seqIx d0 (by rw [List.length_map]; omega)
        · rw [List.getElem?_map, List.getElem?_eq_getElem hdn]
          rfl
        have eq5 := hps5 zs[dg.toNat] (List.getElem_mem hdn)
        generalize hzz : zs[dg.toNat] = zz at eq5 ⊢
        have er : (zs.map fun z => V.ref z.1).eraseIdx dg.toNat = (zs.eraseIdx dg.toNat).map fun z => V.ref z.1 := by
          rw [List.eraseIdx_eq_take_drop_succ, List.eraseIdx_eq_take_drop_succ, List.map_append, List.map_take, List.map_drop]
        rw [er]
        have hpm5 : zs.Perm (zz :: zs.eraseIdx dg.toNat) := by
          rw [← hzz]
          exact erase_perm hdn
        have hpm6 : ((zs.eraseIdx dg.toNat).map (·.2) ++ (ks ++ [zz.2])).Perm (pl3 0 c) := by
          refine List.Perm.trans ?_ hpm4
          refine List.Perm.trans ?_ ((hpm5.map (·.2)).symm.append_right ks)
          rw [← List.append_assoc, List.map_cons, List.cons_append]
          exact List.perm_append_singleton _ _
        have hnk : zz.2 ∉ ks := fun hz => by
          have nd6 : ((zs.eraseIdx dg.toNat).map (·.2) ++ (ks ++ [zz.2])).Nodup := hpm6.nodup_iff.mpr hPnd
          have := (List.nodup_append.mp (List.nodup_append.mp nd6).2.1).2.2 _ hz _ (List.mem_singleton.mpr rfl)
          exact this rfl
        have hqlp : zz.1 ≠ lp := by
          intro z
          rw [z, hlp5] at eq5
          cases eq5
        have hd6 : upd H5 lp (.lst ((zs.eraseIdx dg.toNat).map fun z => V.ref z.1)) d = some (.dT (dP ks)) := by rw [upd_ne hlpd.symm]; exact hd5
        have eq6 : upd H5 lp (.lst ((zs.eraseIdx dg.toNat).map fun z => V.ref z.1)) zz.1 = some (.tup (([Sum.inl zz.2.1, Sum.inl zz.2.2] : List Key).map kV)) := by rw [upd_ne hqlp]; exact eq5
        have hdl : (dP ks).length = i := by rw [dP, List.length_map, hkl]
        refine ⟨d, _, rfl, DPut.t hd6 eq6 (small9 (by omega)), ?_⟩
        rw [dP_put hnk]
        refine ⟨zs.eraseIdx dg.toNat, ks ++ [zz.2], _, rfl, by rw [upd_ne hlpd, upd_same], ?_, hpm6, upd_same, by simp [hkl], ?_, ?_⟩
        · intro q hq
          have e := hps5 q (List.mem_of_mem_eraseIdx hq)
          have h1 : q.1 ≠ lp := by intro z; rw [z, hlp5] at e; cases e
          have h2 : q.1 ≠ d := by intro z; rw [z, hd5] at e; cases e
          rw [upd_ne h2, upd_ne h1]
          exact e
        · obtain ⟨u, v, e⟩ := hP5
          exact ⟨u, v, by rw [upd_ne hdpl.symm, upd_ne hlppl.symm]; exact e⟩
        · exact smPut (smPut (sm4.trans sm5) nlp) nd0
      · rintro σ H4 ⟨zs, ks, o7, rfl, hlp4, hps4, hpm4, hd4, hkl, hp4, sm4⟩
        have hbpl : b ≠ pl := by
          rintro rfl
          obtain ⟨u, v, e'⟩ := hp
          rw [hB] at e'
          cases e'
        have hB4 := sm4 b _ hB hbpl
        have hcnt := nf_count hpm4
        rw [hkl] at hcnt
        refine ⟨_, rfl, b, false, rfl, ⟨_, (SqT.of hB4 : SqB false K H4 b (c.map V.int))⟩, ?_⟩
        refine comp_enumB (b := false) (K := K) (xs := c.map V.int) (fun acc i H5 => ∃ rs : List Addr, H5 acc = some (.lst (rs.map V.ref)) ∧ TBs H5 rs (nf ks 0 (c.take i)) ∧ rs.length = i ∧ Same H4 H5)
          (fun acc h0 => ⟨[], upd_same, ⟨rfl, fun j r bs a b => by simp at a⟩, rfl, Same.new h0⟩) (fun acc i H5 h0 _ ⟨rs, _, _, _, s5⟩ => (SqT.of (s5 _ _ hB4) : SqB false K H5 b (c.map V.int))) ?_ ?_
        · rintro acc i x pp H5 h0 hx ⟨rs, hacc, hT, hNl, s5⟩ hpp
          obtain ⟨z, hz, rfl⟩ := map_get hx
          have hi := (List.getElem?_eq_some_iff.mp hz).1
          have hzm := List.mem_of_getElem? hz
          have z0 := hc0 z hzm
          have z4 := le_sum hc0 z hzm
          have s6 : Same H5 (upd H5 pp (.tup [.int i, .int z])) := Same.new hpp
          have e6 : upd H5 pp (.tup [.int i, .int z]) pp = some (.tup [.int i, .int z]) := upd_same
          generalize upd H5 pp (.tup [.int i, .int z]) = H6 at s6 e6 ⊢
          refine ⟨pp, _, rfl, SqT.of e6, rfl, _, _, rfl, _, _, rfl, rfl, ?_⟩
          have hd6 := s6 _ _ (s5 _ _ hd4)
          have hacc6 := s6 _ _ hacc
          refine ⟨_, rfl, z, rfl, by omega, by omega, ?_⟩
          refine comp_range (n := z.toNat) (fun acc j H7 => H7 acc = some (.lst (((List.range j).map fun (t : Nat) => decide (((i : Int), (t : Int)) ∈ ks)).map V.bl)) ∧ Same H6 H7) (fun acc h0 => ⟨upd_same, Same.new h0⟩) ?_ ?_
          · rintro acc2 j H7 h02 hj ⟨hacc2, s7⟩
            refine ⟨_, rfl, _, rfl, (by show 2 ≤ sizeLine; decide), fun q nq => ?_⟩
            have s8 : Same H7 (upd H7 q (.tup [.int i, .int (0 + (j : Int))])) := Same.new nq
            have e8 : upd H7 q (.tup [.int i, .int (0 + (j : Int))]) q = some (.tup (([Sum.inl (i : Int), Sum.inl (0 + (j : Int))] : List Key).map kV)) := upd_same
            refine ⟨_, rfl, d, _, rfl, DGet.t (s8 _ _ (s7 _ _ hd6)) e8, ?_⟩
            refine ⟨_, s8 _ _ hacc2, small9 (by rw [List.length_map, List.length_map, List.length_range]; omega), hj, ?_, (s7.trans s8).put h02⟩
            rw [upd_same, Int.zero_add, dP_val ks ((i : Int), (j : Int)), List.range_succ, List.map_append, List.map_append]
            rfl
          · rintro acc2 H7 h02 ⟨hacc2, s7⟩
            have hacc2' : H7 acc2 = some (.lst ((nfR ks i z).map V.bl)) := hacc2
            refine ⟨acc2, _, rfl, .inl ⟨SqL.of hacc2', fun l nl => ?_⟩⟩
            have s8 : Same H7 (upd H7 l (.tup ((nfR ks i z).map V.bl))) := Same.new nl
            have e8 : upd H7 l (.tup ((nfR ks i z).map V.bl)) l = some (.tup ((nfR ks i z).map V.bl)) := upd_same
            generalize upd H7 l (.tup ((nfR ks i z).map V.bl)) = H8 at s8 e8 ⊢
            have hacc8 := s8 _ _ (s7 _ _ hacc6)
            have hT8 := ((hT.same s6).same s7).same s8
            refine ⟨_, hacc8, small9 (by rw [List.length_map]; omega), by rw [List.length_map]; exact hi, rs ++ [l], by rw [upd_same]; simp, ?_, by simp [hNl], (((s5.trans s6).trans s7).trans s8).put h0⟩
            rw [nf_take hz]
            exact (hT8.snoc e8).lst hacc8
        · rintro acc H5 h0 ⟨rs, hacc, hT, hNl, s5⟩
          rw [List.length_map, List.take_length] at hT
          refine ⟨acc, _, rfl, .inl ⟨SqL.of hacc, fun l nl => ?_⟩⟩
          have s6 : Same H5 (upd H5 l (.tup (rs.map V.ref))) := Same.new nl
          have nl0 : H l = none := sm4.free (hp4.ne (s5.free nl)) (s5.free nl)
          exact k l ks _ nl0 ⟨rs, upd_same, hT.same s6⟩ hcnt (hp4.same (s5.trans s6)) (sm4.trans (Sm.of (s5.trans s6)))

end
end Fs30

set_option Elab.async false
set_option linter.all false
set_option maxRecDepth 100000
set_option maxHeartbeats 4000000
namespace Fs30
open PySem L2 Lv
section
variable {P : Program} {w : World} {K : PySem.W.Frag} {mg : Str → Option Value} {base : Heap}
def spLNumF : Sp := fun vs H Q _ => ∃ p n : Nat, vs = [.int p, .int n] ∧ 2 ≤ p ∧ p ≤ 7 ∧ n ≤ 300 ∧ tot p n ≤ 4000 ∧ ∀ l qs H', H l = none → H' l = some (.lst (qs.map V.ref)) → LLs H' qs (num p n) → (∀ q ∈ qs, H q = none) → Same H H' → Q (.ref l) H'
theorem scLNum : FnScope ["p", "n", "reels", "turn", "more"] ["p", "n"] (defScope sLNum) := ⟨rfl, rfl, rfl, by decide +kernel, rfl, by decide +kernel, by decide +kernel⟩
theorem ok_lnum {f : Addr} {fd : FuncData} (F : Fun K "_law_numbers" "_law_numbers" sLNum f fd) (T : Txt mg) : FnOk P w K mg base CX0 1 f fd ["p", "n"] spLNumF := by
  refine F.ok scLNum (fun vs H Q E h => ?_) (fun cdv A outer s H vs Q E hr h => ?_)
  · obtain ⟨p, n, rfl, _⟩ := h
    rfl
  · obtain ⟨p, n, rfl, h1, h2, h3, h4, k⟩ := h
    refine ⟨_, pss_cons (ps_set (i := 2) scLNum.nd rfl (Or.inl rfl) (pe_op op_cat (pe_lst (pa_cons (pe_lst (pa_cons pe_int pa_nil)) pa_nil)) (pe_op op_rep (pe_lst (pa_cons (pe_lst pa_nil) pa_nil)) (pe_op op_sub (pv 0) pe_int))))
      (pss_cons (ps_for PassesOwn.never rfl (pi_range1 rfl T.range (pa_cons (pv 1) pa_nil)) (pg_name (i := 3) scLNum.nd rfl (Or.inl rfl))
        (pss_cons (ps_set (i := 4) scLNum.nd rfl (Or.inr rfl) (pe_comp (own := ["number"]) (js := []) (CompOk.by (sc := defScope sLNum) (N := ["p", "n", "reels", "turn", "more"]) rfl rfl (by decide +kernel)) rfl (pi_list (pe_ix ix_list (pv 2) pe_int (fun _ _ => rfl))) gkeep_name
          (fun _ _ _ _ _ => pg_name (i := 0) (by show (["number"] : List Str).Nodup; decide +kernel) rfl (Or.inl rfl) (.inr rfl)) (fun _ _ _ _ _ => pts_nil) (fun _ _ _ _ _ => pe_op op_add (pv 0) pe_int)))
        (pss_one (ps_set (i := 2) scLNum.nd rfl (Or.inl rfl) (pe_op op_cat
          (pe_comp (own := ["reel"]) (js := [4]) (CompOk.by (sc := defScope sLNum) (N := ["p", "n", "reels", "turn", "more"]) rfl rfl (by decide +kernel)) rfl (pi_list (pe_slice sl_list (pv 2) (po_some pe_int) po_none)) gkeep_name
            (fun _ _ _ _ _ => pg_name (i := 0) (by show (["reel", "more"] : List Str).Nodup; decide +kernel) rfl (Or.inl rfl) (.inr rfl)) (fun _ _ _ _ _ => pts_nil) (fun _ _ _ _ _ => pe_op op_cat (pv 1) (pv 0)))
          (pe_lst (pa_cons (pv 4) pa_nil)))))))
      (pss_one (ps_ret (pv 2)))), ?_⟩
    refine ⟨(by show 1 ≤ sizeLine; decide), fun q0 e0 => ⟨(by show 1 ≤ sizeLine; decide), fun p1 e1 => ⟨Nat.zero_le _, fun q1 f1 => ⟨(by show 1 ≤ sizeLine; decide), fun p2 e2 => ⟨_, rfl, _, _, rfl, rfl, ?_⟩⟩⟩⟩⟩
    have t0 : Same H (upd H q0 (.lst [.int 0])) := Same.new e0
    have t1 := t0.trans (Same.new (o := .lst [.ref q0]) e1)
    have t2 := t1.trans (Same.new (o := .lst []) f1)
    have t3 := t2.trans (Same.new (o := .lst [.ref q1]) e2)
    have a0 : (upd (upd (upd (upd H q0 (.lst [.int 0])) p1 (.lst [.ref q0])) q1 (.lst [])) p2 (.lst [.ref q1])) q0 = some (.lst [.int 0]) := ((Same.new e1).trans ((Same.new f1).trans (Same.new e2))) q0 _ upd_same
    have a1 : (upd (upd (upd (upd H q0 (.lst [.int 0])) p1 (.lst [.ref q0])) q1 (.lst [])) p2 (.lst [.ref q1])) p1 = some (.lst [.ref q0]) := ((Same.new f1).trans (Same.new e2)) p1 _ upd_same
    have a2 : (upd (upd (upd (upd H q0 (.lst [.int 0])) p1 (.lst [.ref q0])) q1 (.lst [])) p2 (.lst [.ref q1])) q1 = some (.lst []) := (Same.new e2) q1 _ upd_same
    have a3 : (upd (upd (upd (upd H q0 (.lst [.int 0])) p1 (.lst [.ref q0])) q1 (.lst [])) p2 (.lst [.ref q1])) p2 = some (.lst [.ref q1]) := upd_same
    generalize (upd (upd (upd (upd H q0 (.lst [.int 0])) p1 (.lst [.ref q0])) q1 (.lst [])) p2 (.lst [.ref q1])) = H1 at t3 a0 a1 a2 a3 ⊢
    refine ⟨p2, (p : Int) - 1, _, rfl, rfl, a3, by omega, by omega, ?_, fun p3 e3 => ?_⟩
    · exact Nat.le_of_lt (small1000 (by show 1 * ((p : Int) - 1).toNat ≤ 1000; omega))
    have ez : (List.replicate ((p : Int) - 1).toNat [V.ref q1]).flatten = List.replicate (p - 1) (V.ref q1) := by
      rw [show ((p : Int) - 1).toNat = p - 1 by omega]
      exact List.flatten_replicate_singleton
    rw [ez]
    have s3 := Same.new (o := .lst (List.replicate (p - 1) (V.ref q1))) e3
    refine ⟨p1, p3, _, _, rfl, rfl, s3 p1 _ a1, upd_same, ?_, fun l e4 => ?_⟩
    · exact Nat.le_of_lt (small1000 (by rw [List.length_replicate]; show 1 + (p - 1) ≤ 1000; omega))
    have s5 := s3.trans (Same.new (o := .lst ([.ref q0] ++ List.replicate (p - 1) (V.ref q1))) e4)
    have hl0 : H l = none := (t3.trans s3).free e4
    refine ⟨_, rfl, n, rfl, by omega, by omega, for_range (fun i σ H2 => ∃ (l : Addr) (qs : List Addr) (o o' : Option V), σ = [some (.int p), some (.int n), some (.ref l), o, o'] ∧ H l = none ∧ H2 l = some (.lst (qs.map V.ref)) ∧ LLs H2 qs (num p i) ∧ Same H H2 ∧ ∀ q ∈ qs, H q = none)
      ⟨l, q0 :: List.replicate (p - 1) q1, none, none, rfl, hl0, by rw [upd_same]; simp, ⟨by simp [num, num0], fun j r xs ha hb => ?_⟩, t3.trans s5, fun q hq => ?_⟩ ?_ ?_⟩
    · cases j with
      | zero =>
        have : r = q0 := by simpa using ha.symm
        have : xs = [0] := by simpa [num, num0] using hb.symm
        subst r xs
        exact s5 q0 _ a0
      | succ j =>
        have : r = q1 := rep_get (j := j) (by simpa using ha)
        have : xs = [] := rep_get (j := j) (by simpa [num, num0] using hb)
        subst r xs
        exact s5 q1 _ a2
    · rcases List.mem_cons.mp hq with rfl | hq
      · exact e0
      · rw [(List.mem_replicate.mp hq).2]
        exact t1.free f1
    · rintro i σ H2 hi ⟨l, qs, o, o', rfl, hl0, hl2, hq, s2, _⟩
      have htot := tot_mono (p := p) h1 (show i ≤ n by omega)
      have hlen := num_len (p := p) (by omega) i
      have hz : ∀ xs ∈ num p i, xs.length ≤ 4000 := fun xs hx => by have := num_le hx; omega
      have ex : num p (i + 1) = nextN (num p i) := rfl
      rw [ex]
      generalize num p i = N at hq hlen hz ⊢
      obtain ⟨x0, xr, rfl⟩ : ∃ x0 xr, N = x0 :: xr := by
        cases N with
        | nil => simp at hlen; omega
        | cons x y => exact ⟨x, y, rfl⟩
      obtain ⟨r0, rr, rfl⟩ : ∃ r0 rr, qs = r0 :: rr := by
        cases qs with
        | nil => have := hq.1; simp at this
        | cons x y => exact ⟨x, y, rfl⟩
      have hr0 : H2 r0 = some (.lst (x0.map V.int)) := hq.2 0 r0 x0 rfl rfl
      have hrl : rr.length = xr.length := by have := hq.1; simpa using this
      have hxr : xr.length ≤ 6 := by simp at hlen; omega
      have hx0 : x0.length ≤ 4000 := hz x0 (by simp)
      have hxz : ∀ xs ∈ xr, xs.length ≤ 4000 := fun xs hx => hz xs (by simp [hx])
      refine ⟨_, rfl, l, _, 0, .ref r0, rfl, rfl, SqL.of hl2, atI_nat (j := 0) rfl, r0, rfl, ⟨_, SqL.of hr0⟩, ?_⟩
      refine comp_list (xs := x0.map V.int) (fun acc j H3 => Same H2 H3 ∧ H3 acc = some (.lst (((x0.take j).map (· + 1)).map V.int))) (fun acc h0 => ⟨Same.new h0, upd_same⟩) (fun acc j H3 h0 _ p => p.1.seq (SqL.of hr0)) ?_ ?_
      · rintro acc j x H3 h0 hx ⟨s3, hacc⟩
        obtain ⟨z, hz', rfl⟩ := map_get hx
        have hj := (List.getElem?_eq_some_iff.mp hz').1
        refine ⟨_, rfl, z, 1, rfl, rfl, _, hacc, ?_, by rw [List.length_map]; exact hj, s3.put h0, ?_⟩
        · exact small8000 (by simp; omega)
        · rw [upd_same, List.take_add_one, hz', Option.toList_some, List.map_append, List.map_append]
          rfl
      rintro ml H3 hml ⟨s3, hm3⟩
      rw [List.length_map, List.take_length] at hm3
      refine ⟨_, rfl, 1, rfl, l, _, rfl, SqL.of (s3 l _ hl2), fun p1 e1 => ⟨p1, rfl, ⟨_, SqL.of upd_same⟩, ?_⟩⟩
      have ecut : cutV ((r0 :: rr).map V.ref) (some 1) none = rr.map V.ref := by
        unfold cutV
        show (((r0 :: rr).map V.ref).drop (HT.sIx ((r0 :: rr).map V.ref).length 0 (some ((1 : Nat) : Int)))).take (HT.sIx ((r0 :: rr).map V.ref).length ((r0 :: rr).map V.ref).length none - HT.sIx ((r0 :: rr).map V.ref).length 0 (some ((1 : Nat) : Int))) = _
        rw [HT.sIx_nat]
        rw [show min 1 ((r0 :: rr).map V.ref).length = 1 by simp]
        show (rr.map V.ref).take (((r0 :: rr).map V.ref).length - 1) = _
        rw [List.take_of_length_le (by simp)]
      rw [ecut]
      have s4 := s3.trans (Same.new (o := .lst (rr.map V.ref)) e1)
      have hm4 := (Same.new (o := .lst (rr.map V.ref)) e1) ml _ hm3
      have hp14 : (upd H3 p1 (.lst (rr.map V.ref))) p1 = some (.lst (rr.map V.ref)) := upd_same
      generalize (upd H3 p1 (.lst (rr.map V.ref))) = H4 at s4 hm4 hp14 ⊢
      have hr : ∀ (j : Nat) r xs, rr[j]? = some r → xr[j]? = some xs → H2 r = some (.lst (xs.map V.int)) := fun j r xs a b => hq.2 (j + 1) r xs a b
      refine comp_list (xs := rr.map V.ref) (fun acc j H5 => Same H4 H5 ∧ ∃ us : List Addr, H5 acc = some (.lst (us.map V.ref)) ∧ acc ∉ us ∧ LLs H5 us ((xr.take j).map (x0.map (· + 1) ++ ·)) ∧ ∀ q ∈ us, H q = none) (fun acc h0 => ⟨Same.new h0, [], upd_same, by simp, ⟨rfl, fun j r xs a b => by simp at a⟩, fun q hq => by simp at hq⟩) (fun acc j H5 h0 _ p => p.1.seq (SqL.of hp14)) ?_ ?_
      · rintro acc j x H5 h0 hx ⟨s5, us, hacc, hnin, hu, hun⟩
        obtain ⟨r, hr', rfl⟩ := map_ref_get hx
        have hj := (List.getElem?_eq_some_iff.mp hr').1
        have hjx : j < xr.length := by omega
        have hrx : H5 r = some (.lst (xr[j].map V.int)) := (s4.trans s5) r _ (hr j r _ hr' (List.getElem?_eq_getElem hjx))
        have hm5 := s5 ml _ hm4
        have hxi : xr[j].length ≤ 4000 := hxz _ (List.getElem_mem hjx)
        have hus : us.length ≤ 6 := by have := hu.1; simp at this; omega
        have e2 : (xr.take (j + 1)).map (x0.map (· + 1) ++ ·) = (xr.take j).map (x0.map (· + 1) ++ ·) ++ [x0.map (· + 1) ++ xr[j]] := by
          rw [List.take_succ_eq_append_getElem hjx, List.map_append]
          rfl
        rw [e2]
        refine ⟨_, rfl, _, rfl, ml, r, _, _, rfl, rfl, hm5, hrx, ?_, fun pn en => ?_⟩
        · exact Nat.le_of_lt (small8000 (by simp; omega))
        have hpa : acc ≠ pn := ne_of_none hacc en
        have hacc6 := (Same.new (o := .lst ((x0.map (· + 1)).map V.int ++ xr[j].map V.int)) en) acc _ hacc
        refine ⟨_, hacc6, small8000 (by simp; omega), by rw [List.length_map]; exact hj, (s5.trans (Same.new en)).put h0, us ++ [pn], by rw [upd_same]; simp, by simp [hnin, hpa], ?_, fun q hq => ?_⟩
        rotate_left
        · rcases List.mem_append.mp hq with hq | hq
          · exact hun q hq
          · rw [List.mem_singleton.mp hq]
            exact ((s2.trans s4).trans s5).free en
        refine ((hu.same (Same.new en)).lst hnin).snoc ?_
        rw [upd_ne (Ne.symm hpa), upd_same]
        simp
      · rintro acc H5 h0 ⟨s5, us, hacc, hnin, hu, hun⟩
        rw [List.length_map, hrl, List.take_length] at hu
        have hm5 := s5 ml _ hm4
        have hus : us.length ≤ 6 := by have := hu.1; simp at this; omega
        refine ⟨_, rfl, (by show 1 ≤ sizeLine; decide), fun p2 e2 => ?_⟩
        refine ⟨acc, p2, _, _, rfl, rfl, (Same.new e2) acc _ hacc, upd_same, ?_, fun p3 e3 => ?_⟩
        · exact Nat.le_of_lt (small8000 (by simp; omega))
        have sz := (Same.new (o := .lst [V.ref ml]) e2).trans (Same.new (o := .lst (us.map V.ref ++ [V.ref ml])) e3)
        have s6 := (s2.trans s4).trans (s5.trans sz)
        refine ⟨p3, us ++ [ml], _, _, rfl, ((s2.trans s4).trans (s5.trans (Same.new e2))).free e3, by rw [upd_same]; simp, ?_, s6, fun q hq => ?_⟩
        · exact (hu.same sz).snoc (sz ml _ hm5)
        · rcases List.mem_append.mp hq with hq | hq
          · exact hun q hq
          · rw [List.mem_singleton.mp hq]
            exact s2.free hml
    · rintro σ H2 ⟨l, qs, o, o', rfl, hl0, hl2, hq, s2, hn⟩
      refine ⟨_, rfl, k l qs H2 hl0 hl2 ?_ hn s2⟩
      simpa using hq

end
end Fs30

set_option Elab.async false
set_option linter.all false
set_option maxRecDepth 100000
set_option maxHeartbeats 4000000
namespace L2
open PySem PySem.Spec PyProof.Rows PySem.SeqAt
/-- for over zip of two that the body leaves as they are -/
theorem for_zip {b1 b2 : Bool} {K : PySem.W.Frag} {a b : Addr} {xs ys : List V} {g : TG} {tb : TS} {D : Ends} {σ : St} {H : Hp} (hlen : xs.length ≤ ys.length) (Pv : Nat → St → Hp → Prop) (h0 : Pv 0 σ H)
    (hl : ∀ i σ H, i ≤ xs.length → Pv i σ H → SqB b1 K H a xs ∧ SqB b2 K H b ys)
    (hs : ∀ i x y p σ H, xs[i]? = some x → ys[i]? = some y → Pv i σ H → H p = none → g (.ref p) σ (upd H p (.tup [x, y])) fun σ2 H2 => tb { D with nx := Pv (i + 1), ct := Pv (i + 1), bk := D.nx } σ2 H2) (hd : ∀ σ H, Pv xs.length σ H → D.nx σ H) :
    ∃ W : Nat → Nat → St → Hp → Prop, (∃ m, W 0 m σ H) ∧ ∀ i m σ H, W i m σ H →
      ((ItzB b1 b2 K a b).stop i H ∧ D.nx σ H) ∨ ((ItzB b1 b2 K a b).go i H ∧ ∃ N : St → Hp → Prop, (∀ σ' H', N σ' H' → ∃ m', m' < m ∧ W (i + 1) m' σ' H') ∧ ∀ x H', (ItzB b1 b2 K a b).yld i H x H' → g x σ H' fun σ2 H2 => tb { D with nx := N, ct := N, bk := D.nx } σ2 H2) := by
  refine ⟨fun i m σ H => m = xs.length - i ∧ i ≤ xs.length ∧ Pv i σ H, ⟨xs.length, by simp, Nat.zero_le _, h0⟩, ?_⟩
  rintro i m σ H ⟨rfl, hi, p⟩
  obtain ⟨q1, q2⟩ := hl i σ H hi p
  by_cases hlt : i < xs.length
  · have gx : xs[i]? = some xs[i] := List.getElem?_eq_getElem hlt
    have gy : ys[i]? = some ys[i] := List.getElem?_eq_getElem (by omega)
    refine .inr ⟨⟨xs, ys, xs[i], ys[i], q1, q2, gx, gy⟩, Pv (i + 1), fun σ' H' z => ⟨xs.length - (i + 1), by omega, rfl, hlt, z⟩, fun x H' y => ?_⟩
    obtain ⟨pa, z, z', hp, e1, e2, y1, y2⟩ := y
    subst e1 e2
    exact hs i z z' pa σ H (y1 xs q1) (y2 ys q2) p hp
  · obtain rfl : i = xs.length := by omega
    exact .inl ⟨⟨xs, ys, q1, q2, .inl (Nat.le_refl _)⟩, hd σ H p⟩
end L2

set_option Elab.async false
set_option linter.all false
set_option maxRecDepth 100000
set_option maxHeartbeats 4000000
namespace Fs30
open PySem L2 Lv
section
variable {P : Program} {w : World} {K : PySem.W.Frag} {mg : Str → Option Value} {base : Heap}
theorem scLaw : FnScope ["script", "at", "pool", "far", "p", "n", "counts", "numbers", "rows", "laying", "due", "reel", "truths", "found"] ["script"] (defScope sLaw) := ⟨rfl, rfl, rfl, by decide +kernel, rfl, by decide +kernel, by decide +kernel⟩
theorem ix30 (b : Bool) : ∃ m : Int, atI [V.int 300, .int 4000] (if b then 1 else 0) = some (.int m) ∧ 1 ≤ m ∧ m ≤ 4000 := by
  cases b
  · exact ⟨300, rfl, by decide, by decide⟩
  · exact ⟨4000, rfl, by decide, by decide⟩
theorem zw30 {N : List (List Int)} {B : List (List Bool)} {i : Nat} {x : List Int} {b : List Bool} (hx : N[i]? = some x) (hb : B[i]? = some b) : readOf (N.take (i + 1)) (B.take (i + 1)) = readOf (N.take i) (B.take i) + (sel x b).sum := by
  rw [← readL_sum, ← readL_sum, take_readL hx hb, List.sum_append]
/-- the lists of a law's own, whatever becomes of the pool -/
theorem lls_sm {H H' : Hp} {pl : Addr} {qs : List Addr} {N : List (List Int)} (h : LLs H qs N) (hn : ∀ q ∈ qs, q ≠ pl) (s : Sm pl H H') : LLs H' qs N := ⟨h.1, fun j r xs a b => s _ _ (h.2 j r xs a b) (hn r (List.mem_of_getElem? a))⟩
theorem ok_law30 {f f1 f2 f3 f4 f5 f6 f7 f8 f9 : Addr} {fd d1 d2 d3 d4 d5 d6 d7 d8 d9 : FuncData} (F : Fun K "law" "law" sLaw f fd) (T : Txt mg) (CP : Cal P w K mg base 2 "_law_pool" ["script", "at"] (spPool K) f1 d1) (CK : Cal P w K mg base 1 "_law_take" ["pool", "many"] spTake f2 d2) (CV : Cal P w K mg base 2 "_law_level" ["pool", "p", "most"] spLLev f3 d3) (CC : Cal P w K mg base 1 "_law_counts" ["p", "n"] spCounts f4 d4) (CN : Cal P w K mg base 1 "_law_numbers" ["p", "n"] spLNumF f5 d5) (CY : Cal P w K mg base 2 "_law_laying" ["pool", "counts", "rows"] spLay35 f6 d6) (CR : Cal P w K mg base 7 "laying_reading" ["p", "n", "laying"] spLayR f7 d7) (CW : Cal P w K mg base 1 "_law_whole" ["thing"] spWhole f8 d8) (CF : Cal P w K mg base 9 "_law_refused_right" ["pool", "p", "n", "laying"] spRef30 f9 d9) : FnOk P w K mg base CX0 10 f fd ["script"] (spLaw K) := by
  refine okW F scLaw (fun vs H Q E h => ?_) (fun cdv A outer s H vs Q E hr h => ?_)
  · obtain ⟨a, cs, rfl, _⟩ := h
    rfl
  · obtain ⟨a, cs, rfl, hS, hlen, k⟩ := h
    have hr1 : Room 1 _ := hr.mono (by decide)
    have hr2 : Room 2 _ := hr.mono (by decide)
    have hr7 : Room 7 _ := hr.mono (by decide)
    refine ⟨_, (wss_cons (ws (ps_for PassesOwn.never rfl (pi_range2 rfl T.range (pa_cons pe_int (pa_cons (pe_callB (call_max2 rfl) rfl T.max b_max (pa_cons pe_int (pa_cons (pe_callB (call_min2 rfl) rfl T.min b_min (pa_cons pe_int (pa_cons (pe_callB call_len_seq rfl T.len PySem.boot_len (pa_cons (pv 0) pa_nil)) pa_nil))) pa_nil))) pa_nil))) (pg_name (i := 1) scLaw.nd rfl (Or.inl rfl))
      (WSs.out (wss_cons (ws (ps_set (i := 2) scLaw.nd rfl (Or.inl rfl) (pe_cal CP hr2 rfl (pa_cons (pv 0) (pa_cons (pv 1) pa_nil)))))
        (wss_cons (ws (ps_set (i := 3) scLaw.nd rfl (Or.inl rfl) (pe_and (pe_cmpR op_eq (pe_cal CK hr1 rfl (pa_cons (pv 2) (pa_cons pe_int pa_nil))) pe_int (nomark _)) (pe_one (pe_cmpR op_eq (pv 1) pe_int (nomark _))))))
        (wss_cons (ws (ps_set (i := 4) scLaw.nd rfl (Or.inl rfl) (pe_op op_add pe_int (pe_cal CK hr1 rfl (pa_cons (pv 2) (pa_cons pe_int pa_nil))))))
        (wss_cons (ws (ps_set (i := 5) scLaw.nd rfl (Or.inl rfl) (pe_cal CV hr2 rfl (pa_cons (pv 2) (pa_cons (pv 4) (pa_cons (pe_ix ix_list (pe_lst (pa_cons pe_int (pa_cons pe_int pa_nil))) (pe_callTy call_int1 rfl T.int b_int (pa_cons (pv 3) pa_nil)) (fun _ _ => rfl)) pa_nil))))))
        (wss_cons (ws (ps_set (i := 6) scLaw.nd rfl (Or.inl rfl) (pe_cal CC hr1 rfl (pa_cons (pv 4) (pa_cons (pv 5) pa_nil)))))
        (wss_cons (ws (ps_set (i := 7) scLaw.nd rfl (Or.inl rfl) (pe_cal CN hr1 rfl (pa_cons (pv 4) (pa_cons (pv 5) pa_nil)))))
        (wss_cons (ws (ps_for PassesOwn.never rfl (pi_list (WE.out (we_lst (wa_cons rfl pe_int (wa_cons rfl (pe_callB (call_sumT rfl) rfl T.sum b_sum (pa_cons (pv 6) pa_nil)) (wa_cons rfl (pe_op op_add pe_int (pe_cal CK hr1 rfl (pa_cons (pv 2) (pa_cons (pe_callB (call_min2 rfl) rfl T.min b_min (pa_cons pe_int (pa_cons (pe_callB (call_sumT rfl) rfl T.sum b_sum (pa_cons (pv 6) pa_nil)) pa_nil))) pa_nil)))) wa_nil)))))) (pg_name (i := 8) scLaw.nd rfl (Or.inl rfl))
        (WSs.out (wss_cons (ws (ps_set (i := 9) scLaw.nd rfl (Or.inl rfl) (pe_cal CY hr2 rfl (pa_cons (pv 2) (pa_cons (pv 6) (pa_cons (pv 8) pa_nil))))))
          (wss_cons (ws (ps_set (i := 10) scLaw.nd rfl (Or.inl rfl) pe_int))
          (wss_cons (ws (ps_for PassesOwn.never rfl (pi_zipB rfl T.zip (pa_cons (pv 7) (pa_cons (pv 9) pa_nil))) (pg_tup rfl (pgs_cons (pg_name (i := 11) scLaw.nd rfl (Or.inl rfl)) (pgs_cons (pg_name (i := 12) scLaw.nd rfl (Or.inl rfl)) pgs_nil)))
          (WSs.out (wss_one (ws (ps_set (i := 10) scLaw.nd rfl (Or.inl rfl) (pe_op op_add (pv 10) (pe_callB (call_sumI rfl) rfl T.sum b_sum (pa_cons (pe_comp (own := ["number", "real"]) (js := []) (CompOk.by (sc := defScope sLaw) (N := ["script", "at", "pool", "far", "p", "n", "counts", "numbers", "rows", "laying", "due", "reel", "truths", "found"]) rfl rfl (by decide +kernel)) rfl (pi_zipB rfl T.zip (pa_cons (pv 11) (pa_cons (pv 12) pa_nil))) (gkeep_two (i := 0) (k := 1) (K := K)) (fun _ _ _ _ _ => (pgK_tup K rfl (pgs_cons (pg_name (i := 0) (by show (["number", "real"] : List Str).Nodup; decide +kernel) rfl (Or.inl rfl) (.inr rfl)) (pgs_cons (pg_name (i := 1) (by show (["number", "real"] : List Str).Nodup; decide +kernel) rfl (Or.inl rfl) (.inr rfl)) pgs_nil)))) (fun _ _ _ _ _ => (pts_one (pt_val (pv 1)))) (fun _ _ _ _ _ => (pv 0))) pa_nil)))))))))
          (wss_cons (ws (ps_set (i := 13) scLaw.nd rfl (Or.inl rfl) (pe_cal CR hr7 rfl (pa_cons (pv 4) (pa_cons (pv 5) (pa_cons (pv 9) pa_nil))))))
          (wss_one (ws_if (PW.pt (pw_or (pt_not (pt_val (pe_cal CW hr1 rfl (pa_cons (pv 13) pa_nil)))) (pw_or1 (pt_cmpR op_ne (pv 13) (pv 10) (nomark _)))))
          (wss pss_never)
          wss_nil)))))))))
        (wss_one (ws_if (pt_not (pt_val (pe_cal CF hr rfl (pa_cons (pv 2) (pa_cons (pv 4) (pa_cons (pv 5) (pa_cons (pv 9) pa_nil)))))))
        (wss pss_never)
        wss_nil))))))))))))
      (wss_one (ws (ps_ret pe_bl)))), ?_⟩
    refine ⟨_, rfl, a, _, rfl, .inl hS, _, _, rfl, _, _, rfl, _, _, rfl, ⟨by decide, by decide, ?_, ?_⟩, ?_⟩
    · rw [List.length_map]; split <;> split <;> omega
    · rw [List.length_map]; split <;> split <;> omega
    have em : ((if (if ((cs.map V.int).length : Int) < 4 then ((cs.map V.int).length : Int) else 4) > 1 then (if ((cs.map V.int).length : Int) < 4 then ((cs.map V.int).length : Int) else 4) else 1) - 0).toNat ≤ 8 := by
      rw [List.length_map]; split <;> split <;> omega
    generalize ((if (if ((cs.map V.int).length : Int) < 4 then ((cs.map V.int).length : Int) else 4) > 1 then (if ((cs.map V.int).length : Int) < 4 then ((cs.map V.int).length : Int) else 4) else 1) - 0).toNat = NN at em ⊢
    refine for_range (fun i σ H2 => ∃ o1 o2 o3 o4 o5 o6 o7 o8 o9 o10 o11 o12 o13 : Option V, σ = [some (.ref a), o1, o2, o3, o4, o5, o6, o7, o8, o9, o10, o11, o12, o13] ∧ Same H H2) ⟨_, _, _, _, _, _, _, _, _, _, _, _, _, rfl, Same.refl _⟩ ?_ ?_
    · rintro i σ H2 hi ⟨o1, o2, o3, o4, o5, o6, o7, o8, o9, o10, o11, o12, o13, rfl, s2⟩
      refine ⟨_, rfl, _, rfl, a, cs, _, rfl, s2.seq hS, by omega, by omega, fun pl H3 hpl hp3 s3 => ?_⟩
      have hpl0 : H pl = none := s2.free hpl
      have s03 := s2.trans s3
      dsimp only
      refine cutG (fun σ' H' => ∃ b : Bool, σ' = [some (.ref a), some (.int (0 + (i : Int))), some (.ref pl), some (.bl b), o4, o5, o6, o7, o8, o9, o10, o11, o12, o13] ∧ Pool H' pl ∧ Sm pl H3 H') (fun R hR => ?_) ?_
      · refine ⟨_, rfl, pl, 8, rfl, hp3, by decide, by decide, fun df H4 f0 f1 hp4 sm4 => ⟨rfl, _, rfl, ite2 (fun _ => ?_) fun _ => ?_⟩⟩
        · exact ⟨_, rfl, rfl, hR _ _ ⟨_, rfl, hp4, sm4⟩⟩
        · exact hR _ _ ⟨_, rfl, hp4, sm4⟩
      rintro σ' H4 ⟨b, rfl, hp4, sm4⟩
      refine ⟨_, rfl, pl, 6, rfl, hp4, by decide, by decide, fun dp H5 p0 p1 hp5 sm5 => ⟨2, dp, rfl, rfl, ?_⟩⟩
      obtain ⟨p, ep⟩ : ∃ p : Nat, 2 + dp = (p : Int) := ⟨(2 + dp).toNat, by omega⟩
      have h1 : 2 ≤ p := by omega
      have h2 : p ≤ 7 := by omega
      dsimp only
      rw [ep]
      obtain ⟨mo, emo, mo1, mo2⟩ := ix30 b
      refine ⟨_, rfl, _, rfl, (by show 2 ≤ sizeLine; decide), fun q1 e1 => ⟨_, rfl, .inr ⟨b, rfl, q1, _, _, .int mo, rfl, rfl, SqL.of upd_same, emo, ?_⟩⟩⟩
      refine ⟨pl, p, mo, rfl, hp5.put e1, h1, h2, mo1, mo2, fun n H6 htn hp6 sm6 => ?_⟩
      have hn19 := lev19 h1 h2 (show tot p n ≤ 4000 by omega)
      have sm36 : Sm pl H3 H6 := ((sm4.trans sm5).trans (Sm.of (Same.new e1))).trans sm6
      refine ⟨_, rfl, _, rfl, p, n, rfl, h1, h2, by omega, fun cl H7 hcl0 hcl s7 => ?_⟩
      refine ⟨_, rfl, _, rfl, p, n, rfl, h1, h2, by omega, by omega, fun nl nq H8 hnl0 hnl hnq hnn s8 => ?_⟩
      have et : (cnt p n).sum = tot p n := rfl
      have ht1 := tot_ge h1 n
      obtain ⟨S, eS⟩ : ∃ S : Nat, (cnt p n).sum = (S : Int) := ⟨(cnt p n).sum.toNat, by omega⟩
      have hcl8 := s8 _ _ hcl
      have hp8 := hp6.same (s7.trans s8)
      have sm38 : Sm pl H3 H8 := sm36.trans (Sm.of (s7.trans s8))
      have plL : ∀ {Hx : Hp} {q : Addr} {xs : List V}, Pool Hx pl → Hx q = some (.tup xs) → q ≠ pl := fun hp hq z => by
        obtain ⟨_, _, e⟩ := hp
        rw [z, e] at hq
        cases hq
      have clne : cl ≠ pl := plL hp8 hcl8
      have nlne : nl ≠ pl := (hp6.same s7).ne hnl0
      have nqne : ∀ q ∈ nq, q ≠ pl := fun q hq => (hp6.same s7).ne (hnn q hq)
      refine ⟨_, rfl, cl, _, rfl, SqT.of hcl8, ?_⟩
      rw [eS]
      obtain ⟨mn, emn, mn1, mn2, mn3⟩ : ∃ mn : Int, (if (S : Int) < 200 then (S : Int) else 200) = mn ∧ 0 < mn ∧ mn ≤ S ∧ mn ≤ 200 := ⟨_, rfl, by split <;> omega, by split <;> omega, by split <;> omega⟩
      refine ⟨_, rfl, _, rfl, cl, _, rfl, SqT.of hcl8, _, _, rfl, ?_⟩
      rw [eS, emn]
      refine ⟨pl, mn, rfl, hp8, mn1, bits_small (by omega) (by omega), fun dr H9 r0 r1 hp9 sm9 => ⟨_, _, rfl, rfl, (by show 3 ≤ sizeLine; decide), fun ls nls => ?_⟩⟩
      obtain ⟨r, er⟩ : ∃ r : Nat, 1 + dr = (r : Int) := ⟨(1 + dr).toNat, by omega⟩
      dsimp -proj only
      rw [er]
      have eL : ([V.int 1, V.int (S : Int), V.int (r : Int)] : List V) = ((([1, S, r] : List Nat).map fun x => ((x : Nat) : Int)).map V.int) := rfl
      rw [eL]
      have s10 : Same H9 (upd H9 ls (.lst ((([1, S, r] : List Nat).map fun x => ((x : Nat) : Int)).map V.int))) := Same.new nls
      have e10 : upd H9 ls (.lst ((([1, S, r] : List Nat).map fun x => ((x : Nat) : Int)).map V.int)) ls = some (.lst ((([1, S, r] : List Nat).map fun x => ((x : Nat) : Int)).map V.int)) := upd_same
      have lsne : ls ≠ pl := hp9.ne nls
      have hrows : ∀ x ∈ ([1, S, r] : List Nat), x ≤ S := fun x hx => by
        simp only [List.mem_cons, List.not_mem_nil, or_false] at hx
        rcases hx with rfl | rfl | rfl <;> omega
      refine ⟨ls, rfl, ⟨_, SqL.of e10⟩, ?_⟩
      have hlen3 : ([1, S, r] : List Nat).length = 3 := rfl
      generalize ([1, S, r] : List Nat) = rws at s10 e10 hrows hlen3 ⊢
      generalize upd H9 ls (.lst ((rws.map fun x => ((x : Nat) : Int)).map V.int)) = H10 at s10 e10 ⊢
      have hp10 := hp9.same s10
      have sm310 : Sm pl H3 H10 := (sm38.trans sm9).trans (Sm.of s10)
      have hcl10 := s10 _ _ (sm9 _ _ hcl8 clne)
      have hnl10 := s10 _ _ (sm9 _ _ hnl nlne)
      have hnq10 : LLs H10 nq (num p n) := (lls_sm hnq nqne sm9).same s10
      refine for_list (K := K) (xs := (rws.map fun x => ((x : Nat) : Int)).map V.int) (fun i3 σ H11 => ∃ o8 o9 o10 o11 o12 o13 : Option V, σ = [some (.ref a), some (.int (0 + (i : Int))), some (.ref pl), some (.bl b), some (.int p), some (.int n), some (.ref cl), some (.ref nl), o8, o9, o10, o11, o12, o13] ∧ Pool H11 pl ∧ Sm pl H10 H11 ∧ (0 < i3 → ∃ l N, o9 = some (.ref l) ∧ Lay H11 l N ∧ Few 9 4001 N ∧ lensB N = cnt p n))
        ⟨_, _, _, _, _, _, rfl, hp10, Sm.refl _ _, fun z => absurd z (Nat.lt_irrefl _)⟩ (fun i3 σ H11 _ z => by obtain ⟨_, _, _, _, _, _, _, _, sz, _⟩ := z; exact SqL.of (sz _ _ e10 lsne)) ?_ ?_
      · rintro i3 x σ H11 hx ⟨o8, o9, o10, o11, o12, o13, rfl, hp11, sm11, _⟩
        obtain ⟨z, hz, rfl⟩ := map_get hx
        rw [List.getElem?_map] at hz
        obtain ⟨rw_, hrw, rfl⟩ : ∃ y, rws[i3]? = some y ∧ z = (y : Int) := by
          cases e : rws[i3]? with
          | none => rw [e] at hz; cases hz
          | some y => rw [e] at hz; exact ⟨y, rfl, (Option.some.inj hz).symm⟩
        have hrS := hrows rw_ (List.mem_of_getElem? hrw)
        refine ⟨_, rfl, _, rfl, _, rfl, pl, cl, cnt p n, rw_, rfl, hp11, sm11 _ _ hcl10 clne, by rw [cnt_len (by omega)]; exact h2, (down_cnt p n).2, by omega, by omega, by omega, fun l ks H12 hl0 hLay hct hp12 sm12 => ?_⟩
        have hlens := nf_lens ks 0 (cnt p n) (down_cnt p n).2
        generalize nf ks 0 (cnt p n) = N at hLay hct hlens
        have hlN : N.length = p := by
          have := congrArg List.length hlens
          rw [cnt_len (by omega)] at this
          simpa [lensB] using this
        have hFew : Few 9 4001 N := ⟨by omega, fun bs hb => by
          have h1 : (bs.length : Int) ∈ lensB N := List.mem_map.mpr ⟨bs, hb, rfl⟩
          rw [hlens] at h1
          have h2 := Lv.le_sum (down_cnt p n).2 h1
          omega⟩
        have sm1012 := sm11.trans sm12
        have hnl12 := sm1012 _ _ hnl10 nlne
        have hnq12 : LLs H12 nq (num p n) := lls_sm hnq10 nqne sm1012
        obtain ⟨rs, hrs, hT⟩ := id hLay
        have hnlen := num_len (p := p) (by omega) n
        have hlNum : nq.length = rs.length := by rw [hnq12.1, hT.1]; omega
        refine ⟨_, rfl, _, rfl, true, false, nl, l, rfl, ⟨_, SqL.of hnl12⟩, ⟨_, SqT.of hrs⟩, ?_⟩
        refine for_zip (b1 := true) (b2 := false) (xs := nq.map V.ref) (ys := rs.map V.ref) (by simp; omega) (fun j σ H13 => ∃ o11 o12 : Option V, σ = [some (.ref a), some (.int (0 + (i : Int))), some (.ref pl), some (.bl b), some (.int p), some (.int n), some (.ref cl), some (.ref nl), some (.int rw_), some (.ref l), some (.int (readOf ((num p n).take j) (N.take j))), o11, o12, o13] ∧ Same H12 H13)
          ⟨_, _, rfl, Same.refl _⟩ (fun j σ H13 _ z => by obtain ⟨_, _, _, sz⟩ := z; exact ⟨SqL.of (sz _ _ hnl12), SqT.of (sz _ _ hrs)⟩) ?_ ?_
        · rintro j x y pa σ H13 hx hy ⟨o11, o12, rfl, s13⟩ hpa
          obtain ⟨q, hq', rfl⟩ := map_ref_get hx
          obtain ⟨rr, hr', rfl⟩ := map_ref_get hy
          have hj : j < nq.length := (List.getElem?_eq_some_iff.mp hq').1
          have hjN : j < (num p n).length := by rw [← hnq12.1]; exact hj
          have hjB : j < N.length := by omega
          have eN := List.getElem?_eq_getElem hjN
          have eB := List.getElem?_eq_getElem hjB
          have s14 := s13.trans (Same.new (o := .tup [V.ref q, .ref rr]) hpa)
          have hq3 := s14 q _ (hnq12.2 j q _ hq' eN)
          have hr3 := s14 rr _ (hT.2 j rr _ hr' eB)
          have hp3' : (upd H13 pa (.tup [V.ref q, .ref rr])) pa = some (.tup [V.ref q, .ref rr]) := upd_same
          have ez := zw30 eN eB
          have elN := num_get eN
          have hll : ((num p n)[j]).length = (N[j]).length := by
            have : ((N[j]).length : Int) = (cnt p n).getD j 0 := by
              rw [← hlens, lensB, List.getD_eq_getElem?_getD, List.getElem?_map, eB]
              rfl
            omega
          have hl4 := num_le (List.mem_of_getElem? eN)
          generalize (num p n)[j] = Nj at hq3 hll ez hl4
          generalize N[j] = Bj at hr3 hll ez
          generalize (upd H13 pa (.tup [V.ref q, .ref rr])) = H14 at s14 hq3 hr3 hp3' ⊢
          refine ⟨pa, _, rfl, SqT.of hp3', rfl, _, _, rfl, _, _, rfl, rfl, ?_⟩
          have q1 : SqB true K H14 q (Nj.map V.int) := SqL.of hq3
          have q2 : SqB false K H14 rr (Bj.map V.bl) := SqT.of hr3
          refine ⟨_, rfl, _, rfl, _, rfl, true, false, q, rr, rfl, ⟨_, q1⟩, ⟨_, q2⟩, ?_⟩
          refine comp_zip (b1 := true) (b2 := false) (xs := Nj.map V.int) (ys := Bj.map V.bl) (by simp; omega) (fun acc m H15 => Same H14 H15 ∧ H15 acc = some (.lst ((selK Nj Bj m).map V.int))) (fun acc h0 => ⟨Same.new h0, by rw [upd_same]; simp [selK]⟩) (fun acc m H15 h0 _ z => ⟨Same.sqB z.1 q1, Same.sqB z.1 q2⟩) ?_ ?_
          · rintro acc m x y pb H15 h0 hx hy ⟨s15, hac⟩ hpb
            obtain ⟨x', hx', rfl⟩ := map_get hx
            have hm := (List.getElem?_eq_some_iff.mp hx').1
            obtain ⟨y', hy', rfl⟩ : ∃ y', Bj[m]? = some y' ∧ y = .bl y' := by
              rw [List.getElem?_map] at hy
              cases e : Bj[m]? with
              | none => rw [e] at hy; cases hy
              | some v => rw [e] at hy; exact ⟨v, rfl, (Option.some.inj hy).symm⟩
            have hac5 := (Same.new (o := .tup [V.int x', .bl y']) hpb) acc _ hac
            have es := selK_succ hx' hy'
            refine ⟨pb, _, rfl, SqT.of upd_same, rfl, _, _, rfl, _, _, rfl, rfl, _, rfl, y', rfl, ?_⟩
            cases y' with
            | true =>
              refine iteT ⟨_, rfl, _, hac5, ?_, by rw [List.length_map]; exact hm, (s15.trans (Same.new hpb)).put h0, ?_⟩
              · rw [List.length_map]
                have := selK_len Nj Bj m
                exact Nat.lt_of_le_of_lt (show _ ≤ 4000 by omega) (by decide)
              · rw [upd_same, es]
                simp
            | false =>
              refine iteF ⟨by rw [List.length_map]; exact hm, s15.trans (Same.new hpb), ?_⟩
              rw [hac5, es]
              simp
          · rintro acc H15 h0 ⟨s15, hac⟩
            rw [List.length_map, selK_all hll] at hac
            refine ⟨acc, _, rfl, SqL.of hac, _, _, rfl, rfl, ?_⟩
            refine ⟨some (.ref q), some (.ref rr), ?_, s14.trans s15⟩
            rw [ez]
            rfl
        · rintro σ H13 ⟨o11, o12, rfl, s13⟩
          have eq1 : (num p n).take nq.length = num p n := by rw [hnq12.1, List.take_length]
          have eq2 : N.take nq.length = N := by rw [hnq12.1, hnlen, ← hlN, List.take_length]
          rw [List.length_map, eq1, eq2]
          refine ⟨_, rfl, _, rfl, _, rfl, p, n, l, N, rfl, h1, h2, by omega, by omega, hLay.same s13, hlens, fun H14 s14 => ?_⟩
          refine ⟨_, rfl, _, rfl, true, rfl, iteF ⟨_, rfl, _, rfl, rfl, _, rfl, ?_⟩⟩
          rw [show (!decide (V.int (readOf (num p n) N) = V.int (readOf (num p n) N))) = false by simp]
          have sE := s13.trans s14
          exact iteF ⟨_, _, _, _, _, _, rfl, hp12.same sE, sm1012.trans (Sm.of sE), fun _ => ⟨l, N, rfl, hLay.same sE, hFew, hlens⟩⟩
      · rintro σ H11 ⟨o8, o9, o10, o11, o12, o13, rfl, hp11, sm11, hl9⟩
        obtain ⟨l, N, rfl, hLay, hFew, hlens⟩ := hl9 (by rw [List.length_map, List.length_map, hlen3]; decide)
        refine ⟨_, rfl, _, rfl, _, rfl, _, rfl, pl, p, n, l, N, rfl, hp11, h1, h2, by omega, hLay, hFew, hlens, fun H12 hp12 sm12 => ⟨true, rfl, iteF ?_⟩⟩
        exact ⟨_, _, _, _, _, _, _, _, _, _, _, _, _, rfl, Sm.after s03 ((sm310.trans sm11).trans sm12) hpl0⟩
    · rintro σ H2 _
      exact k H2

end
end Fs30

set_option Elab.async false
set_option linter.all false
set_option maxRecDepth 100000
set_option maxHeartbeats 4000000
namespace Fs30
open PySem L2 Lv

theorem len1 {P : List Value → Prop} (us : List Value) (hl : us.length = 1) (h : ∀ a0 : Value, P [a0]) : P us := by
  match us, hl with
  | [a0], _ => exact h a0
theorem len2 {P : List Value → Prop} (us : List Value) (hl : us.length = 2) (h : ∀ a0 a1 : Value, P [a0, a1]) : P us := by
  match us, hl with
  | [a0, a1], _ => exact h a0 a1
theorem len3 {P : List Value → Prop} (us : List Value) (hl : us.length = 3) (h : ∀ a0 a1 a2 : Value, P [a0, a1, a2]) : P us := by
  match us, hl with
  | [a0, a1, a2], _ => exact h a0 a1 a2
theorem len4 {P : List Value → Prop} (us : List Value) (hl : us.length = 4) (h : ∀ a0 a1 a2 a3 : Value, P [a0, a1, a2, a3]) : P us := by
  match us, hl with
  | [a0, a1, a2, a3], _ => exact h a0 a1 a2 a3
theorem all_mk {l : PySem.W.OpenLaw} {w : World} {K : PySem.W.Frag} {h : Heap} {mg : Str → Option Value} {fa f0 f1 f2 f3 f4 f5 f6 f7 f8 f9 f10 f11 f12 f13 f14 f15 f16 f17 f18 f19 f20 f21 f22 f23 f24 f25 f26 f27 f28 f29 f30 f31 f32 f33 : Addr} {tk0 tk1 tk2 : Tok} (X : K.In h) (G : h.Ns mainGlobals mg) (hfa : mg "law" = some (.ref fa))
    {od0 an0 od1 an1 od2 an2 od3 an3 od4 an4 od5 an5 od6 an6 od7 an7 od8 an8 od9 an9 od10 an10 od11 an11 od12 an12 od13 an13 od14 an14 od15 an15 od16 an16 od17 an17 od18 an18 od19 an19 od20 an20 od21 an21 od22 an22 od23 an23 od24 an24 od25 an25 od26 an26 od27 an27 od28 an28 od29 an29 od30 an30 od31 an31 od32 an32 od33 an33 : Option Addr} {sl0 sl1 sl2 sl3 sl4 sl5 sl6 sl7 sl8 sl9 sl10 sl11 sl12 sl13 sl14 sl15 sl16 sl17 sl18 sl19 sl20 sl21 sl22 sl23 sl24 sl25 sl26 sl27 sl28 sl29 sl30 sl31 sl32 sl33 : Array (Option Value)} {oc0 kV0 dc0 pm0 cd0 ct0 oc1 kV1 dc1 pm1 cd1 ct1 oc2 kV2 dc2 pm2 cd2 ct2 oc3 kV3 dc3 pm3 cd3 ct3 oc4 kV4 dc4 pm4 cd4 ct4 oc5 kV5 dc5 pm5 cd5 ct5 oc6 kV6 dc6 pm6 cd6 ct6 oc7 kV7 dc7 pm7 cd7 ct7 oc8 kV8 dc8 pm8 cd8 ct8 oc9 kV9 dc9 pm9 cd9 ct9 oc10 kV10 dc10 pm10 cd10 ct10 oc11 kV11 dc11 pm11 cd11 ct11 oc12 kV12 dc12 pm12 cd12 ct12 oc13 kV13 dc13 pm13 cd13 ct13 oc14 kV14 dc14 pm14 cd14 ct14 oc15 kV15 dc15 pm15 cd15 ct15 oc16 kV16 dc16 pm16 cd16 ct16 oc17 kV17 dc17 pm17 cd17 ct17 oc18 kV18 dc18 pm18 cd18 ct18 oc19 kV19 dc19 pm19 cd19 ct19 oc20 kV20 dc20 pm20 cd20 ct20 oc21 kV21 dc21 pm21 cd21 ct21 oc22 kV22 dc22 pm22 cd22 ct22 oc23 kV23 dc23 pm23 cd23 ct23 oc24 kV24 dc24 pm24 cd24 ct24 oc25 kV25 dc25 pm25 cd25 ct25 oc26 kV26 dc26 pm26 cd26 ct26 oc27 kV27 dc27 pm27 cd27 ct27 oc28 kV28 dc28 pm28 cd28 ct28 oc29 kV29 dc29 pm29 cd29 ct29 oc30 kV30 dc30 pm30 cd30 ct30 oc31 kV31 dc31 pm31 cd31 ct31 oc32 kV32 dc32 pm32 cd32 ct32 oc33 kV33 dc33 pm33 cd33 ct33 : Value}
    {da3 : Addr} {doc3 : Value} {dod3 : Option Addr} {dn3 : Nat} {dsl3 : Array (Option Value)} {dt3_0 : Tok}
    (a0 : PySem.W.nsIn K mainGlobals "is_whole" = some (some (.ref f0))) (l0 : K.lookup f0 = some ⟨oc0, od0, .func (PySem.W.fnOf "is_whole" "is_whole" (defArgs sWhole) (defBody sWhole) (defScope sWhole) .none kV0 dc0 pm0 an0 cd0 ct0), sl0⟩) (c0 : PySem.W.codeIn K cd0 "is_whole" = true) (k0 : PySem.W.keepIn K (.ref f0) = true)
    (a1 : PySem.W.nsIn K mainGlobals "is_tuple_of" = some (some (.ref f1))) (l1 : K.lookup f1 = some ⟨oc1, od1, .func (PySem.W.fnOf "is_tuple_of" "is_tuple_of" (defArgs sTupOf) (defBody sTupOf) (defScope sTupOf) .none kV1 dc1 pm1 an1 cd1 ct1), sl1⟩) (c1 : PySem.W.codeIn K cd1 "is_tuple_of" = true) (k1 : PySem.W.keepIn K (.ref f1) = true)
    (a2 : PySem.W.nsIn K mainGlobals "check_ways" = some (some (.ref f2))) (l2 : K.lookup f2 = some ⟨oc2, od2, .func (PySem.W.fnOf "check_ways" "check_ways" (defArgs sWays) (defBody sWays) (defScope sWays) .none kV2 dc2 pm2 an2 cd2 ct2), sl2⟩) (c2 : PySem.W.codeIn K cd2 "check_ways" = true) (k2 : PySem.W.keepIn K (.ref f2) = true)
    (a3 : PySem.W.nsIn K mainGlobals "check_level" = some (some (.ref f3))) (l3 : K.lookup f3 = some ⟨oc3, od3, .func (PySem.W.fnOf "check_level" "check_level" (defArgs sLevel) (defBody sLevel) (defScope sLevel) (.ref da3) kV3 dc3 pm3 an3 cd3 ct3), sl3⟩) (c3 : PySem.W.codeIn K cd3 "check_level" = true) (k3 : PySem.W.keepIn K (.ref f3) = true)
    (d3 : K.lookup da3 = some ⟨doc3, dod3, .seq #[.int 300 dt3_0] dn3, dsl3⟩)
    (a4 : PySem.W.nsIn K mainGlobals "first_counts" = some (some (.ref f4))) (l4 : K.lookup f4 = some ⟨oc4, od4, .func (PySem.W.fnOf "first_counts" "first_counts" (defArgs sFirst) (defBody sFirst) (defScope sFirst) .none kV4 dc4 pm4 an4 cd4 ct4), sl4⟩) (c4 : PySem.W.codeIn K cd4 "first_counts" = true) (k4 : PySem.W.keepIn K (.ref f4) = true)
    (a5 : PySem.W.nsIn K mainGlobals "next_counts" = some (some (.ref f5))) (l5 : K.lookup f5 = some ⟨oc5, od5, .func (PySem.W.fnOf "next_counts" "next_counts" (defArgs sNext) (defBody sNext) (defScope sNext) .none kV5 dc5 pm5 an5 cd5 ct5), sl5⟩) (c5 : PySem.W.codeIn K cd5 "next_counts" = true) (k5 : PySem.W.keepIn K (.ref f5) = true)
    (a6 : PySem.W.nsIn K mainGlobals "level_counts" = some (some (.ref f6))) (l6 : K.lookup f6 = some ⟨oc6, od6, .func (PySem.W.fnOf "level_counts" "level_counts" (defArgs sCounts) (defBody sCounts) (defScope sCounts) .none kV6 dc6 pm6 an6 cd6 ct6), sl6⟩) (c6 : PySem.W.codeIn K cd6 "level_counts" = true) (k6 : PySem.W.keepIn K (.ref f6) = true)
    (a7 : PySem.W.nsIn K mainGlobals "level_total" = some (some (.ref f7))) (l7 : K.lookup f7 = some ⟨oc7, od7, .func (PySem.W.fnOf "level_total" "level_total" (defArgs sTotal) (defBody sTotal) (defScope sTotal) .none kV7 dc7 pm7 an7 cd7 ct7), sl7⟩) (c7 : PySem.W.codeIn K cd7 "level_total" = true) (k7 : PySem.W.keepIn K (.ref f7) = true)
    (a8 : PySem.W.nsIn K mainGlobals "check_total" = some (some (.ref f8))) (l8 : K.lookup f8 = some ⟨oc8, od8, .func (PySem.W.fnOf "check_total" "check_total" (defArgs sTot) (defBody sTot) (defScope sTot) .none kV8 dc8 pm8 an8 cd8 ct8), sl8⟩) (c8 : PySem.W.codeIn K cd8 "check_total" = true) (k8 : PySem.W.keepIn K (.ref f8) = true)
    (a9 : PySem.W.nsIn K mainGlobals "check_places" = some (some (.ref f9))) (l9 : K.lookup f9 = some ⟨oc9, od9, .func (PySem.W.fnOf "check_places" "check_places" (defArgs sPlaces) (defBody sPlaces) (defScope sPlaces) .none kV9 dc9 pm9 an9 cd9 ct9), sl9⟩) (c9 : PySem.W.codeIn K cd9 "check_places" = true) (k9 : PySem.W.keepIn K (.ref f9) = true)
    (a10 : PySem.W.nsIn K mainGlobals "first_numbers" = some (some (.ref f10))) (l10 : K.lookup f10 = some ⟨oc10, od10, .func (PySem.W.fnOf "first_numbers" "first_numbers" (defArgs sFirstN) (defBody sFirstN) (defScope sFirstN) .none kV10 dc10 pm10 an10 cd10 ct10), sl10⟩) (c10 : PySem.W.codeIn K cd10 "first_numbers" = true) (k10 : PySem.W.keepIn K (.ref f10) = true)
    (a11 : PySem.W.nsIn K mainGlobals "next_numbers" = some (some (.ref f11))) (l11 : K.lookup f11 = some ⟨oc11, od11, .func (PySem.W.fnOf "next_numbers" "next_numbers" (defArgs sNextN) (defBody sNextN) (defScope sNextN) .none kV11 dc11 pm11 an11 cd11 ct11), sl11⟩) (c11 : PySem.W.codeIn K cd11 "next_numbers" = true) (k11 : PySem.W.keepIn K (.ref f11) = true)
    (a12 : PySem.W.nsIn K mainGlobals "numbers_after" = some (some (.ref f12))) (l12 : K.lookup f12 = some ⟨oc12, od12, .func (PySem.W.fnOf "numbers_after" "numbers_after" (defArgs sAfter) (defBody sAfter) (defScope sAfter) .none kV12 dc12 pm12 an12 cd12 ct12), sl12⟩) (c12 : PySem.W.codeIn K cd12 "numbers_after" = true) (k12 : PySem.W.keepIn K (.ref f12) = true)
    (a13 : PySem.W.nsIn K mainGlobals "numbers_of" = some (some (.ref f13))) (l13 : K.lookup f13 = some ⟨oc13, od13, .func (PySem.W.fnOf "numbers_of" "numbers_of" (defArgs sNumOf) (defBody sNumOf) (defScope sNumOf) .none kV13 dc13 pm13 an13 cd13 ct13), sl13⟩) (c13 : PySem.W.codeIn K cd13 "numbers_of" = true) (k13 : PySem.W.keepIn K (.ref f13) = true)
    (a14 : PySem.W.nsIn K mainGlobals "level_numbers" = some (some (.ref f14))) (l14 : K.lookup f14 = some ⟨oc14, od14, .func (PySem.W.fnOf "level_numbers" "level_numbers" (defArgs sLN) (defBody sLN) (defScope sLN) .none kV14 dc14 pm14 an14 cd14 ct14), sl14⟩) (c14 : PySem.W.codeIn K cd14 "level_numbers" = true) (k14 : PySem.W.keepIn K (.ref f14) = true)
    (a15 : PySem.W.nsIn K mainGlobals "fits_reel" = some (some (.ref f15))) (l15 : K.lookup f15 = some ⟨oc15, od15, .func (PySem.W.fnOf "fits_reel" "fits_reel" (defArgs sFits) (defBody sFits) (defScope sFits) .none kV15 dc15 pm15 an15 cd15 ct15), sl15⟩) (c15 : PySem.W.codeIn K cd15 "fits_reel" = true) (k15 : PySem.W.keepIn K (.ref f15) = true)
    (a16 : PySem.W.nsIn K mainGlobals "real_rows" = some (some (.ref f16))) (l16 : K.lookup f16 = some ⟨oc16, od16, .func (PySem.W.fnOf "real_rows" "real_rows" (defArgs sReal) (defBody sReal) (defScope sReal) .none kV16 dc16 pm16 an16 cd16 ct16), sl16⟩) (c16 : PySem.W.codeIn K cd16 "real_rows" = true) (k16 : PySem.W.keepIn K (.ref f16) = true)
    (a17 : PySem.W.nsIn K mainGlobals "is_laying" = some (some (.ref f17))) (l17 : K.lookup f17 = some ⟨oc17, od17, .func (PySem.W.fnOf "is_laying" "is_laying" (defArgs sIsLay) (defBody sIsLay) (defScope sIsLay) .none kV17 dc17 pm17 an17 cd17 ct17), sl17⟩) (c17 : PySem.W.codeIn K cd17 "is_laying" = true) (k17 : PySem.W.keepIn K (.ref f17) = true)
    (a18 : PySem.W.nsIn K mainGlobals "reading_of" = some (some (.ref f18))) (l18 : K.lookup f18 = some ⟨oc18, od18, .func (PySem.W.fnOf "reading_of" "reading_of" (defArgs sRead) (defBody sRead) (defScope sRead) .none kV18 dc18 pm18 an18 cd18 ct18), sl18⟩) (c18 : PySem.W.codeIn K cd18 "reading_of" = true) (k18 : PySem.W.keepIn K (.ref f18) = true)
    (a19 : PySem.W.nsIn K mainGlobals "laying_holds" = some (some (.ref f19))) (l19 : K.lookup f19 = some ⟨oc19, od19, .func (PySem.W.fnOf "laying_holds" "laying_holds" (defArgs sLayH) (defBody sLayH) (defScope sLayH) .none kV19 dc19 pm19 an19 cd19 ct19), sl19⟩) (c19 : PySem.W.codeIn K cd19 "laying_holds" = true) (k19 : PySem.W.keepIn K (.ref f19) = true)
    (a20 : PySem.W.nsIn K mainGlobals "laying_reading" = some (some (.ref f20))) (l20 : K.lookup f20 = some ⟨oc20, od20, .func (PySem.W.fnOf "laying_reading" "laying_reading" (defArgs sLayR) (defBody sLayR) (defScope sLayR) .none kV20 dc20 pm20 an20 cd20 ct20), sl20⟩) (c20 : PySem.W.codeIn K cd20 "laying_reading" = true) (k20 : PySem.W.keepIn K (.ref f20) = true)
    (a21 : PySem.W.nsIn K mainGlobals "_law_cell_at" = some (some (.ref f21))) (l21 : K.lookup f21 = some ⟨oc21, od21, .func (PySem.W.fnOf "_law_cell_at" "_law_cell_at" (defArgs sCellAt) (defBody sCellAt) (defScope sCellAt) .none kV21 dc21 pm21 an21 cd21 ct21), sl21⟩) (c21 : PySem.W.codeIn K cd21 "_law_cell_at" = true) (k21 : PySem.W.keepIn K (.ref f21) = true)
    (a22 : PySem.W.nsIn K mainGlobals "_law_pool" = some (some (.ref f22))) (l22 : K.lookup f22 = some ⟨oc22, od22, .func (PySem.W.fnOf "_law_pool" "_law_pool" (defArgs sPool) (defBody sPool) (defScope sPool) .none kV22 dc22 pm22 an22 cd22 ct22), sl22⟩) (c22 : PySem.W.codeIn K cd22 "_law_pool" = true) (k22 : PySem.W.keepIn K (.ref f22) = true)
    (a23 : PySem.W.nsIn K mainGlobals "_law_take" = some (some (.ref f23))) (l23 : K.lookup f23 = some ⟨oc23, od23, .func (PySem.W.fnOf "_law_take" "_law_take" (defArgs sTake) (defBody sTake) (defScope sTake) .none kV23 dc23 pm23 an23 cd23 ct23), sl23⟩) (c23 : PySem.W.codeIn K cd23 "_law_take" = true) (k23 : PySem.W.keepIn K (.ref f23) = true)
    (a24 : PySem.W.nsIn K mainGlobals "_law_whole" = some (some (.ref f24))) (l24 : K.lookup f24 = some ⟨oc24, od24, .func (PySem.W.fnOf "_law_whole" "_law_whole" (defArgs sLWhole) (defBody sLWhole) (defScope sLWhole) .none kV24 dc24 pm24 an24 cd24 ct24), sl24⟩) (c24 : PySem.W.codeIn K cd24 "_law_whole" = true) (k24 : PySem.W.keepIn K (.ref f24) = true)
    (a25 : PySem.W.nsIn K mainGlobals "_law_counts" = some (some (.ref f25))) (l25 : K.lookup f25 = some ⟨oc25, od25, .func (PySem.W.fnOf "_law_counts" "_law_counts" (defArgs sLCounts) (defBody sLCounts) (defScope sLCounts) .none kV25 dc25 pm25 an25 cd25 ct25), sl25⟩) (c25 : PySem.W.codeIn K cd25 "_law_counts" = true) (k25 : PySem.W.keepIn K (.ref f25) = true)
    (a26 : PySem.W.nsIn K mainGlobals "_law_level" = some (some (.ref f26))) (l26 : K.lookup f26 = some ⟨oc26, od26, .func (PySem.W.fnOf "_law_level" "_law_level" (defArgs sLLevel) (defBody sLLevel) (defScope sLLevel) .none kV26 dc26 pm26 an26 cd26 ct26), sl26⟩) (c26 : PySem.W.codeIn K cd26 "_law_level" = true) (k26 : PySem.W.keepIn K (.ref f26) = true)
    (a27 : PySem.W.nsIn K mainGlobals "_law_numbers" = some (some (.ref f27))) (l27 : K.lookup f27 = some ⟨oc27, od27, .func (PySem.W.fnOf "_law_numbers" "_law_numbers" (defArgs sLNum) (defBody sLNum) (defScope sLNum) .none kV27 dc27 pm27 an27 cd27 ct27), sl27⟩) (c27 : PySem.W.codeIn K cd27 "_law_numbers" = true) (k27 : PySem.W.keepIn K (.ref f27) = true)
    (a28 : PySem.W.nsIn K mainGlobals "_law_laying" = some (some (.ref f28))) (l28 : K.lookup f28 = some ⟨oc28, od28, .func (PySem.W.fnOf "_law_laying" "_law_laying" (defArgs sLay29) (defBody sLay29) (defScope sLay29) .none kV28 dc28 pm28 an28 cd28 ct28), sl28⟩) (c28 : PySem.W.codeIn K cd28 "_law_laying" = true) (k28 : PySem.W.keepIn K (.ref f28) = true)
    (a29 : PySem.W.nsIn K mainGlobals "_law_odd" = some (some (.ref f29))) (l29 : K.lookup f29 = some ⟨oc29, od29, .func (PySem.W.fnOf "_law_odd" "_law_odd" (defArgs sOdd) (defBody sOdd) (defScope sOdd) .none kV29 dc29 pm29 an29 cd29 ct29), sl29⟩) (c29 : PySem.W.codeIn K cd29 "_law_odd" = true) (k29 : PySem.W.keepIn K (.ref f29) = true)
    (a30 : PySem.W.nsIn K mainGlobals "_law_kind" = some (some (.ref f30))) (l30 : K.lookup f30 = some ⟨oc30, od30, .func (PySem.W.fnOf "_law_kind" "_law_kind" (defArgs sKind) (defBody sKind) (defScope sKind) .none kV30 dc30 pm30 an30 cd30 ct30), sl30⟩) (c30 : PySem.W.codeIn K cd30 "_law_kind" = true) (k30 : PySem.W.keepIn K (.ref f30) = true)
    (a31 : PySem.W.nsIn K mainGlobals "_law_word" = some (some (.ref f31))) (l31 : K.lookup f31 = some ⟨oc31, od31, .func (PySem.W.fnOf "_law_word" "_law_word" (defArgs sWord) (defBody sWord) (defScope sWord) .none kV31 dc31 pm31 an31 cd31 ct31), sl31⟩) (c31 : PySem.W.codeIn K cd31 "_law_word" = true) (k31 : PySem.W.keepIn K (.ref f31) = true)
    (a32 : PySem.W.nsIn K mainGlobals "_law_refused_right" = some (some (.ref f32))) (l32 : K.lookup f32 = some ⟨oc32, od32, .func (PySem.W.fnOf "_law_refused_right" "_law_refused_right" (defArgs sRef30) (defBody sRef30) (defScope sRef30) .none kV32 dc32 pm32 an32 cd32 ct32), sl32⟩) (c32 : PySem.W.codeIn K cd32 "_law_refused_right" = true) (k32 : PySem.W.keepIn K (.ref f32) = true)
    (a33 : PySem.W.nsIn K mainGlobals "law" = some (some (.ref f33))) (l33 : K.lookup f33 = some ⟨oc33, od33, .func (PySem.W.fnOf "law" "law" (defArgs sLaw) (defBody sLaw) (defScope sLaw) .none kV33 dc33 pm33 an33 cd33 ct33), sl33⟩) (c33 : PySem.W.codeIn K cd33 "law" = true) (k33 : PySem.W.keepIn K (.ref f33) = true)
    (y0 : PySem.W.nsIn K mainGlobals "LEAST_WAYS" = some (some (.int 2 tk0)))
    (y1 : PySem.W.nsIn K mainGlobals "MOST_WAYS" = some (some (.int 7 tk1)))
    (y2 : PySem.W.nsIn K mainGlobals "MOST_PLACES" = some (some (.int 4000 tk2)))
    {ec0 ec1 ec2 ec3 ec4 ec5 ec6 ec7 ec8 ec9 ec10 ec11 ec12 : Addr}
    (ex0 : PySem.W.nsIn K mainGlobals "ReelError" = some (some (.ref ec0)))
    (ex1 : PySem.W.nsIn K mainGlobals "NoWays" = some (some (.ref ec1)))
    (ex2 : PySem.W.nsIn K mainGlobals "NoRoom" = some (some (.ref ec2)))
    (ex3 : PySem.W.nsIn K mainGlobals "NoLevel" = some (some (.ref ec3)))
    (ex4 : PySem.W.nsIn K mainGlobals "NoStanding" = some (some (.ref ec4)))
    (ex5 : PySem.W.nsIn K mainGlobals "TooMany" = some (some (.ref ec5)))
    (ex6 : PySem.W.nsIn K mainGlobals "TooFew" = some (some (.ref ec6)))
    (ex7 : PySem.W.nsIn K mainGlobals "NoPlace" = some (some (.ref ec7)))
    (ex8 : PySem.W.nsIn K mainGlobals "NoText" = some (some (.ref ec8)))
    (ex9 : PySem.W.nsIn K mainGlobals "NoLine" = some (some (.ref ec9)))
    (ex10 : PySem.W.nsIn K mainGlobals "NoBack" = some (some (.ref ec10)))
    (ex11 : PySem.W.nsIn K mainGlobals "NoPhase" = some (some (.ref ec11)))
    (ex12 : PySem.W.nsIn K mainGlobals "Clash" = some (some (.ref ec12)))
    (exnd : ([ec1, ec2, ec3, ec4, ec5, ec6, ec7, ec8, ec9, ec10, ec11, ec12] : List Addr).Nodup)
    (etNoWays : excTab K ec0 ec1 [ec1, ec2, ec3, ec4, ec5, ec6, ec7, ec8, ec9, ec10, ec11, ec12] = true)
    (etNoLevel : excTab K ec0 ec3 [ec1, ec2, ec3, ec4, ec5, ec6, ec7, ec8, ec9, ec10, ec11, ec12] = true)
    (etTooMany : excTab K ec0 ec5 [ec1, ec2, ec3, ec4, ec5, ec6, ec7, ec8, ec9, ec10, ec11, ec12] = true)
    (z0 : PySem.W.nsIn K mainGlobals "isinstance" = some none) (z1 : PySem.W.nsIn K mainGlobals "int" = some none) (z2 : PySem.W.nsIn K mainGlobals "bool" = some none) (z3 : PySem.W.nsIn K mainGlobals "list" = some none) (z4 : PySem.W.nsIn K mainGlobals "tuple" = some none) (z5 : PySem.W.nsIn K mainGlobals "min" = some none) (z6 : PySem.W.nsIn K mainGlobals "max" = some none) (z7 : PySem.W.nsIn K mainGlobals "len" = some none) (z8 : PySem.W.nsIn K mainGlobals "range" = some none) (z9 : PySem.W.nsIn K mainGlobals "all" = some none) (z10 : PySem.W.nsIn K mainGlobals "sum" = some none) (z11 : PySem.W.nsIn K mainGlobals "sorted" = some none) (z12 : PySem.W.nsIn K mainGlobals "zip" = some none) (zValueError : PySem.W.nsIn K mainGlobals "ValueError" = some none) (zenumerate : PySem.W.nsIn K mainGlobals "enumerate" = some none) :
    ∃ fd : FuncData, (∀ (s : Shared) (v : Value), BindsTo s fd ⟨[v], []⟩ [("script", v)]) ∧ ∀ base : Heap, K.In base → base.Ns mainGlobals mg → FnOk l.prog w K mg base CX0 10 fa fd ["script"] (spLaw K) := by
  have e := hfa.symm.trans (PySem.W.mg_of X G a33)
  cases e
  have T : Txt mg := ⟨PySem.W.mg_none_of X G z0, PySem.W.mg_none_of X G z1, PySem.W.mg_none_of X G z2, PySem.W.mg_none_of X G z3, PySem.W.mg_none_of X G z4, PySem.W.mg_none_of X G z5, PySem.W.mg_none_of X G z6, PySem.W.mg_none_of X G z7, PySem.W.mg_none_of X G z8, PySem.W.mg_none_of X G z9, PySem.W.mg_none_of X G z10, PySem.W.mg_none_of X G z11, PySem.W.mg_none_of X G z12⟩
  have F0 := fun_mk (st := sWhole) l0 c0 k0
  have b0 := F0.binds (ps := ["thing"]) fun _ _ _ _ _ _ us hl => @len1 (fun us => bindArgs _ ⟨us, []⟩ = pure (List.zip _ us)) us hl fun _ => rfl
  have F1 := fun_mk (st := sTupOf) l1 c1 k1
  have b1 := F1.binds (ps := ["thing", "many"]) fun _ _ _ _ _ _ us hl => @len2 (fun us => bindArgs _ ⟨us, []⟩ = pure (List.zip _ us)) us hl fun _ _ => rfl
  have F2 := fun_mk (st := sWays) l2 c2 k2
  have b2 := F2.binds (ps := ["p"]) fun _ _ _ _ _ _ us hl => @len1 (fun us => bindArgs _ ⟨us, []⟩ = pure (List.zip _ us)) us hl fun _ => rfl
  have F3 := funD_mk (st := sLevel) l3 c3 k3
  have b3 := F3.binds (ps := ["n", "last"]) d3 rfl [.int 300 dt3_0] ["n"] rfl fun _ _ _ _ _ _ us hl => match us, hl with | [_], _ => ⟨_, rfl, rfl⟩
  have F4 := fun_mk (st := sFirst) l4 c4 k4
  have b4 := F4.binds (ps := ["p"]) fun _ _ _ _ _ _ us hl => @len1 (fun us => bindArgs _ ⟨us, []⟩ = pure (List.zip _ us)) us hl fun _ => rfl
  have F5 := fun_mk (st := sNext) l5 c5 k5
  have b5 := F5.binds (ps := ["counts"]) fun _ _ _ _ _ _ us hl => @len1 (fun us => bindArgs _ ⟨us, []⟩ = pure (List.zip _ us)) us hl fun _ => rfl
  have F6 := fun_mk (st := sCounts) l6 c6 k6
  have b6 := F6.binds (ps := ["p", "n"]) fun _ _ _ _ _ _ us hl => @len2 (fun us => bindArgs _ ⟨us, []⟩ = pure (List.zip _ us)) us hl fun _ _ => rfl
  have F7 := fun_mk (st := sTotal) l7 c7 k7
  have b7 := F7.binds (ps := ["p", "n"]) fun _ _ _ _ _ _ us hl => @len2 (fun us => bindArgs _ ⟨us, []⟩ = pure (List.zip _ us)) us hl fun _ _ => rfl
  have F8 := fun_mk (st := sTot) l8 c8 k8
  have b8 := F8.binds (ps := ["total"]) fun _ _ _ _ _ _ us hl => @len1 (fun us => bindArgs _ ⟨us, []⟩ = pure (List.zip _ us)) us hl fun _ => rfl
  have F9 := fun_mk (st := sPlaces) l9 c9 k9
  have b9 := F9.binds (ps := ["p", "n"]) fun _ _ _ _ _ _ us hl => @len2 (fun us => bindArgs _ ⟨us, []⟩ = pure (List.zip _ us)) us hl fun _ _ => rfl
  have F10 := fun_mk (st := sFirstN) l10 c10 k10
  have b10 := F10.binds (ps := ["p"]) fun _ _ _ _ _ _ us hl => @len1 (fun us => bindArgs _ ⟨us, []⟩ = pure (List.zip _ us)) us hl fun _ => rfl
  have F11 := fun_mk (st := sNextN) l11 c11 k11
  have b11 := F11.binds (ps := ["numbers"]) fun _ _ _ _ _ _ us hl => @len1 (fun us => bindArgs _ ⟨us, []⟩ = pure (List.zip _ us)) us hl fun _ => rfl
  have F12 := fun_mk (st := sAfter) l12 c12 k12
  have b12 := F12.binds (ps := ["p", "n", "following"]) fun _ _ _ _ _ _ us hl => @len3 (fun us => bindArgs _ ⟨us, []⟩ = pure (List.zip _ us)) us hl fun _ _ _ => rfl
  have F13 := fun_mk (st := sNumOf) l13 c13 k13
  have b13 := F13.binds (ps := ["p", "n"]) fun _ _ _ _ _ _ us hl => @len2 (fun us => bindArgs _ ⟨us, []⟩ = pure (List.zip _ us)) us hl fun _ _ => rfl
  have F14 := fun_mk (st := sLN) l14 c14 k14
  have b14 := F14.binds (ps := ["p", "n"]) fun _ _ _ _ _ _ us hl => @len2 (fun us => bindArgs _ ⟨us, []⟩ = pure (List.zip _ us)) us hl fun _ _ => rfl
  have F15 := fun_mk (st := sFits) l15 c15 k15
  have b15 := F15.binds (ps := ["on_reel", "count"]) fun _ _ _ _ _ _ us hl => @len2 (fun us => bindArgs _ ⟨us, []⟩ = pure (List.zip _ us)) us hl fun _ _ => rfl
  have F16 := fun_mk (st := sReal) l16 c16 k16
  have b16 := F16.binds (ps := ["laying"]) fun _ _ _ _ _ _ us hl => @len1 (fun us => bindArgs _ ⟨us, []⟩ = pure (List.zip _ us)) us hl fun _ => rfl
  have F17 := fun_mk (st := sIsLay) l17 c17 k17
  have b17 := F17.binds (ps := ["p", "n", "laying"]) fun _ _ _ _ _ _ us hl => @len3 (fun us => bindArgs _ ⟨us, []⟩ = pure (List.zip _ us)) us hl fun _ _ _ => rfl
  have F18 := fun_mk (st := sRead) l18 c18 k18
  have b18 := F18.binds (ps := ["numbers", "laying"]) fun _ _ _ _ _ _ us hl => @len2 (fun us => bindArgs _ ⟨us, []⟩ = pure (List.zip _ us)) us hl fun _ _ => rfl
  have F19 := fun_mk (st := sLayH) l19 c19 k19
  have b19 := F19.binds (ps := ["p", "n", "laying"]) fun _ _ _ _ _ _ us hl => @len3 (fun us => bindArgs _ ⟨us, []⟩ = pure (List.zip _ us)) us hl fun _ _ _ => rfl
  have F20 := fun_mk (st := sLayR) l20 c20 k20
  have b20 := F20.binds (ps := ["p", "n", "laying"]) fun _ _ _ _ _ _ us hl => @len3 (fun us => bindArgs _ ⟨us, []⟩ = pure (List.zip _ us)) us hl fun _ _ _ => rfl
  have F21 := fun_mk (st := sCellAt) l21 c21 k21
  have b21 := F21.binds (ps := ["script", "k"]) fun _ _ _ _ _ _ us hl => @len2 (fun us => bindArgs _ ⟨us, []⟩ = pure (List.zip _ us)) us hl fun _ _ => rfl
  have F22 := fun_mk (st := sPool) l22 c22 k22
  have b22 := F22.binds (ps := ["script", "at"]) fun _ _ _ _ _ _ us hl => @len2 (fun us => bindArgs _ ⟨us, []⟩ = pure (List.zip _ us)) us hl fun _ _ => rfl
  have F23 := fun_mk (st := sTake) l23 c23 k23
  have b23 := F23.binds (ps := ["pool", "many"]) fun _ _ _ _ _ _ us hl => @len2 (fun us => bindArgs _ ⟨us, []⟩ = pure (List.zip _ us)) us hl fun _ _ => rfl
  have F24 := fun_mk (st := sLWhole) l24 c24 k24
  have b24 := F24.binds (ps := ["thing"]) fun _ _ _ _ _ _ us hl => @len1 (fun us => bindArgs _ ⟨us, []⟩ = pure (List.zip _ us)) us hl fun _ => rfl
  have F25 := fun_mk (st := sLCounts) l25 c25 k25
  have b25 := F25.binds (ps := ["p", "n"]) fun _ _ _ _ _ _ us hl => @len2 (fun us => bindArgs _ ⟨us, []⟩ = pure (List.zip _ us)) us hl fun _ _ => rfl
  have F26 := fun_mk (st := sLLevel) l26 c26 k26
  have b26 := F26.binds (ps := ["pool", "p", "most"]) fun _ _ _ _ _ _ us hl => @len3 (fun us => bindArgs _ ⟨us, []⟩ = pure (List.zip _ us)) us hl fun _ _ _ => rfl
  have F27 := fun_mk (st := sLNum) l27 c27 k27
  have b27 := F27.binds (ps := ["p", "n"]) fun _ _ _ _ _ _ us hl => @len2 (fun us => bindArgs _ ⟨us, []⟩ = pure (List.zip _ us)) us hl fun _ _ => rfl
  have F28 := fun_mk (st := sLay29) l28 c28 k28
  have b28 := F28.binds (ps := ["pool", "counts", "rows"]) fun _ _ _ _ _ _ us hl => @len3 (fun us => bindArgs _ ⟨us, []⟩ = pure (List.zip _ us)) us hl fun _ _ _ => rfl
  have F29 := fun_mk (st := sOdd) l29 c29 k29
  have b29 := F29.binds (ps := ["pool", "least", "most"]) fun _ _ _ _ _ _ us hl => @len3 (fun us => bindArgs _ ⟨us, []⟩ = pure (List.zip _ us)) us hl fun _ _ _ => rfl
  have F30 := fun_mk (st := sKind) l30 c30 k30
  have b30 := F30.binds (ps := ["caught"]) fun _ _ _ _ _ _ us hl => @len1 (fun us => bindArgs _ ⟨us, []⟩ = pure (List.zip _ us)) us hl fun _ => rfl
  have F31 := fun_mk (st := sWord) l31 c31 k31
  have b31 := F31.binds (ps := ["way", "p", "n", "laying"]) fun _ _ _ _ _ _ us hl => @len4 (fun us => bindArgs _ ⟨us, []⟩ = pure (List.zip _ us)) us hl fun _ _ _ _ => rfl
  have F32 := fun_mk (st := sRef30) l32 c32 k32
  have b32 := F32.binds (ps := ["pool", "p", "n", "laying"]) fun _ _ _ _ _ _ us hl => @len4 (fun us => bindArgs _ ⟨us, []⟩ = pure (List.zip _ us)) us hl fun _ _ _ _ => rfl
  have F33 := fun_mk (st := sLaw) l33 c33 k33
  refine ⟨PySem.W.fnOf "law" "law" (defArgs sLaw) (defBody sLaw) (defScope sLaw) .none kV33 dc33 pm33 an33 cd33 ct33, fun s v => .of_eq rfl, fun base _ _ => ?_⟩
  have m := fun {x : Str} {v : Value} (a : PySem.W.nsIn K mainGlobals x = some (some v)) => PySem.W.mg_of X G a
  have mLEAST_WAYS := m y0
  have mMOST_WAYS := m y1
  have mMOST_PLACES := m y2
  let XX : Excs K mg := ⟨ec0, ec1, ec2, ec3, ec4, ec5, ec6, ec7, ec8, ec9, ec10, ec11, ec12, m ex0, m ex1, m ex2, m ex3, m ex4, m ex5, m ex6, m ex7, m ex8, m ex9, m ex10, m ex11, m ex12, exnd⟩
  have tabNoWays : ExcTab K XX.reel XX.nWays XX.all := ExcTab.of etNoWays
  have tabNoLevel : ExcTab K XX.reel XX.nLevel XX.all := ExcTab.of etNoLevel
  have tabTooMany : ExcTab K XX.reel XX.tMany XX.all := ExcTab.of etTooMany
  have Cis_whole : Cal l.prog w K mg base 1 "is_whole" ["thing"] (spWholeA K) _ _ := ⟨ok_wholeA F0 T, m a0, k0, b0⟩
  have Cwhole : Cal l.prog w K mg base 1 "is_whole" ["thing"] spWhole _ _ := ⟨(ok_wholeA F0 T).imp (fun vs H Q E ⟨i, e, q⟩ => ⟨.int i, "int", e, ⟨.int i, by decide⟩, q⟩), m a0, k0, b0⟩
  have Cis_tuple_of : Cal l.prog w K mg base 1 "is_tuple_of" ["thing", "many"] spTupOf2 _ _ := ⟨ok_tupof2 F1 T, m a1, k1, b1⟩
  have Cways : Cal l.prog w K mg base 2 "check_ways" ["p"] spWays _ _ := ⟨ok_ways F2 T mLEAST_WAYS mMOST_WAYS Cwhole, m a2, k2, b2⟩
  have CwaysE : CalE l.prog w K mg base 2 "check_ways" ["p"] [] (spChkE K 2 7 XX.nWays) _ _ := ⟨ok_waysE F2 T XX tabNoWays.ok mLEAST_WAYS mMOST_WAYS Cis_whole, m a2, k2, [], b2, .nil⟩
  have Ccheck_level : CalD l.prog w K mg base 2 "check_level" ["n", "last"] [.int 300] spLevelD _ _ := ⟨ok_level F3 T Cwhole, m a3, k3, ⟨_, b3, .cons ⟨_, rfl⟩ (.nil)⟩⟩
  have ClvlE : CalE l.prog w K mg base 2 "check_level" ["n", "last"] [.int 300] (spLvlE K 300 XX.nLevel) _ _ := ⟨ok_levelE F3 T XX tabNoLevel.ok Cis_whole, m a3, k3, _, b3, .cons ⟨_, rfl⟩ (.nil)⟩
  have Cfirst_counts : Cal l.prog w K mg base 1 "first_counts" ["p"] spFirst _ _ := ⟨ok_first F4 T, m a4, k4, b4⟩
  have Cnext_counts : Cal l.prog w K mg base 1 "next_counts" ["counts"] (spNext K) _ _ := ⟨ok_next F5 T, m a5, k5, b5⟩
  have Clevel_counts : Cal l.prog w K mg base 3 "level_counts" ["p", "n"] spCounts _ _ := ⟨ok_counts F6 T Cways Ccheck_level Cfirst_counts Cnext_counts, m a6, k6, b6⟩
  have ClcB : CalE l.prog w K mg base 3 "level_counts" ["p", "n"] [] (spWL K XX.nWays XX.nLevel) _ _ := ⟨ok_countsE F6 CwaysE ClvlE, m a6, k6, [], b6, .nil⟩
  have Clevel_total : Cal l.prog w K mg base 4 "level_total" ["p", "n"] spTotal _ _ := ⟨ok_total F7 T Clevel_counts, m a7, k7, b7⟩
  have Clt : CalE l.prog w K mg base 4 "level_total" ["p", "n"] [] (fun vs H Q E => spTotal vs H Q E ∨ spWL K XX.nWays XX.nLevel vs H Q E) _ _ := ⟨FnOk.or (FnOk.toE (ok_total F7 T Clevel_counts)) (ok_totalE F7 T ClcB), m a7, k7, [], b7, .nil⟩
  have Ccheck_total : Cal l.prog w K mg base 1 "check_total" ["total"] spTot _ _ := ⟨ok_tot F8 T mMOST_PLACES, m a8, k8, b8⟩
  have CtotE : CalE l.prog w K mg base 1 "check_total" ["total"] [] (spTotE XX.tMany) _ _ := ⟨ok_totE F8 XX tabTooMany.ok mMOST_PLACES, m a8, k8, [], b8, .nil⟩
  have Ccheck_places : Cal l.prog w K mg base 5 "check_places" ["p", "n"] spPlaces _ _ := ⟨ok_places F9 T Clevel_total Ccheck_total, m a9, k9, b9⟩
  have CplE : CalE l.prog w K mg base 5 "check_places" ["p", "n"] [] (spPlE K XX.nWays XX.nLevel XX.tMany) _ _ := ⟨ok_placesE F9 Clt CtotE, m a9, k9, [], b9, .nil⟩
  have Cfirst_numbers : Cal l.prog w K mg base 1 "first_numbers" ["p"] spFirstN _ _ := ⟨ok_firstN F10 T, m a10, k10, b10⟩
  have Cnext_numbers : Cal l.prog w K mg base 1 "next_numbers" ["numbers"] spNextN _ _ := ⟨ok_nextN F11 T, m a11, k11, b11⟩
  have Cnumbers_after : Cal l.prog w K mg base 2 "numbers_after" ["p", "n", "following"] (spAfter _) _ _ := ⟨ok_after F12 T Cfirst_numbers Cnext_numbers, m a12, k12, b12⟩
  have Cnumbers_of : Cal l.prog w K mg base 3 "numbers_of" ["p", "n"] spNum _ _ := ⟨ok_numof F13 T Cnext_numbers Cnumbers_after, m a13, k13, b13⟩
  have Clevel_numbers : Cal l.prog w K mg base 6 "level_numbers" ["p", "n"] spNum _ _ := ⟨ok_ln F14 T Ccheck_places Cnumbers_of, m a14, k14, b14⟩
  have Cln : CalE l.prog w K mg base 6 "level_numbers" ["p", "n"] [] (fun vs H Q E => spNum vs H Q E ∨ spPlE K XX.nWays XX.nLevel XX.tMany vs H Q E) _ _ := ⟨FnOk.or (FnOk.toE (ok_ln F14 T Ccheck_places Cnumbers_of)) (ok_lnE F14 CplE), m a14, k14, [], b14, .nil⟩
  have Cfits_reel : Cal l.prog w K mg base 2 "fits_reel" ["on_reel", "count"] spFits _ _ := ⟨ok_fits F15 T Cis_tuple_of, m a15, k15, b15⟩
  have Creal_rows : Cal l.prog w K mg base 1 "real_rows" ["laying"] spReal _ _ := ⟨ok_real F16 T, m a16, k16, b16⟩
  have Cis_laying : Cal l.prog w K mg base 4 "is_laying" ["p", "n", "laying"] spIsLay _ _ := ⟨ok_islay F17 T Cis_tuple_of Cfits_reel Clevel_counts Creal_rows, m a17, k17, b17⟩
  have Creading_of : Cal l.prog w K mg base 1 "reading_of" ["numbers", "laying"] spRead _ _ := ⟨ok_read F18 T, m a18, k18, b18⟩
  have Clh : CalE l.prog w K mg base 6 "laying_holds" ["p", "n", "laying"] [] (fun vs H Q E => spIsLay vs H Q E ∨ spPl3 K XX.nWays XX.nLevel XX.tMany vs H Q E) _ _ := ⟨FnOk.or (FnOk.toE (ok_layh F19 T Ccheck_places Cis_laying)) (ok_layhE F19 CplE), m a19, k19, [], b19, .nil⟩
  have Claying_reading : Cal l.prog w K mg base 7 "laying_reading" ["p", "n", "laying"] spLayR _ _ := ⟨ok_layr F20 T Clevel_numbers Creading_of, m a20, k20, b20⟩
  have Clr : CalE l.prog w K mg base 7 "laying_reading" ["p", "n", "laying"] [] (fun vs H Q E => spLayR vs H Q E ∨ spPl3 K XX.nWays XX.nLevel XX.tMany vs H Q E) _ _ := ⟨FnOk.or (FnOk.toE (ok_layr F20 T Clevel_numbers Creading_of)) (ok_layrE F20 Cln Creading_of), m a20, k20, [], b20, .nil⟩
  have C_law_cell_at : Cal l.prog w K mg base 1 "_law_cell_at" ["script", "k"] (spCell K) _ _ := ⟨ok_cellAt F21 T, m a21, k21, b21⟩
  have C_law_pool : Cal l.prog w K mg base 2 "_law_pool" ["script", "at"] (spPool K) _ _ := ⟨ok_pool F22 T C_law_cell_at, m a22, k22, b22⟩
  have C_law_take : Cal l.prog w K mg base 1 "_law_take" ["pool", "many"] spTake _ _ := ⟨ok_take F23 T, m a23, k23, b23⟩
  have C_law_whole : Cal l.prog w K mg base 1 "_law_whole" ["thing"] spWhole _ _ := ⟨ok_lwhole F24 T, m a24, k24, b24⟩
  have C_law_counts : Cal l.prog w K mg base 1 "_law_counts" ["p", "n"] spCounts _ _ := ⟨ok_lcounts F25 T, m a25, k25, b25⟩
  have C_law_level : Cal l.prog w K mg base 2 "_law_level" ["pool", "p", "most"] spLLev _ _ := ⟨ok_llev F26 T C_law_counts C_law_take, m a26, k26, b26⟩
  have C_law_numbers : Cal l.prog w K mg base 1 "_law_numbers" ["p", "n"] spLNumF _ _ := ⟨ok_lnum F27 T, m a27, k27, b27⟩
  have C_law_laying : Cal l.prog w K mg base 2 "_law_laying" ["pool", "counts", "rows"] spLay35 _ _ := ⟨ok_lay35 F28 T (PySem.W.mg_none_of X G zenumerate) C_law_take, m a28, k28, b28⟩
  have C_law_odd : Cal l.prog w K mg base 2 "_law_odd" ["pool", "least", "most"] (spOdd31 K) _ _ := ⟨ok_odd31 F29 T C_law_take, m a29, k29, b29⟩
  have C_law_kind : Cal l.prog w K mg base 1 "_law_kind" ["caught"] (spKind31 XX) _ _ := ⟨ok_kind31 F30 T (PySem.W.mg_none_of X G zValueError) XX, m a30, k30, b30⟩
  have C_law_word : Cal l.prog w K mg base 8 "_law_word" ["way", "p", "n", "laying"] (spWord30 K) _ _ := ⟨ok_word30 F31 XX tabNoWays tabNoLevel tabTooMany Clh Clr C_law_kind, m a31, k31, b31⟩
  have C_law_refused_right : Cal l.prog w K mg base 9 "_law_refused_right" ["pool", "p", "n", "laying"] spRef30 _ _ := ⟨ok_ref30 F32 T C_law_counts C_law_odd C_law_take C_law_word, m a32, k32, b32⟩
  exact ok_law30 F33 T C_law_pool C_law_take C_law_level C_law_counts C_law_numbers C_law_laying Claying_reading C_law_whole C_law_refused_right
theorem walk {l : PySem.W.OpenLaw} {q : Program} {loose : List Str} {XP : (Str → Option Value) → Heap → Prop} {YP : World → Heap → Prop} {d : DefRec} {K : Params → PySem.W.Frag} (hn : l.most = some 63) (hdf : d.params.defaults = [])
    (hY : ∀ (w : World) (h : Heap), YP w h → (K w.params).In h)
    (F : ∀ (w : World) (mg : Str → Option Value) (fa : Addr) (h : Heap), (K w.params).In h → h.Ns mainGlobals mg → mg d.name = some (.ref fa) →
      ∃ fd : FuncData, (∀ (s : Shared) (u : Value), BindsTo s fd ⟨[u], []⟩ [("script", u)]) ∧ ∀ base : Heap, (K w.params).In base → base.Ns mainGlobals mg → FnOk l.prog w (K w.params) mg base CX0 10 fa fd ["script"] (spLaw (K w.params))) :
    PySem.W.WalkO q loose XP YP l.row.toRowW d [] (fun f vs => PySem.call f vs) :=
  L2.walk_of (n := 63) (k := 10) (x := "script") (CX := fun _ => CX0) (sp := fun w => spLaw (K w.params)) hn (by decide) hdf ⟨rfl, by decide, by decide, rfl⟩ hY F (fun _ _ a ns hl _ hS => ⟨a, ns, rfl, hS, hl, fun _ => rfl⟩) fun _ _ _ _ _ z => z
end Fs30
def PySem.W.Fast.tw10858622805936498955 : Unit := ()
def PySem.W.Fast.tw16385648883004977320 : Unit := ()
def PySem.W.Fast.tw14269955424849192572 : Unit := ()
def PySem.W.Fast.tw16225327590968688754 : Unit := ()
def PySem.W.Fast.tw13094565437943836973 : Unit := ()
def PySem.W.Fast.tw16691423355327140320 : Unit := ()
def PySem.W.Fast.tw11145598261647646647 : Unit := ()
def PySem.W.Fast.tw11077033929366885661 : Unit := ()
def PySem.W.Fast.tw9393272336549713667 : Unit := ()
def PySem.W.Fast.tw13322925592775165249 : Unit := ()
def PySem.W.Fast.tw257119233747757240 : Unit := ()
def PySem.W.Fast.tw13215938418235940614 : Unit := ()
def PySem.W.Fast.tw1167808826011535394 : Unit := ()
def PySem.W.Fast.tw4134779389481363763 : Unit := ()
def PySem.W.Fast.tw3033719522326848850 : Unit := ()
def PySem.W.Fast.tw18227150280916387694 : Unit := ()
def PySem.W.Fast.tw9861919937785032687 : Unit := ()
def PySem.W.Fast.tw2457872344156700067 : Unit := ()
def PySem.W.Fast.tw6257262324674912262 : Unit := ()
def PySem.W.Fast.tw14506331603898169122 : Unit := ()
def PySem.W.Fast.tw14668097338129497417 : Unit := ()
def PySem.W.Fast.tw2580625244960671318 : Unit := ()
def PySem.W.Fast.tw12948352024399337451 : Unit := ()
def PySem.W.Fast.tw16974867325727807428 : Unit := ()
def PySem.W.Fast.tw6113915469952307021 : Unit := ()
def PySem.W.Fast.tw7522417831108963261 : Unit := ()
def PySem.W.Fast.tw12324315518820230947 : Unit := ()
def PySem.W.Fast.tw4584819624414630267 : Unit := ()
def PySem.W.Fast.tw13294939939423652164 : Unit := ()
def PySem.W.Fast.tw3278590000591127116 : Unit := ()
def PySem.W.Fast.tw10334076561384405650 : Unit := ()
def PySem.W.Fast.tw12901758534953558480 : Unit := ()
def PySem.W.Fast.tw3371823242364509222 : Unit := ()
def PySem.W.Fast.tw15197347597646370114 : Unit := ()
def PySem.W.Fast.tw2997698289589034539 : Unit := ()
def PySem.W.Fast.tw3154716723886666139 : Unit := ()
def PySem.W.Fast.tw2275940021008042465 : Unit := ()
def PySem.W.Fast.tw6651454786712122929 : Unit := ()
def PySem.W.Fast.tw9657121287748216998 : Unit := ()
def PySem.W.Fast.tw12633243970185981664 : Unit := ()
def PySem.W.Fast.tw8768482083761448952 : Unit := ()
def PySem.W.Fast.tw973612466476207377 : Unit := ()
def PySem.W.Fast.tw8147986278115080459 : Unit := ()
def PySem.W.Fast.tw13511769222358031880 : Unit := ()
def PySem.W.Fast.tw13252039706955487997 : Unit := ()
def PySem.W.Fast.tw2883507954245974671 : Unit := ()
def PySem.W.Fast.tw14378582936179965735 : Unit := ()
def PySem.W.Fast.tw4490046491908151146 : Unit := ()
def PySem.W.Fast.tw18018999895022261576 : Unit := ()
def PySem.W.Fast.tw16211776393684595904 : Unit := ()
def PySem.W.Fast.tw9472655024208627401 : Unit := ()
def PySem.W.Fast.tw2993939661346441768 : Unit := ()
def PySem.W.Fast.tw15242835944982957834 : Unit := ()
def PySem.W.Fast.tw4438132548435895975 : Unit := ()
def PySem.W.Fast.tw495823319949736070 : Unit := ()
def PySem.W.Fast.tw6316618968677919205 : Unit := ()
def PySem.W.Fast.tw11465398481577071648 : Unit := ()
open PySem PySem.W PyProof.Rows
set_option maxRecDepth 100000 in
set_option maxHeartbeats 0 in
theorem PySem.Challenge.cw_fewreels_k30_readings_of_layings_holds : PySem.Challenge.rw_fewreels_k30_readings_of_layings.Holds := by
  w_on; o_law; k_head; (case hw => w_witness2)
  k_fill
  refine Fs30.walk (l := PySem.Challenge.rw_fewreels_k30_readings_of_layings) rfl rfl (fun w h Y => PySem.W.kIn_of Y) ?F
  case F =>
    intro w mg fa h KX G hmg
    refine' Fs30.all_mk KX G hmg ?a0 ?l0 ?c0 ?k0 ?a1 ?l1 ?c1 ?k1 ?a2 ?l2 ?c2 ?k2 ?a3 ?l3 ?c3 ?k3 ?d3 ?a4 ?l4 ?c4 ?k4 ?a5 ?l5 ?c5 ?k5 ?a6 ?l6 ?c6 ?k6 ?a7 ?l7 ?c7 ?k7 ?a8 ?l8 ?c8 ?k8 ?a9 ?l9 ?c9 ?k9 ?a10 ?l10 ?c10 ?k10 ?a11 ?l11 ?c11 ?k11 ?a12 ?l12 ?c12 ?k12 ?a13 ?l13 ?c13 ?k13 ?a14 ?l14 ?c14 ?k14 ?a15 ?l15 ?c15 ?k15 ?a16 ?l16 ?c16 ?k16 ?a17 ?l17 ?c17 ?k17 ?a18 ?l18 ?c18 ?k18 ?a19 ?l19 ?c19 ?k19 ?a20 ?l20 ?c20 ?k20 ?a21 ?l21 ?c21 ?k21 ?a22 ?l22 ?c22 ?k22 ?a23 ?l23 ?c23 ?k23 ?a24 ?l24 ?c24 ?k24 ?a25 ?l25 ?c25 ?k25 ?a26 ?l26 ?c26 ?k26 ?a27 ?l27 ?c27 ?k27 ?a28 ?l28 ?c28 ?k28 ?a29 ?l29 ?c29 ?k29 ?a30 ?l30 ?c30 ?k30 ?a31 ?l31 ?c31 ?k31 ?a32 ?l32 ?c32 ?k32 ?a33 ?l33 ?c33 ?k33 ?y0 ?y1 ?y2 ?ex0 ?ex1 ?ex2 ?ex3 ?ex4 ?ex5 ?ex6 ?ex7 ?ex8 ?ex9 ?ex10 ?ex11 ?ex12 ?exnd ?etNoWays ?etNoLevel ?etTooMany ?z0 ?z1 ?z2 ?z3 ?z4 ?z5 ?z6 ?z7 ?z8 ?z9 ?z10 ?z11 ?z12 ?zValueError ?zenumerate
    (case a0 => k_is); (case l0 => k_is); (case c0 => k_is); (case k0 => k_is); (case a1 => k_is); (case l1 => k_is)
    (case c1 => k_is); (case k1 => k_is); (case a2 => k_is); (case l2 => k_is); (case c2 => k_is); (case k2 => k_is)
    (case a3 => k_is); (case l3 => k_is); (case c3 => k_is); (case k3 => k_is); (case d3 => k_is); (case a4 => k_is)
    (case l4 => k_is); (case c4 => k_is); (case k4 => k_is); (case a5 => k_is); (case l5 => k_is); (case c5 => k_is)
    (case k5 => k_is); (case a6 => k_is); (case l6 => k_is); (case c6 => k_is); (case k6 => k_is); (case a7 => k_is)
    (case l7 => k_is); (case c7 => k_is); (case k7 => k_is); (case a8 => k_is); (case l8 => k_is); (case c8 => k_is)
    (case k8 => k_is); (case a9 => k_is); (case l9 => k_is); (case c9 => k_is); (case k9 => k_is); (case a10 => k_is)
    (case l10 => k_is); (case c10 => k_is); (case k10 => k_is); (case a11 => k_is); (case l11 => k_is); (case c11 => k_is)
    (case k11 => k_is); (case a12 => k_is); (case l12 => k_is); (case c12 => k_is); (case k12 => k_is); (case a13 => k_is)
    (case l13 => k_is); (case c13 => k_is); (case k13 => k_is); (case a14 => k_is); (case l14 => k_is); (case c14 => k_is)
    (case k14 => k_is); (case a15 => k_is); (case l15 => k_is); (case c15 => k_is); (case k15 => k_is); (case a16 => k_is)
    (case l16 => k_is); (case c16 => k_is); (case k16 => k_is); (case a17 => k_is); (case l17 => k_is); (case c17 => k_is)
    (case k17 => k_is); (case a18 => k_is); (case l18 => k_is); (case c18 => k_is); (case k18 => k_is); (case a19 => k_is)
    (case l19 => k_is); (case c19 => k_is); (case k19 => k_is); (case a20 => k_is); (case l20 => k_is); (case c20 => k_is)
    (case k20 => k_is); (case a21 => k_is); (case l21 => k_is); (case c21 => k_is); (case k21 => k_is); (case a22 => k_is)
    (case l22 => k_is); (case c22 => k_is); (case k22 => k_is); (case a23 => k_is); (case l23 => k_is); (case c23 => k_is)
    (case k23 => k_is); (case a24 => k_is); (case l24 => k_is); (case c24 => k_is); (case k24 => k_is); (case a25 => k_is)
    (case l25 => k_is); (case c25 => k_is); (case k25 => k_is); (case a26 => k_is); (case l26 => k_is); (case c26 => k_is)
    (case k26 => k_is); (case a27 => k_is); (case l27 => k_is); (case c27 => k_is); (case k27 => k_is); (case a28 => k_is)
    (case l28 => k_is); (case c28 => k_is); (case k28 => k_is); (case a29 => k_is); (case l29 => k_is); (case c29 => k_is)
    (case k29 => k_is); (case a30 => k_is); (case l30 => k_is); (case c30 => k_is); (case k30 => k_is); (case a31 => k_is)
    (case l31 => k_is); (case c31 => k_is); (case k31 => k_is); (case a32 => k_is); (case l32 => k_is); (case c32 => k_is)
    (case k32 => k_is); (case a33 => k_is); (case l33 => k_is); (case c33 => k_is); (case k33 => k_is); (case y0 => k_is)
    (case y1 => k_is); (case y2 => k_is); (case ex0 => k_is); (case ex1 => k_is); (case ex2 => k_is); (case ex3 => k_is)
    (case ex4 => k_is); (case ex5 => k_is); (case ex6 => k_is); (case ex7 => k_is); (case ex8 => k_is); (case ex9 => k_is)
    (case ex10 => k_is); (case ex11 => k_is); (case ex12 => k_is); (case z0 => k_is); (case z1 => k_is); (case z2 => k_is)
    (case z3 => k_is); (case z4 => k_is); (case z5 => k_is); (case z6 => k_is); (case z7 => k_is); (case z8 => k_is)
    (case z9 => k_is); (case z10 => k_is); (case z11 => k_is); (case z12 => k_is); (case zValueError => k_is); (case zenumerate => k_is)
    (case exnd => decide)
    (case etNoWays => with_unfolding_all rfl)
    (case etNoLevel => with_unfolding_all rfl)
    (case etTooMany => with_unfolding_all rfl)
