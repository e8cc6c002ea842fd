import PyProof.Rows.All
import Wide.All
import OpenK.AllK
import Wide.FinOn
import Lean
import PyProof.EqAt
import PyProof.EqKinds
import PyProof.TupleCall
import PyProof.NeKinds
import PyProof.Draws
import PyProof.SumWalkG
import PyProof.ListRange
import PyProof.ZipIter
import PyProof.Rows.SortRev
import KE.IntBitsLaws
import PyProof.ListMulRoad
import PyProof.TupleKey
import PyProof.StationsW
import PyProof.RulesAs
import PyProof.NsDelKeeps
import PyProof.Rows.Own
import PyProof.Rows.Catch
import KE.KTryMore
import KE.KIsNot
import OpenK.KDescr
import PyProof.ExcAttrAll.ValueError
import PyProof.FString
import KE.KItemsList
import KE.KPairComp
import PyProof.DictWalks
import PyProof.Rows.SortShellK
import KE.KSortTup
import KE.KDictSum
import PyProof.ReprRoads
import PyProof.ReprLen
import PyProof.CallStr
import PyProof.Rows.RuleIs
import PyProof.Rows.SeqMore2
import KE.KRevIter
import PyProof.Rows.TupAdd
import PyProof.Rows.StrJoin2
import PySem.Challenge.RW_fewreels_k73_held_rows_told
set_option Elab.async false
set_option linter.all false
set_option maxRecDepth 100000
/-! THE HAND LAYER, for ints, bools, texts, own classes, LISTS and tuples (index, slices, in, append, pop ..), calls, loops. Paste it whole ahead of your own text; what your proof does not reach may be deleted. -/
namespace L2
open PySem PySem.Spec PyProof.Rows

/-- a key: an int or a str -/
abbrev Key := Sum Int Str
def keyIs : Key → Value → Bool
  | .inl k, v => Value.isInt k v
  | .inr x, v => Value.isStrOf x v
def keyH (w : World) : Key → Int
  | .inl k => hashInt k
  | .inr x => hashStr w x
theorem keyIs_shape : ∀ {k : Key} {v : Value}, keyIs k v = true → (∃ i t, k = Sum.inl i ∧ v = Value.int i t) ∨ (∃ x t, k = Sum.inr x ∧ v = Value.str x t)
  | .inl i, v, h => by
    obtain ⟨t, e⟩ := Value.isInt_shape (k := i) (v := v) h
    exact .inl ⟨i, t, rfl, e⟩
  | .inr x, v, h => by
    obtain ⟨t, e⟩ := Value.isStrOf_shape (x := x) (v := v) h
    exact .inr ⟨x, t, rfl, e⟩
theorem keyIs_int (i : Int) (t : Tok) : keyIs (.inl i) (.int i t) = true := by simp [keyIs, Value.isInt]
theorem keyIs_str (x : Str) (t : Tok) : keyIs (.inr x) (.str x t) = true := by simp [keyIs, Value.isStrOf]
theorem key_ll (a b : Int) : decide ((Sum.inl a : Key) = Sum.inl b) = (a == b) := by
  by_cases e : a = b
  · subst e; simp
  · have h : ¬ (Sum.inl a : Key) = Sum.inl b := fun q => e (Sum.inl.inj q)
    rw [decide_eq_false h]
    exact (beq_eq_false_iff_ne.mpr e).symm
theorem key_rr (a b : Str) : decide ((Sum.inr a : Key) = Sum.inr b) = decide (a = b) := by
  by_cases e : a = b
  · subst e; simp
  · have h : ¬ (Sum.inr a : Key) = Sum.inr b := fun q => e (Sum.inr.inj q)
    rw [decide_eq_false h, decide_eq_false e]
theorem key_lr (a : Int) (b : Str) : decide ((Sum.inl a : Key) = Sum.inr b) = false := decide_eq_false (fun q => nomatch q)
theorem key_rl (a : Str) (b : Int) : decide ((Sum.inr a : Key) = Sum.inl b) = false := decide_eq_false (fun q => nomatch q)

def mixKind (prog : Program) (w : World) : PySem.KeyKind prog w Key where
  is := keyIs
  hash := keyH w
  inj := fun v a b ha hb => by
    rcases keyIs_shape ha with ⟨i, t, rfl, rfl⟩ | ⟨x, t, rfl, rfl⟩
    · rcases keyIs_shape hb with ⟨j, u, rfl, e⟩ | ⟨y, u, rfl, e⟩
      · injection e with e1 _; rw [e1]
      · exact nomatch e
    · rcases keyIs_shape hb with ⟨j, u, rfl, e⟩ | ⟨y, u, rfl, e⟩
      · exact nomatch e
      · injection e with e1 _; rw [e1]
  byValue := fun k v h => by
    rcases keyIs_shape h with ⟨i, t, rfl, rfl⟩ | ⟨x, t, rfl, rfl⟩ <;> rfl
  pyHash := fun hv h => by
    rcases keyIs_shape hv with ⟨i, t, rfl, rfl⟩ | ⟨x, t, rfl, rfl⟩
    · exact wpAny_pyHash_int h
    · exact wpAny_pyHash_str h
  eqBool := fun hu hv h => by
    rcases keyIs_shape hu with ⟨i, t, rfl, rfl⟩ | ⟨x, t, rfl, rfl⟩
    · rcases keyIs_shape hv with ⟨j, u, rfl, rfl⟩ | ⟨y, u, rfl, rfl⟩
      · rw [key_ll] at h; exact wpAny_eqBool_int h
      · rw [key_lr] at h; exact SeqAt.EqAt.int_str i t y u _ _ _ _ h
    · rcases keyIs_shape hv with ⟨j, u, rfl, rfl⟩ | ⟨y, u, rfl, rfl⟩
      · rw [key_rl] at h; exact SeqAt.EqAt.str_int x t j u _ _ _ _ h
      · rw [key_rr] at h; exact wpAny_eqBool_str h
  «strs» := fun k x t v h => by
    rcases keyIs_shape h with ⟨i, u, rfl, e⟩ | ⟨y, u, rfl, e⟩
    · exact nomatch e
    · injection e with e1 _
      subst e1
      cases v <;> rfl

theorem mixKind_is (prog : Program) (w : World) (k : Key) (v : Value) : (mixKind prog w).is k v = keyIs k v := rfl
theorem mixKind_int (prog : Program) (w : World) (i : Int) (t : Tok) : (mixKind prog w).is (.inl i) (.int i t) = true := keyIs_int i t
theorem mixKind_str (prog : Program) (w : World) (x : Str) (t : Tok) : (mixKind prog w).is (.inr x) (.str x t) = true := keyIs_str x t
end L2

namespace L2
open PySem PySem.Spec PyProof.Rows

/-- a value, without the heap -/
inductive V where
  | non | bl (b : Bool) | int (i : Int) | str (x : Str) | byt (b : Array UInt8) | flt (b : UInt64) | ref (a : Addr) | ty (n : String)
  deriving DecidableEq

def RelV : V → Value → Prop
  | .non, u => u = Value.none
  | .bl b, u => u = Value.bool b
  | .int i, u => ∃ t, u = Value.int i t
  | .str x, u => ∃ t, u = Value.str x t
  | .byt b, u => ∃ t, u = Value.bytes b t
  | .flt b, u => ∃ t, u = Value.float b t
  | .ref a, u => u = Value.ref a
  | .ty n, u => u = Value.type n

abbrev Vals : List V → List Value → Prop := Paired RelV
theorem Vals.length {xs : List V} {us : List Value} (r : Vals xs us) : xs.length = us.length := Paired.length r
theorem Vals.get : ∀ {xs : List V} {us : List Value} {i : Nat} {x : V}, Vals xs us → xs[i]? = some x → ∃ u, us[i]? = some u ∧ RelV x u
  | _, _, _, _, .nil, e => by simp at e
  | _, _, 0, _, .cons r _, e => by simp at e; subst e; exact ⟨_, rfl, r⟩
  | _, _, i + 1, x, .cons _ t, e => by
    obtain ⟨u, h1, h2⟩ := Vals.get (i := i) (x := x) t (by simpa using e)
    exact ⟨u, by simpa using h1, h2⟩
theorem Vals.set {x : V} {u : Value} (r : RelV x u) : ∀ {xs : List V} {us : List Value} (i : Nat), Vals xs us → Vals (xs.set i x) (us.set i u)
  | _, _, _, .nil => .nil
  | _, _, 0, .cons _ t => .cons r t
  | _, _, i + 1, .cons q t => .cons q (Vals.set r i t)
theorem Vals.append : ∀ {xs ys : List V} {us ws : List Value}, Vals xs us → Vals ys ws → Vals (xs ++ ys) (us ++ ws)
  | _, _, _, _, .nil, s => s
  | _, _, _, _, .cons r t, s => .cons r (Vals.append t s)
theorem Vals.take : ∀ {xs : List V} {us : List Value} (n : Nat), Vals xs us → Vals (xs.take n) (us.take n)
  | _, _, 0, _ => .nil
  | _, _, _ + 1, .nil => .nil
  | _, _, n + 1, .cons r t => .cons r (Vals.take n t)
theorem Vals.drop : ∀ {xs : List V} {us : List Value} (n : Nat), Vals xs us → Vals (xs.drop n) (us.drop n)
  | _, _, 0, r => r
  | _, _, _ + 1, .nil => .nil
  | _, _, n + 1, .cons _ t => Vals.drop n t
theorem Vals.none_of : ∀ {xs : List V} {us : List Value} {i : Nat}, Vals xs us → xs[i]? = none → us[i]? = none := fun {xs us i} r e => by
  have h1 := r.length
  have h2 : xs.length ≤ i := List.getElem?_eq_none_iff.mp e
  exact List.getElem?_eq_none_iff.mpr (by omega)

def RelO : Option V → Option Value → Prop
  | some v, some u => RelV v u
  | none, none => True
  | _, _ => False
def KV {κ : Type} : List (κ × V) → List (κ × Value) → Prop := Paired fun (p : κ × V) (q : κ × Value) => p.1 = q.1 ∧ RelV p.2 q.2

/-- a key of a dict (00_mix): an int or a text -/
def kV : Key → V
  | .inl i => .int i
  | .inr x => .str x

/-- what stands at a tracked address -/
inductive HO where
  /-- a list -/
  | lst (xs : List V)
  /-- a tuple (never changes) -/
  | tup (xs : List V)
  /-- a dict whose keys are ints and texts; one whose keys are tuples of ints and texts (the empty one is both) -/
  | dK (kvs : List (Key × V)) | dT (kvs : List (List Key × V))
  /-- a set of ints: its members, its size -/
  | set (S : Int → Bool) (n : Nat)
  /-- an instance of the class at C, its dict at dx, its attributes -/
  | ins (C dx : Addr) (fs : List (Str × V))
  /-- the dict of the instance at x -/
  | own (x : Addr)
  /-- the dict of an exception -/
  | xd (fs : List (Str × V))
  /-- a bound method, f of x -/
  | met (f x : Addr)
  /-- a range object lo, lo + 1, .. below hi -/
  | rng (lo hi : Int)
  /-- a thing that is known to the object (the script; a dict while a loop walks it): read, never written while it is so -/
  | frz (o : Obj) (u : HO)
  /-- a code object's table -/
  | tbl (ps : Array Value)
  /-- any other thing, by what is true of its one object (a def of one's own: SetO a S n := HO.ext fun h => ..) -/
  | ext (φ : Heap → Prop)

abbrev Hp := Addr → Option HO
def upd (H : Hp) (a : Addr) (o : HO) : Hp := fun b => if b = a then some o else H b
theorem upd_same {H : Hp} {a : Addr} {o : HO} : upd H a o a = some o := by unfold upd; rw [if_pos rfl]
theorem upd_ne {H : Hp} {a b : Addr} {o : HO} (h : b ≠ a) : upd H a o b = H b := by unfold upd; rw [if_neg h]
theorem upd_upd {H : Hp} {a : Addr} {o u : HO} : upd (upd H a o) a u = upd H a u := by
  funext b; unfold upd; split <;> rfl
/-- two objects of different content stand apart -/
theorem ne_of {H : Hp} {a b : Addr} {o u : HO} (h : H a = some o) (h' : H b = some u) (d : o ≠ u) : a ≠ b := by
  intro e; subst e; rw [h] at h'; exact d (Option.some.inj h')
theorem ne_of_none {H : Hp} {a b : Addr} {o : HO} (h : H a = some o) (h' : H b = none) : a ≠ b := by
  intro e; subst e; rw [h] at h'; cases h'

/-- a tuple without a dict of its own -/
def IsTupD (h : Heap) (a : Addr) (items : Array Value) : Prop := ∃ o, h.get? a = some o ∧ o.cls = .type "tuple" ∧ o.dict = none ∧ ∃ n, o.data = .seq items n
theorem IsTupD.tup {h : Heap} {a : Addr} {items : Array Value} (x : IsTupD h a items) : IsTup h a items := let ⟨o, e, c, _, d⟩ := x; ⟨o, e, c, d⟩
theorem IsTupD.new (h : Heap) (items : Array Value) : IsTupD (h.push { cls := .type "tuple", data := .seq items }) h.objs.size items := ⟨_, Heap.get?_push_size _ rfl, rfl, rfl, _, rfl⟩
section
variable (P : Program) (w : World)
def ObjOk (H : Hp) (h : Heap) (a : Addr) : HO → Prop
  | .lst xs => xs.length ≤ sizeLine ∧ ∃ (its : List Value) (n : Nat), Vals xs its ∧ h.get? a = some { cls := .type "list", data := .seq its.toArray n }
  | .tup xs => xs.length ≤ sizeLine ∧ ∃ its : List Value, Vals xs its ∧ IsTupD h a its.toArray
  | .dK kvs => kvs.length ≤ sizeLine ∧ (a == sysModules) = false ∧ ∃ vs, KV kvs vs ∧ h.DictOf (mixKind P w) a vs
  | .dT kvs => kvs.length ≤ sizeLine ∧ (a == sysModules) = false ∧ ∃ xs : List (List Key × Addr × Value),
      Paired (fun (p : List Key × V) (q : List Key × Addr × Value) => p.1 = q.1 ∧ H q.2.1 = some (.tup (p.1.map kV)) ∧ RelV p.2 q.2.2) kvs xs ∧
      ∃ o es ep, h.get? a = some o ∧ o.ExactDict ∧ o.data = .dict es ep ∧ es.toList = xs.map (entryOfKey (tupleKind (mixKind P w))) ∧ (xs.map (·.1)).Nodup
  | .set S n => h.SetOf (intKind P w) a S n
  | .ins C dx fs => H dx = some (.own a) ∧ fs.length ≤ 1000 ∧ dx ≠ a ∧ h.get? a = some (PySem.W.instObj C dx) ∧
      ∃ mA, h.Ns1 dx mA ∧ (∀ f, RelO (fs.lookup f) (mA f)) ∧ PySem.Within mA (fs.map (·.1))
  | .own _ => ∃ o, h.get? a = some o
  | .xd fs => ∃ mA, h.Ns1 a mA ∧ ∀ f, RelO (fs.lookup f) (mA f)
  | .rng lo hi => ∃ t u v, h.get? a = some { cls := .type "range", data := .fields #[.int lo t, .int hi u, .int 1 v] }
  | .frz o u => h.get? a = some o ∧ ObjOk H h a u
  | .tbl ps => h.get? a = some { cls := .none, data := .fields ps }
  | .met f x => h.get? a = some (PySem.W.methodObj (.ref f) (.ref x))
  | .ext φ => φ h ∧ (∃ o, h.get? a = some o) ∧ ∀ h1 h2 : Heap, φ h1 → (∀ o, h1.get? a = some o → h2.get? a = some o) → φ h2
/-- the abstract heap is held -/
def HOk (H : Hp) (h : Heap) : Prop := ∀ a o, H a = some o → ObjOk P w H h a o
end

section
variable {P : Program} {w : World} {H H' : Hp} {h h' : Heap} {a : Addr} {o : HO}
theorem ObjOk.lt (x : ObjOk P w H h a o) : a < h.objs.size := by
  cases o with
  | lst xs => obtain ⟨_, _, _, _, e⟩ := x; exact Heap.lt_size e
  | tup xs => obtain ⟨_, _, _, p⟩ := x; exact p.tup.lt
  | dK kvs => obtain ⟨_, _, _, _, o, _, _, e, _⟩ := x; exact Heap.lt_size e
  | dT kvs => obtain ⟨_, _, _, _, o, _, _, e, _⟩ := x; exact Heap.lt_size e
  | set S n => obtain ⟨o, _, _, _, e, _⟩ := x; exact Heap.lt_size e
  | ins C dx fs => obtain ⟨_, _, _, e, _⟩ := x; exact Heap.lt_size e
  | own y => obtain ⟨_, e⟩ := x; exact Heap.lt_size e
  | xd fs => obtain ⟨_, ⟨_, _, _, e, _⟩, _⟩ := x; exact Heap.lt_size e
  | rng lo hi => obtain ⟨_, _, _, e⟩ := x; exact Heap.lt_size e
  | frz ob u => obtain ⟨e, _⟩ := x; exact Heap.lt_size e
  | tbl ps => exact Heap.lt_size (show h.get? a = some _ from x)
  | met f y => exact Heap.lt_size (show h.get? a = some _ from x)
  | ext φ => obtain ⟨_, ⟨_, e⟩, _⟩ := x; exact Heap.lt_size e
theorem Paired.mapP {α β : Type} {F G : α → β → Prop} : ∀ {l₁ : List α} {l₂ : List β}, Paired F l₁ l₂ → (∀ a b, F a b → G a b) → Paired G l₁ l₂
  | _, _, .nil, _ => .nil
  | _, _, .cons r t, f => .cons (f _ _ r) (Paired.mapP t f)
/-- what an object's description leans on: its own object, its own dict, the tuples -/
theorem ObjOk.stay (x : ObjOk P w H h a o) (k : ∀ b u, (b = a ∨ H b = some (.own a)) → h.get? b = some u → h'.get? b = some u)
    (ho : ∀ b, H b = some (.own a) → H' b = some (.own a)) (ht : ∀ b xs, H b = some (.tup xs) → H' b = some (.tup xs)) : ObjOk P w H' h' a o := by
  induction o with
  | lst xs => obtain ⟨z, its, n, r, e⟩ := x; exact ⟨z, its, n, r, k _ _ (.inl rfl) e⟩
  | tup xs => obtain ⟨z, its, r, ob, e, c⟩ := x; exact ⟨z, its, r, ob, k _ _ (.inl rfl) e, c⟩
  | dK kvs => obtain ⟨z, y, vs, r, ob, es, ep, e, c⟩ := x; exact ⟨z, y, vs, r, ob, es, ep, k _ _ (.inl rfl) e, c⟩
  | dT kvs =>
    obtain ⟨z, y, xs, r, ob, es, ep, e, c⟩ := x
    exact ⟨z, y, xs, Paired.mapP r fun p q z => ⟨z.1, ht _ _ z.2.1, z.2.2⟩, ob, es, ep, k _ _ (.inl rfl) e, c⟩
  | set S n => obtain ⟨ob, es, ep, t, e, c⟩ := x; exact ⟨ob, es, ep, t, k _ _ (.inl rfl) e, c⟩
  | ins C dx fs =>
    obtain ⟨d, z, ne, e, mA, ⟨od, es, ep, e2, c⟩, r⟩ := x
    exact ⟨ho _ d, z, ne, k _ _ (.inl rfl) e, mA, ⟨od, es, ep, k _ _ (.inr d) e2, c⟩, r⟩
  | own y => obtain ⟨ob, e⟩ := x; exact ⟨ob, k _ _ (.inl rfl) e⟩
  | xd fs => obtain ⟨mA, ⟨od, es, ep, e, c⟩, r⟩ := x; exact ⟨mA, ⟨od, es, ep, k _ _ (.inl rfl) e, c⟩, r⟩
  | rng lo hi => obtain ⟨t, u, v, e⟩ := x; exact ⟨t, u, v, k _ _ (.inl rfl) e⟩
  | frz ob u ih => obtain ⟨e, q⟩ := x; exact ⟨k _ _ (.inl rfl) e, ih q⟩
  | tbl ps =>
    have e : h.get? a = some { cls := .none, data := .fields ps } := x
    show h'.get? a = some { cls := .none, data := .fields ps }
    exact k a _ (.inl rfl) e
  | met f y =>
    have e : h.get? a = some (PySem.W.methodObj (.ref f) (.ref y)) := x
    show h'.get? a = some (PySem.W.methodObj (.ref f) (.ref y))
    exact k a _ (.inl rfl) e
  | ext φ => obtain ⟨p, ⟨o, e⟩, st⟩ := x; exact ⟨st _ _ p fun o q => k _ _ (.inl rfl) q, ⟨o, k _ _ (.inl rfl) e⟩, st⟩
theorem HOk.lt (x : HOk P w H h) (e : H a = some o) : a < h.objs.size := (x a o e).lt
theorem HOk.fresh (x : HOk P w H h) (e : h.objs.size ≤ a) : H a = none := by
  cases q : H a with
  | none => rfl
  | some u => exact absurd (Nat.lt_of_lt_of_le (x.lt q) e) (Nat.lt_irrefl _)
/-- every object of the heap is kept -/
theorem HOk.kept (x : HOk P w H h) (k : ∀ b u, h.get? b = some u → h'.get? b = some u) : HOk P w H h' := fun a o e =>
  (x a o e).stay (fun b u _ q => k b u q) (fun _ q => q) fun _ _ q => q
/-- a new object is laid and tracked -/
theorem HOk.laid (x : HOk P w H h) (k : ∀ b u, h.get? b = some u → h'.get? b = some u) (hp : h.objs.size ≤ a) (new : ObjOk P w (upd H a o) h' a o) : HOk P w (upd H a o) h' := fun b u e => by
  have hn := x.fresh hp
  by_cases hb : b = a
  · subst hb; rw [upd_same] at e; cases e; exact new
  · rw [upd_ne hb] at e
    exact (x b u e).stay (fun c v _ q => k c v q) (fun c q => by rw [upd_ne (ne_of_none q hn)]; exact q) fun c xs q => by rw [upd_ne (ne_of_none q hn)]; exact q
end

/-- what may be read as u: it is u, or a known u -/
def Rd (H : Hp) (a : Addr) (u : HO) : Prop := H a = some u ∨ ∃ o, H a = some (.frz o u)
theorem Rd.ok {P : Program} {w : World} {H : Hp} {h : Heap} {a : Addr} {u : HO} (r : Rd H a u) (x : HOk P w H h) : ObjOk P w H h a u := by
  rcases r with r | ⟨o, r⟩
  · exact x a u r
  · obtain ⟨_, q⟩ := x a _ r
    exact q
/-- what may be written -/
def Mut : Option HO → Prop
  | some (.lst _) => True
  | some (.dK _) => True
  | some (.dT _) => True
  | some (.set _ _) => True
  | some (.ins _ _ _) => True
  | some (.ext _) => True
  | _ => False
section
variable {P : Program} {w : World} {H : Hp} {h h' : Heap} {x e : Addr} {o' : HO}
/-- the object at e is changed: x itself, or the dict of the instance x -/
theorem HOk.write (ok : HOk P w H h) (mu : Mut (H x)) (he : e = x ∨ H e = some (.own x)) (k : ∀ b u, b ≠ e → h.get? b = some u → h'.get? b = some u) (heo : ∃ u, h'.get? e = some u)
    (new : ObjOk P w (upd H x o') h' x o') : HOk P w (upd H x o') h' := fun b u q => by
  have nown : ∀ c y, H c = some (.own y) → c ≠ x := fun c y r z => by subst z; rw [r] at mu; exact mu
  have ntup : ∀ c xs, H c = some (.tup xs) → c ≠ x := fun c xs r z => by subst z; rw [r] at mu; exact mu
  by_cases hb : b = x
  · subst hb; rw [upd_same] at q; cases q; exact new
  · rw [upd_ne hb] at q
    by_cases hbe : b = e
    · have q' : H b = some (.own x) := by
        rcases he with z | z
        · exact absurd (hbe.trans z) hb
        · rw [hbe]; exact z
      rw [q] at q'; cases q'
      obtain ⟨v, hv⟩ := heo
      exact ⟨v, by rw [hbe]; exact hv⟩
    · refine (ok b u q).stay (fun c v hc r => k c v ?_ r) (fun c r => by rw [upd_ne (nown c b r)]; exact r) fun c xs r => by rw [upd_ne (ntup c xs r)]; exact r
      rcases hc with rfl | hc
      · exact hbe
      · rintro rfl
        rcases he with z | z
        · exact nown c b hc z
        · rw [hc] at z; cases z; exact hb rfl
end

/-! ### kept unless tracked; of the frames at fs (the callers') the slots may change (an exception that passes writes there); of the records at ex (iterators) nothing is said -/
structure Un (fs ex : List Addr) (H H' : Hp) (h h' : Heap) : Prop where
  keep : ∀ b o, h.get? b = some o → H b = none → b ∉ fs → b ∉ ex → h'.get? b = some o
  slot : ∀ b o, h.get? b = some o → H b = none → b ∈ fs → b ∉ ex → ∃ sl, h'.get? b = some { o with slots := sl }
  free : ∀ b o, h.get? b = some o → H b = none → b ∉ ex → H' b = none
  there : ∀ b o, h.get? b = some o → b ∉ ex → ∃ o', h'.get? b = some o'
  tups : ∀ b xs, H b = some (.tup xs) → H' b = some (.tup xs)
  frzs : ∀ b o u, H b = some (.frz o u) → H' b = some (.frz o u)
  tbls : ∀ b ps, H b = some (.tbl ps) → ∃ more, H' b = some (.tbl (ps ++ more))
section
variable {fs fs' ex ex' : List Addr} {H H1 H2 : Hp} {h h1 h2 h' : Heap} {a x e : Addr} {o : HO}
theorem Un.any (u : Un fs ex H H1 h h1) {b : Addr} {ob : Obj} (q : h.get? b = some ob) (n : H b = none) (hx : b ∉ ex) : ∃ sl, h1.get? b = some { ob with slots := sl } := by
  by_cases hb : b ∈ fs
  · exact u.slot b ob q n hb hx
  · exact ⟨ob.slots, u.keep b ob q n hb hx⟩
theorem Un.kept (k : ∀ b u, h.get? b = some u → h'.get? b = some u) : Un fs ex H H h h' :=
  ⟨fun b ob q _ _ _ => k b ob q, fun b ob q _ _ _ => ⟨ob.slots, k b ob q⟩, fun _ _ _ n _ => n, fun b ob q _ => ⟨ob, k b ob q⟩, fun _ _ q => q, fun _ _ _ q => q, fun _ ps q => ⟨#[], by rw [q]; simp⟩⟩
theorem Un.refl : Un fs ex H H h h := Un.kept fun _ _ q => q
theorem Un.laid (k : ∀ b u, h.get? b = some u → h'.get? b = some u) (hp : h.objs.size ≤ a) (hn : H a = none) : Un fs ex H (upd H a o) h h' where
  keep := fun b u q _ _ _ => k b u q
  slot := fun b u q _ _ _ => ⟨u.slots, k b u q⟩
  free := fun b u q n _ => by rw [upd_ne (Nat.ne_of_lt (Nat.lt_of_lt_of_le (Heap.lt_size q) hp))]; exact n
  there := fun b u q _ => ⟨u, k b u q⟩
  tups := fun b xs q => by rw [upd_ne (ne_of_none q hn)]; exact q
  frzs := fun b u xs q => by rw [upd_ne (ne_of_none q hn)]; exact q
  tbls := fun b ps q => ⟨#[], by rw [upd_ne (ne_of_none q hn), q]; simp⟩
theorem Un.write (mu : Mut (H x)) (he : e = x ∨ H e = some (.own x)) (k : ∀ b u, b ≠ e → h.get? b = some u → h'.get? b = some u) (heo : ∃ u, h'.get? e = some u) : Un fs ex H (upd H x o) h h' := by
  have hx : ∀ b, H b = none → b ≠ x := fun b n z => by subst z; rw [n] at mu; exact mu
  have hb : ∀ b, H b = none → b ≠ e := fun b n z => by
    subst z
    rcases he with r | r
    · exact hx b n r
    · rw [n] at r; cases r
  have hm : ∀ b u, H b = some u → ¬ Mut (some u) → b ≠ x := fun b u q nm z => by subst z; rw [q] at mu; exact nm mu
  refine ⟨fun b u q n _ _ => k b u (hb b n) q, fun b u q n _ _ => ⟨u.slots, k b u (hb b n) q⟩, fun b u q n _ => by rw [upd_ne (hx b n)]; exact n, fun b u q _ => ?_,
    fun b xs q => by rw [upd_ne (hm b _ q fun z => z)]; exact q, fun b u xs q => by rw [upd_ne (hm b _ q fun z => z)]; exact q, fun b ps q => ⟨#[], by rw [upd_ne (hm b _ q fun z => z), q]; simp⟩⟩
  by_cases hbe : b = e
  · subst hbe; exact heo
  · exact ⟨u, k b u hbe q⟩
end

/-! ### the heap without what is tracked -/
def trk (h : Heap) (H : Hp) : List Addr := (List.range h.objs.size).filter fun a => (H a).isSome
def hidT (h : Heap) (H : Hp) : Heap := PySem.W.hideAll h (trk h H)
theorem hidT_size (h : Heap) (H : Hp) : (hidT h H).objs.size = h.objs.size := PySem.W.hideAll_size _ _
theorem hidT_get {h : Heap} {H : Hp} {b : Addr} {o : Obj} (e : h.get? b = some o) (n : H b = none) : (hidT h H).get? b = some o :=
  PySem.W.hideAll_get _ e fun hm => by
    have q : (H b).isSome = true := (List.mem_filter.mp hm).2
    rw [n] at q; simp at q
theorem of_hidT {h : Heap} {H : Hp} {b : Addr} {o : Obj} (e : (hidT h H).get? b = some o) : h.get? b = some o ∧ H b = none := by
  have e' : h.get? b = some o := PySem.W.of_hideAll (trk h H) e
  refine ⟨e', ?_⟩
  cases q : H b with
  | none => rfl
  | some x =>
    have hm : b ∈ trk h H := List.mem_filter.mpr ⟨List.mem_range.mpr (Heap.lt_size e'), by simp [q]⟩
    have z : (hidT h H).get? b = none := PySem.W.hideAll_none (trk h H) hm
    rw [z] at e; cases e

/-! ### OpenK's ledger, filled with every new object but one -/
def allNews (g h : Heap) (L : Addr) : List (Addr × Obj) := (List.range h.objs.size).filterMap fun a => if a = L ∨ (g.get? a).isSome = true then none else (h.get? a).map fun o => (a, o)
def rest (g h : Heap) (L d : Addr) : List (Addr × Obj) := (allNews g h L).filter fun p => decide (p.1 ≠ d)
end L2

namespace L2
open PySem PySem.Spec PyProof.Rows

/-- the module's facts, over the base: the heap at the law's entry without what is tracked there -/
structure Mod (K : PySem.W.Frag) (mg : Str → Option Value) (base : Heap) : Prop where
  kin : K.In base
  glob : base.Ns mainGlobals mg
  blt : ∃ mb, base.Ns builtinsNs mb ∧ ∀ x : Str, x ≠ "__name__" → mb x = bootBuiltins x
  nolimit : base.NoLimit

/-- the context: a def's body (or a comprehension's block) running. base: fixed through the whole law; s₀, H₀: the entry; outer: the frames whose slots others may change (a def's callers); stack: all frames that run;
   ex: iterators that were made ahead of the entry and are walked here (a comprehension's); fn: the names whose cells were made at the entry (a def: all; a comprehension's block: its own); calm: not within an except suite; pn: pins that every state bears; xe: what is wanted of an exception that leaves the code -/
structure Cx where
  prog : Program
  w : World
  K : PySem.W.Frag
  mg : Str → Option Value
  base : Heap
  A : Around
  N : List Str
  s₀ : Shared
  H₀ : Hp
  env : Env
  outer : List Env
  stack : List Env
  ex : List Addr
  fn : Str → Bool
  calm : Bool
  pn : List (Addr × Obj)
  xe : Value → Shared → Prop
/-- the callers' frames -/
def frs (l : List Env) : List Addr := l.filterMap (·.frame)
abbrev Cx.fs (X : Cx) : List Addr := frs X.outer

def Vis (sc : Scope) (x : Str) : Prop := sc.names.lookup x = some .local ∨ sc.names.lookup x = some .cell ∨ sc.names.lookup x = some .free
def Loc (sc : Scope) (x : Str) : Prop := sc.names.lookup x = some .local ∨ sc.names.lookup x = some .cell
def Look (env : Env) (h : Heap) (m : Str → Option Value) (x : Str) (u : Value) : Prop :=
  (env.kindOf x = some .local ∧ m x = some u) ∨ ((env.kindOf x = some .cell ∨ env.kindOf x = some .free) ∧ ∃ c, env.cells.lookup x = some c ∧ h.IsCell c (some u))

structure Cx.Ok (X : Cx) : Prop where
  mod : Mod X.K X.mg X.base
  kind : X.env.scope.kind = .function
  glob : X.env.globals = mainGlobals
  blt : X.env.builtins = builtinsNs
  above : X.s₀.heap.objs.size ≤ X.env.locals
  inj : ∀ x y c, X.env.cells.lookup x = some c → X.env.cells.lookup y = some c → x = y
  has : ∀ x, (X.env.kindOf x = some .cell ∨ X.env.kindOf x = some .free) → ∃ c, X.env.cells.lookup x = some c
  cab : ∀ x c, X.fn x = true → X.env.cells.lookup x = some c → X.s₀.heap.objs.size ≤ c
  hd : X.calm = true → X.A.handled = none
  frames : X.A.frames = some X.stack
  stk : X.stack = X.outer ∨ (X.stack = X.env :: X.outer ∧ X.env.frame = some X.env.locals)
  exf : ∀ b ∈ X.ex, b ≠ X.env.locals ∧ ∀ x c, X.env.cells.lookup x = some c → c ≠ b
  bs : ∀ b o, X.base.get? b = some o → X.s₀.heap.get? b = some o ∧ X.H₀ b = none
  bsz : X.base.objs.size ≤ X.s₀.heap.objs.size
  noex : ∀ b o, X.base.get? b = some o → b ∉ X.ex
  exfs : ∀ b ∈ X.ex, b ∉ X.fs
  funs : X.s₀.heap.FunFrames X.base X.outer
  frf : ∀ b ∈ X.fs, X.H₀ b = none

structure Inv (X : Cx) (pins : List (Addr × Obj)) (σ : List (Option V)) (H : Hp) (s : Shared) : Prop where
  ok : X.Ok
  os : s.os = X.s₀.os
  bare : AllBare s.gens
  base : Un X.fs X.ex X.H₀ H X.s₀.heap s.heap
  loc : ∃ m, s.heap.Ns X.env.locals m ∧ ∀ (i : Nat) (x : Str) (v : V), X.N[i]? = some x → σ[i]? = some (some v) → Vis X.env.scope x → ∃ u, RelV v u ∧ Look X.env s.heap m x u
  cell : ∀ x c, X.env.cells.lookup x = some c → ∃ v, s.heap.IsCell c v
  free : H X.env.locals = none
  freeC : ∀ x c, X.env.cells.lookup x = some c → H c = none
  pin : ∀ p ∈ X.pn ++ pins, s.heap.get? p.1 = some p.2 ∧ H p.1 = none ∧ p.1 ≠ X.env.locals ∧ p.1 ∉ X.fs ∧ ∀ v, p.2.data ≠ .cell v
  hok : HOk X.prog X.w H s.heap
  len : σ.length = X.N.length

section
variable {X : Cx} {pins : List (Addr × Obj)} {σ : List (Option V)} {H H' : Hp} {s : Shared} {h' : Heap}

theorem Cx.Ok.nofr (ok : X.Ok) {b : Addr} {o : Obj} (e : X.base.get? b = some o) : b ∉ X.fs := fun hb => by
  have := (ok.funs.mem hb).1
  rw [e] at this; cases this
theorem Inv.bs (I : Inv X pins σ H s) : ∀ b o, X.base.get? b = some o → s.heap.get? b = some o ∧ H b = none := fun b o e =>
  ⟨I.base.keep b o (I.ok.bs b o e).1 (I.ok.bs b o e).2 (I.ok.nofr e) (I.ok.noex b o e), I.base.free b o (I.ok.bs b o e).1 (I.ok.bs b o e).2 (I.ok.noex b o e)⟩
theorem Inv.bk (I : Inv X pins σ H s) : ∀ b o, X.base.get? b = some o → s.heap.get? b = some o := fun b o e => (I.bs b o e).1
theorem Inv.mod (I : Inv X pins σ H s) : Mod X.K X.mg X.base := I.ok.mod
theorem Inv.kIn (I : Inv X pins σ H s) : X.K.In s.heap := I.ok.mod.kin.keeps I.bk
theorem Inv.lt (I : Inv X pins σ H s) : X.env.locals < s.heap.objs.size := let ⟨_, hn, _⟩ := I.loc; hn.lt
theorem Inv.sz (I : Inv X pins σ H s) : X.s₀.heap.objs.size ≤ s.heap.objs.size := Nat.le_trans I.ok.above (Nat.le_of_lt I.lt)
theorem Inv.nofs (I : Inv X pins σ H s) {a : Addr} (h : s.heap.objs.size ≤ a) : a ∉ X.fs := fun hb => by
  obtain ⟨_, o, ho, _⟩ := I.ok.funs.mem hb
  exact absurd (Nat.lt_of_lt_of_le (Heap.lt_size ho) (Nat.le_trans I.sz h)) (Nat.lt_irrefl _)
theorem Inv.cne (I : Inv X pins σ H s) : ∀ x c, X.env.cells.lookup x = some c → c ≠ X.env.locals := fun x c e z => by
  obtain ⟨v, o, ho, hd⟩ := I.cell x c e
  obtain ⟨m, ⟨o', es, ep, ho', hd', _⟩, _⟩ := I.loc
  rw [z, ho'] at ho; cases ho; rw [hd'] at hd; cases hd
theorem Inv.funs (I : Inv X pins σ H s) : s.heap.FunFrames X.base X.outer := by
  have all : ∀ (l : List Env), (∀ b ∈ frs l, b ∈ X.fs) → X.s₀.heap.FunFrames X.base l → s.heap.FunFrames X.base l := by
    intro l
    induction l with
    | nil => intro _ _; trivial
    | cons env r ih =>
      intro hs hl
      obtain ⟨hk, ⟨L, o, hf, hn, ho, hd⟩, hr⟩ := hl
      have hL : L ∈ X.fs := hs L (by unfold frs; rw [List.filterMap_cons, hf]; exact List.mem_cons_self)
      obtain ⟨sl, e⟩ := I.base.slot L o ho (I.ok.frf L hL) hL fun z => I.ok.exfs L z hL
      exact ⟨hk, ⟨L, _, hf, hn, e, hd⟩, ih (fun b hb => hs b (by unfold frs; rw [List.filterMap_cons, hf]; exact List.mem_cons_of_mem _ hb)) hr⟩
  exact all X.outer (fun _ hb => hb) I.ok.funs

/-- the frames that run, for a call -/
theorem Inv.stack (I : Inv X pins σ H s) : s.heap.FunFrames X.base X.stack := by
  rcases I.ok.stk with e | ⟨e, hf⟩
  · rw [e]; exact I.funs
  · rw [e]
    obtain ⟨m, hn, _⟩ := I.loc
    refine .cons (by rw [I.ok.kind]; decide) hf hn ?_ I.funs
    exact Heap.get?_none_of_le (Nat.le_trans I.ok.bsz I.ok.above)
theorem Inv.stkSub (I : Inv X pins σ H s) : ∀ b ∈ frs X.stack, b ∈ X.env.locals :: X.fs := fun b hb => by
  rcases I.ok.stk with e | ⟨e, hf⟩
  · rw [e] at hb; exact List.mem_cons_of_mem _ hb
  · rw [e] at hb
    unfold frs at hb
    rw [List.filterMap_cons, hf] at hb
    exact hb
theorem Inv.stkFree (I : Inv X pins σ H s) : ∀ b ∈ frs X.stack, H b = none := fun b hb => by
  rcases List.mem_cons.mp (I.stkSub b hb) with e | hb
  · rw [e]; exact I.free
  · obtain ⟨_, o, ho, _⟩ := I.ok.funs.mem hb
    exact I.base.free b o ho (I.ok.frf b hb) fun z => I.ok.exfs b z hb

/-- THE STEP: the untracked objects but the frame and the records at ch are kept (the callers' frames up to slots), the frame's map is kept, the new abstract heap is held -/
theorem Inv.step {g' : Array GenState} {t' : Nat} {d' : Drawn} {ch : List Addr} (I : Inv X pins σ H s)
    (hch : ∀ b ∈ ch, (b ∈ X.ex ∨ X.s₀.heap.objs.size ≤ b) ∧ b ≠ X.env.locals ∧ (∀ x c, X.env.cells.lookup x = some c → c ≠ b) ∧ ∀ p ∈ X.pn ++ pins, p.1 ≠ b)
    (keep : ∀ b o, b ≠ X.env.locals → b ∉ X.fs → b ∉ ch → s.heap.get? b = some o → H b = none → h'.get? b = some o)
    (slot : ∀ b o, b ≠ X.env.locals → b ∈ X.fs → b ∉ ch → s.heap.get? b = some o → H b = none → ∃ sl, h'.get? b = some { o with slots := sl }) (free : ∀ b o, b ∉ ch → s.heap.get? b = some o → H b = none → H' b = none)
    (there : ∀ b o, b ∉ ch → s.heap.get? b = some o → ∃ o', h'.get? b = some o')
    (tups : ∀ b xs, H b = some (.tup xs) → H' b = some (.tup xs)) (frzs : ∀ b o u, H b = some (.frz o u) → H' b = some (.frz o u)) (tbls : ∀ b ps, H b = some (.tbl ps) → ∃ more, H' b = some (.tbl (ps ++ more)))
    (ns : ∀ m, s.heap.Ns X.env.locals m → h'.Ns X.env.locals m) (hok : HOk X.prog X.w H' h') (hg : AllBare g') :
    Inv X pins σ H' { s with heap := h', gens := g', drawn := d', toks := t' } := by
  have neL : ∀ b o, X.s₀.heap.get? b = some o → b ≠ X.env.locals := fun b o e => Nat.ne_of_lt (Nat.lt_of_lt_of_le (Heap.lt_size e) I.ok.above)
  have neC : ∀ b o, X.s₀.heap.get? b = some o → b ∉ X.ex → b ∉ ch := fun b o e hx hb => by
    rcases (hch b hb).1 with z | z
    · exact hx z
    · exact absurd (Nat.lt_of_lt_of_le (Heap.lt_size e) z) (Nat.lt_irrefl _)
  have cellK : ∀ x c, X.env.cells.lookup x = some c → ∀ v, s.heap.IsCell c v → h'.IsCell c v := fun x c e v ⟨o, ho, hd⟩ => by
    have nch : c ∉ ch := fun z => (hch c z).2.2.1 x c e rfl
    by_cases hc : c ∈ X.fs
    · obtain ⟨sl, q⟩ := slot c o (I.cne x c e) hc nch ho (I.freeC x c e)
      exact ⟨_, q, hd⟩
    · exact ⟨o, keep c o (I.cne x c e) hc nch ho (I.freeC x c e), hd⟩
  refine ⟨I.ok, I.os, hg, ⟨fun b o e n hb hx => ?_, fun b o e n hb hx => ?_, fun b o e n hx => ?_, fun b o e hx => ?_, fun b xs e => tups b xs (I.base.tups b xs e), fun b o xs e => frzs b o xs (I.base.frzs b o xs e), fun b ps e => ?_⟩, ?_, fun x c e => ?_, ?_, fun x c e => ?_, fun p hp => ?_, hok, I.len⟩
  · exact keep b o (neL b o e) hb (neC b o e hx) (I.base.keep b o e n hb hx) (I.base.free b o e n hx)
  · obtain ⟨sl, e1⟩ := I.base.slot b o e n hb hx
    obtain ⟨sl', e2⟩ := slot b _ (neL b o e) hb (neC b o e hx) e1 (I.base.free b o e n hx)
    exact ⟨sl', e2⟩
  · obtain ⟨o', e1⟩ := I.base.there b o e hx
    exact free b o' (neC b o e hx) e1 (I.base.free b o e n hx)
  · obtain ⟨o', e1⟩ := I.base.there b o e hx
    exact there b o' (neC b o e hx) e1
  · obtain ⟨m1, e1⟩ := I.base.tbls b ps e
    obtain ⟨m2, e2⟩ := tbls b _ e1
    exact ⟨m1 ++ m2, by rw [e2, Array.append_assoc]⟩
  · obtain ⟨m, hn, hl⟩ := I.loc
    refine ⟨m, ns m hn, fun i x v e1 e2 e3 => ?_⟩
    obtain ⟨u, r, l⟩ := hl i x v e1 e2 e3
    refine ⟨u, r, ?_⟩
    rcases l with l | ⟨k, c, e, z⟩
    · exact .inl l
    · exact .inr ⟨k, c, e, cellK x c e _ z⟩
  · obtain ⟨v, z⟩ := I.cell x c e
    exact ⟨v, cellK x c e v z⟩
  · obtain ⟨m, ⟨o, _, _, ho, _⟩, _⟩ := I.loc
    exact free _ o (fun z => (hch _ z).2.1 rfl) ho I.free
  · obtain ⟨v, o, ho, hd⟩ := I.cell x c e
    exact free c o (fun z => (hch c z).2.2.1 x c e rfl) ho (I.freeC x c e)
  · obtain ⟨e, n, ne, nf, d⟩ := I.pin p hp
    have nch : p.1 ∉ ch := fun z => (hch p.1 z).2.2.2 p hp rfl
    exact ⟨keep p.1 p.2 ne nf nch e n, free p.1 p.2 nch e n, ne, nf, d⟩
/-- .. where the frame's own object is kept too -/
theorem Inv.un {t' : Nat} (I : Inv X pins σ H s) (u : Un X.fs [] H H' s.heap h') (hok : HOk X.prog X.w H' h') : Inv X pins σ H' { s with heap := h', toks := t' } := by
  obtain ⟨m, ⟨o, es, ep, ho, r⟩, _⟩ := id I.loc
  obtain ⟨sl, hL⟩ := u.any ho I.free (by simp)
  exact I.step (g' := s.gens) (d' := s.drawn) (ch := []) (fun _ z => nomatch z) (fun b o _ hb _ e n => u.keep b o e n hb (by simp)) (fun b o _ hb _ e n => u.slot b o e n hb (by simp)) (fun b o _ e n => u.free b o e n (by simp)) (fun b o _ e => u.there b o e (by simp)) u.tups u.frzs u.tbls (fun m' hm => by
    obtain ⟨o', es', ep', ho', r'⟩ := hm
    rw [ho] at ho'; cases ho'
    exact ⟨_, es', ep', hL, r'⟩) hok I.bare
/-- behind a call (or a comprehension's block): the slots of this frame may have changed too, the records at ch may have turned -/
theorem Inv.call {g' : Array GenState} {t' : Nat} {d' : Drawn} {ch : List Addr} (I : Inv X pins σ H s) (u : Un (frs X.stack) ch H H' s.heap h') (hok : HOk X.prog X.w H' h') (hg : AllBare g')
    (hch : ∀ b ∈ ch, (b ∈ X.ex ∨ X.s₀.heap.objs.size ≤ b) ∧ b ≠ X.env.locals ∧ (∀ x c, X.env.cells.lookup x = some c → c ≠ b) ∧ ∀ p ∈ X.pn ++ pins, p.1 ≠ b) :
    Inv X pins σ H' { s with heap := h', gens := g', drawn := d', toks := t' } := by
  obtain ⟨m, ⟨o, es, ep, ho, r⟩, _⟩ := id I.loc
  obtain ⟨sl, hL⟩ := u.any ho I.free fun z => (hch _ z).2.1 rfl
  exact I.step (ch := ch) hch (fun b o hL hb hc e n => u.keep b o e n (fun z => (List.mem_cons.mp (I.stkSub b z)).elim hL hb) hc) (fun b o _ _ hc e n => u.any e n hc) (fun b o hc e n => u.free b o e n hc) (fun b o hc e => u.there b o e hc) u.tups u.frzs u.tbls (fun m' hm => by
    obtain ⟨o', es', ep', ho', r'⟩ := hm
    rw [ho] at ho'; cases ho'
    exact ⟨_, es', ep', hL, r'⟩) hok hg
/-- an untracked record of ours (an iterator) has turned -/
theorem Inv.turned {t' : Nat} {it : Addr} (I : Inv X pins σ H s) (k : ∀ b o, b ≠ it → s.heap.get? b = some o → h'.get? b = some o) (hn : H it = none) (hL : it ≠ X.env.locals)
    (h1 : it ∈ X.ex ∨ X.s₀.heap.objs.size ≤ it) (h2 : ∀ x c, X.env.cells.lookup x = some c → c ≠ it) (h3 : ∀ p ∈ X.pn ++ pins, p.1 ≠ it) : Inv X pins σ H { s with heap := h', toks := t' } := by
  have nit : ∀ b u, H b = some u → b ≠ it := fun b u e z => by rw [z, hn] at e; cases e
  refine I.step (g' := s.gens) (d' := s.drawn) (ch := [it]) (fun b hb => ?_) (fun b o _ _ hc e _ => k b o (fun z => hc (by simp [z])) e) (fun b o _ _ hc e _ => ⟨o.slots, k b o (fun z => hc (by simp [z])) e⟩) (fun _ _ _ _ n => n)
    (fun b o hc e => ⟨o, k b o (fun z => hc (by simp [z])) e⟩) (fun _ _ e => e) (fun _ _ _ e => e) (fun b ps e => ⟨#[], by rw [e]; simp⟩) (fun m hm => ?_) (fun b u e => ?_) I.bare
  · have e : b = it := by simpa using hb
    subst e
    exact ⟨h1, hL, h2, h3⟩
  · obtain ⟨o, es, ep, ho, r⟩ := hm
    exact ⟨o, es, ep, k _ o (Ne.symm hL) ho, r⟩
  · refine (I.hok b u e).stay (fun c v hc q => k c v ?_ q) (fun _ q => q) fun _ _ q => q
    rcases hc with z | z
    · rw [z]; exact nit b u e
    · exact nit c _ z
theorem Inv.tok (I : Inv X pins σ H s) (t : Nat) : Inv X pins σ H { s with toks := t } := I.un (h' := s.heap) (t' := t) Un.refl I.hok
/-- all objects kept -/
theorem Inv.kept {t' : Nat} (I : Inv X pins σ H s) (k : ∀ b u, s.heap.get? b = some u → h'.get? b = some u) : Inv X pins σ H { s with heap := h', toks := t' } := I.un (Un.kept k) (I.hok.kept k)
/-- a new object laid and tracked -/
theorem Inv.laid {a : Addr} {o : HO} {t' : Nat} (I : Inv X pins σ H s) (k : ∀ b u, s.heap.get? b = some u → h'.get? b = some u) (hp : s.heap.objs.size ≤ a) (new : ObjOk X.prog X.w (upd H a o) h' a o) :
    Inv X pins σ (upd H a o) { s with heap := h', toks := t' } := I.un (Un.laid k hp (I.hok.fresh hp)) (I.hok.laid k hp new)
/-- an object written -/
theorem Inv.write {x e : Addr} {o : HO} {t' : Nat} (I : Inv X pins σ H s) (mu : Mut (H x)) (he : e = x ∨ H e = some (.own x)) (k : ∀ b u, b ≠ e → s.heap.get? b = some u → h'.get? b = some u) (heo : ∃ u, h'.get? e = some u)
    (new : ObjOk X.prog X.w (upd H x o) h' x o) : Inv X pins σ (upd H x o) { s with heap := h', toks := t' } := I.un (Un.write mu he k heo) (I.hok.write mu he k heo new)
/-- forgetting slots, pins -/
theorem Inv.weak {σ' : List (Option V)} (I : Inv X pins σ H s) (hl : σ'.length = σ.length) (w : ∀ (i : Nat) v, σ'[i]? = some (some v) → σ[i]? = some (some v)) : Inv X pins σ' H s :=
  ⟨I.ok, I.os, I.bare, I.base, let ⟨m, hn, hl'⟩ := I.loc; ⟨m, hn, fun i x v e1 e2 e3 => hl' i x v e1 (w i v e2) e3⟩, I.cell, I.free, I.freeC, I.pin, I.hok, hl.trans I.len⟩
theorem Inv.pins_of {pins' : List (Addr × Obj)} (I : Inv X pins σ H s) (h : ∀ p ∈ pins', s.heap.get? p.1 = some p.2 ∧ H p.1 = none ∧ p.1 ≠ X.env.locals ∧ p.1 ∉ X.fs ∧ ∀ v, p.2.data ≠ .cell v) : Inv X pins' σ H s :=
  ⟨I.ok, I.os, I.bare, I.base, I.loc, I.cell, I.free, I.freeC, fun p hp => (List.mem_append.mp hp).elim (fun z => I.pin p (List.mem_append_left _ z)) (h p), I.hok, I.len⟩

theorem nodup_ix {N : List Str} (hN : N.Nodup) {i j : Nat} {x : Str} (a : N[i]? = some x) (b : N[j]? = some x) : i = j := by
  obtain ⟨h1, e1⟩ := List.getElem?_eq_some_iff.mp a
  obtain ⟨h2, e2⟩ := List.getElem?_eq_some_iff.mp b
  exact (List.getElem_inj hN).mp (e1.trans e2.symm)

/-- a name is stored; what changed -/
theorem store_ok2 {M : Model} {A : Around} {E : Value → Shared → Prop} {i : Nat} {x : Str} {v : V} {u : Value} {Q : Unit → Shared → Prop} (I : Inv X pins σ H s) (hN : X.N.Nodup) (hi : X.N[i]? = some x) (hx : Loc X.env.scope x) (r : RelV v u)
    (h : ∀ s', Inv X pins (σ.set i (some v)) H s' → (∃ a, Heap.SameBut a s.heap s'.heap ∧ (a = X.env.locals ∨ X.env.cells.lookup x = some a)) → Q () s') (hf : X.fn x = true ∨ X.env.scope.names.lookup x = some .local := by first | exact .inl rfl | exact .inr rfl | assumption) : wpAny M A (storeName X.env x u) Q E s := by
  obtain ⟨m, hn, hl⟩ := id I.loc
  have hcls : (X.env.scope.kind == .class || (X.env.scope.kind == .module && X.env.locals != X.env.globals)) = false := by rw [I.ok.kind]; rfl
  have hiσ : i < σ.length := by rw [I.len]; exact (List.getElem?_eq_some_iff.mp hi).1
  have cne := I.cne
  have tracked : ∀ {a : Addr} {h' : Heap}, (∃ o, s.heap.get? a = some o ∧ H a = none) → Heap.SameBut a s.heap h' → HOk X.prog X.w H h' := fun {a h'} ha hs b ob e => by
    obtain ⟨_, _, hfree⟩ := ha
    refine (I.hok b ob e).stay (fun c w' hc q => (hs.2 c ?_).trans q) (fun _ q => q) fun _ _ q => q
    rintro rfl
    rcases hc with rfl | hc
    · rw [hfree] at e; cases e
    · rw [hfree] at hc; cases hc
  rcases hx with hk | hk
  · refine wpAny_storeName_local hk hn (fun h' hn' hs => ?_) hcls
    obtain ⟨oL, _, _, hoL, _⟩ := id hn
    refine h _ ⟨I.ok, I.os, I.bare, ⟨fun b o e n hb hx => ?_, fun b o e n hb hx => ?_, I.base.free, fun b o e hx => ?_, I.base.tups, I.base.frzs, I.base.tbls⟩, ⟨_, hn', fun j y v' e1 e2 e3 => ?_⟩, fun y c e => ?_, I.free, I.freeC, fun p hp => ?_, tracked ⟨oL, hoL, I.free⟩ hs, by simpa using I.len⟩ ⟨_, hs, .inl rfl⟩
    · exact (hs.2 b (Nat.ne_of_lt (Nat.lt_of_lt_of_le (Heap.lt_size e) I.ok.above))).trans (I.base.keep b o e n hb hx)
    · obtain ⟨sl, e1⟩ := I.base.slot b o e n hb hx
      exact ⟨sl, (hs.2 b (Nat.ne_of_lt (Nat.lt_of_lt_of_le (Heap.lt_size e) I.ok.above))).trans e1⟩
    · obtain ⟨o', e1⟩ := I.base.there b o e hx
      exact ⟨o', (hs.2 b (Nat.ne_of_lt (Nat.lt_of_lt_of_le (Heap.lt_size e) I.ok.above))).trans e1⟩
    · by_cases hj : j = i
      · subst hj
        rw [hi] at e1; cases e1
        rw [List.getElem?_set_self hiσ] at e2
        cases e2
        exact ⟨u, r, .inl ⟨hk, by simp⟩⟩
      · rw [List.getElem?_set_ne (Ne.symm hj)] at e2
        obtain ⟨u', r', q⟩ := hl j y v' e1 e2 e3
        refine ⟨u', r', ?_⟩
        rcases q with ⟨k, e⟩ | ⟨k, c, e, z⟩
        · refine .inl ⟨k, ?_⟩
          have : y ≠ x := fun e => hj (nodup_ix hN e1 (e ▸ hi))
          simp [this, e]
        · exact .inr ⟨k, c, e, z.sameBut hs (cne y c e)⟩
    · obtain ⟨w', z⟩ := I.cell y c e
      exact ⟨w', z.sameBut hs (cne y c e)⟩
    · obtain ⟨e, n, ne, nf, d⟩ := I.pin p hp
      exact ⟨(hs.2 p.1 ne).trans e, n, ne, nf, d⟩
  · have hfn : X.fn x = true := by
      rcases hf with z | z
      · exact z
      · rw [z] at hk; cases hk
    obtain ⟨c, hc⟩ := I.ok.has x (.inl hk)
    obtain ⟨w', z⟩ := I.cell x c hc
    refine wpAny_storeName_cell I.ok.kind hk hc z (fun h' hc' hs => ?_)
    obtain ⟨oc, hoc, hocd⟩ := id z
    refine h { s with heap := h' } ⟨I.ok, I.os, I.bare, ⟨fun b o e n hb hx => ?_, fun b o e n hb hx => ?_, I.base.free, fun b o e hx => ?_, I.base.tups, I.base.frzs, I.base.tbls⟩, ⟨m, hn.sameBut hs (Ne.symm (cne x c hc)), fun j y v' e1 e2 e3 => ?_⟩, fun y c' e => ?_, I.free, I.freeC, fun p hp => ?_, tracked ⟨oc, hoc, I.freeC x c hc⟩ hs, by simpa using I.len⟩ ⟨c, hs, .inr hc⟩
    · exact (hs.2 b (Nat.ne_of_lt (Nat.lt_of_lt_of_le (Heap.lt_size e) (I.ok.cab x c hfn hc)))).trans (I.base.keep b o e n hb hx)
    · obtain ⟨sl, e1⟩ := I.base.slot b o e n hb hx
      exact ⟨sl, (hs.2 b (Nat.ne_of_lt (Nat.lt_of_lt_of_le (Heap.lt_size e) (I.ok.cab x c hfn hc)))).trans e1⟩
    · obtain ⟨o', e1⟩ := I.base.there b o e hx
      exact ⟨o', (hs.2 b (Nat.ne_of_lt (Nat.lt_of_lt_of_le (Heap.lt_size e) (I.ok.cab x c hfn hc)))).trans e1⟩
    · by_cases hj : j = i
      · subst hj
        rw [hi] at e1; cases e1
        rw [List.getElem?_set_self hiσ] at e2
        cases e2
        exact ⟨u, r, .inr ⟨.inl hk, c, hc, hc'⟩⟩
      · rw [List.getElem?_set_ne (Ne.symm hj)] at e2
        obtain ⟨u', r', q⟩ := hl j y v' e1 e2 e3
        refine ⟨u', r', ?_⟩
        rcases q with q | ⟨k, c', e, z'⟩
        · exact .inl q
        · refine .inr ⟨k, c', e, z'.sameBut hs ?_⟩
          rintro rfl
          exact hj (nodup_ix hN e1 (I.ok.inj _ _ _ e hc ▸ hi))
    · by_cases hcc : c' = c
      · subst hcc; exact ⟨_, hc'⟩
      · obtain ⟨w2, z2⟩ := I.cell y c' e
        exact ⟨w2, z2.sameBut hs hcc⟩
    · obtain ⟨e, n, ne, nf, d⟩ := I.pin p hp
      refine ⟨(hs.2 p.1 ?_).trans e, n, ne, nf, d⟩
      intro q
      rw [q, hoc] at e
      have q' : oc = p.2 := Option.some.inj e
      exact d w' (by rw [← q']; exact hocd)
theorem store_ok {M : Model} {A : Around} {E : Value → Shared → Prop} {i : Nat} {x : Str} {v : V} {u : Value} {Q : Unit → Shared → Prop} (I : Inv X pins σ H s) (hN : X.N.Nodup) (hi : X.N[i]? = some x) (hx : Loc X.env.scope x) (r : RelV v u)
    (h : ∀ s', Inv X pins (σ.set i (some v)) H s' → Q () s') (hf : X.fn x = true ∨ X.env.scope.names.lookup x = some .local := by first | exact .inl rfl | exact .inr rfl | assumption) : wpAny M A (storeName X.env x u) Q E s :=
  store_ok2 I hN hi hx r (fun s' I' _ => h s' I') hf
/-- behind a call or a block, the state as it is -/
theorem Inv.call' {s' : Shared} {ch : List Addr} (I : Inv X pins σ H s) (ho : s'.os = s.os) (u : Un (frs X.stack) ch H H' s.heap s'.heap) (hok : HOk X.prog X.w H' s'.heap) (hg : AllBare s'.gens)
    (hch : ∀ b ∈ ch, (b ∈ X.ex ∨ X.s₀.heap.objs.size ≤ b) ∧ b ≠ X.env.locals ∧ (∀ x c, X.env.cells.lookup x = some c → c ≠ b) ∧ ∀ p ∈ X.pn ++ pins, p.1 ≠ b) : Inv X pins σ H' s' := by
  obtain ⟨h', g', d', t', o'⟩ := s'
  have e : o' = s.os := ho
  subst e
  exact I.call (g' := g') (t' := t') (d' := d') u hok hg hch
end

/-! ### the judgements -/
/-- an exception: its class, its own dict's address (where it has one), the abstract heap behind it -/
abbrev XK := Value → Option Addr → Hp → Prop
abbrev St := List (Option V)
abbrev VK := V → Hp → Prop
/-- an expression's reading; a test's; an argument list's -/
abbrev TE := St → Hp → VK → Prop
abbrev TT := St → Hp → (Bool → Hp → Prop) → Prop
abbrev TA := St → Hp → (List V → Hp → Prop) → Prop
/-- what is wanted behind a statement -/
structure Ends where
  nx : St → Hp → Prop
  rt : VK
  bk : St → Hp → Prop := fun _ _ => False
  ct : St → Hp → Prop := fun _ _ => False
abbrev TS := Ends → St → Hp → Prop

def EP (X : Cx) (pins : List (Addr × Obj)) (σ : St) (Q : VK) (u : Value) (s' : Shared) : Prop := ∃ v H', Inv X pins σ H' s' ∧ RelV v u ∧ Q v H'
def TP (X : Cx) (pins : List (Addr × Obj)) (σ : St) (Q : Bool → Hp → Prop) (b : Bool) (s' : Shared) : Prop := ∃ H', Inv X pins σ H' s' ∧ Q b H'
def AP (X : Cx) (pins : List (Addr × Obj)) (σ : St) (Q : List V → Hp → Prop) (us : List Value) (s' : Shared) : Prop := ∃ vs H', Inv X pins σ H' s' ∧ Vals vs us ∧ Q vs H'
def SP (X : Cx) (pins : List (Addr × Obj)) (D : Ends) (f : Flow) (s' : Shared) : Prop :=
  match f with
  | .next => ∃ σ' H', Inv X pins σ' H' s' ∧ D.nx σ' H'
  | .brk => ∃ σ' H', Inv X pins σ' H' s' ∧ D.bk σ' H'
  | .cont => ∃ σ' H', Inv X pins σ' H' s' ∧ D.ct σ' H'
  | .ret u => ∃ v σ' H', Inv X pins σ' H' s' ∧ RelV v u ∧ D.rt v H'

def PE (X : Cx) (e : Expr) (t : TE) : Prop :=
  ∀ (pins : List (Addr × Obj)) (s : Shared) (σ : St) (H : Hp) (Q : VK), Inv X pins σ H s → t σ H Q → wpAny (model X.prog X.w) X.A (eval e X.env) (EP X pins σ Q) X.xe s
def PT (X : Cx) (e : Expr) (t : TT) : Prop :=
  ∀ (pins : List (Addr × Obj)) (s : Shared) (σ : St) (H : Hp) (Q : Bool → Hp → Prop), Inv X pins σ H s → t σ H Q → wpAny (model X.prog X.w) X.A (isTrue e X.env (eval e X.env)) (TP X pins σ Q) X.xe s
/-- a test whatever its 'whole' is (and, or) -/
def PW (X : Cx) (e : Expr) (t : TT) : Prop :=
  ∀ (whole : Sem Value) (pins : List (Addr × Obj)) (s : Shared) (σ : St) (H : Hp) (Q : Bool → Hp → Prop), Inv X pins σ H s → t σ H Q → wpAny (model X.prog X.w) X.A (isTrue e X.env whole) (TP X pins σ Q) X.xe s
theorem PW.pt {X : Cx} {e : Expr} {t : TT} (h : PW X e t) : PT X e t := h _
/-- an argument list (no star), from the left -/
def PA (X : Cx) (es : List Expr) (t : TA) : Prop :=
  ∀ (pos : Pos) (pins : List (Addr × Obj)) (s : Shared) (σ : St) (H : Hp) (Q : List V → Hp → Prop), Inv X pins σ H s → t σ H Q → wpAny (model X.prog X.w) X.A (spliced (backTo pos (starEach es X.env))) (AP X pins σ Q) X.xe s
def PS (X : Cx) (st : Stmt) (t : TS) : Prop :=
  ∀ (pins : List (Addr × Obj)) (s : Shared) (σ : St) (H : Hp) (D : Ends), Inv X pins σ H s → t D σ H → wpAny (model X.prog X.w) X.A (exec st X.env) (SP X pins D) X.xe s
def PSs (X : Cx) (st : List Stmt) (t : TS) : Prop :=
  ∀ (pins : List (Addr × Obj)) (s : Shared) (σ : St) (H : Hp) (D : Ends), Inv X pins σ H s → t D σ H → wpAny (model X.prog X.w) X.A (execs st X.env) (SP X pins D) X.xe s
/-- weaken the end -/
theorem thn {α : Type} {t : Sem α} {Q Q' : α → Shared → Prop} {M : Model} {A : Around} {E : Value → Shared → Prop} {s : Shared} (h : wpAny M A t Q E s) (hQ : ∀ a s, Q a s → Q' a s) : wpAny M A t Q' E s := wpAny_mono h hQ fun _ _ x => x
end L2

namespace L2
open PySem PySem.Spec PyProof.Rows
section
variable {X : Cx}

/-! ### names and constants -/
def tVar (i : Nat) : TE := fun σ H Q => ∃ v, σ[i]? = some (some v) ∧ Q v H
def tC (v : V) : TE := fun _ H Q => Q v H
theorem pe_var {i : Nat} {x : Str} {pos : Pos} (hN : X.N[i]? = some x) (hv : Vis X.env.scope x) (hd : (x == ("__debug__" : Str)) = false := by decide) (hcd : (x == ("__classdict__" : Str)) = false := by decide) : PE X (.Name x pos) (tVar i) := by
  intro pins s σ H Q I h
  obtain ⟨v, e, h⟩ := h
  obtain ⟨m, hn, hl⟩ := I.loc
  obtain ⟨u, r, l⟩ := hl i x v hN e hv
  have fin : EP X pins σ Q u s := ⟨v, H, I, r, h⟩
  rcases l with ⟨hk, hm⟩ | ⟨hk, c, hc, hcell⟩
  · exact wpAny_Name (wpAny_loadName_local I.ok.kind hk hn hm fin) hd
  · rcases hk with hk | hk
    · exact wpAny_Name (wpAny_loadName_cell I.ok.kind hk hc hcell fin) hd
    · exact wpAny_Name (wpAny_loadName_free I.ok.kind hk hc hcell fin hcd) hd
theorem pe_int {i j pos} : PE X (.Constant (.int i) j pos) (tC (.int i)) := fun _ _ _ H _ I h => wpAny_Constant_int ⟨.int i, H, I.tok _, ⟨_, rfl⟩, h⟩
theorem pe_bl {b j pos} : PE X (.Constant (.bool b) j pos) (tC (.bl b)) := fun _ _ _ H _ I h => Constant_bool ⟨.bl b, H, I, rfl, h⟩
theorem pe_non {j pos} : PE X (.Constant .none j pos) (tC .non) := fun _ _ _ H _ I h => Constant_none ⟨.non, H, I, rfl, h⟩
/-- a global name of the def -/
def Gl (X : Cx) (x : Str) : Prop := X.env.kindOf x = some .globalImplicit
theorem ld_glob {E : Value → Shared → Prop} {pins : List (Addr × Obj)} {s : Shared} {σ : St} {H : Hp} {x : Str} {u : Value} {pos : Pos} {Q : Value → Shared → Prop} (I : Inv X pins σ H s) (hg : Gl X x) (hm : X.mg x = some u) (h : Q u s)
    (hd : (x == ("__debug__" : Str)) = false := by decide) : wpAny (model X.prog X.w) X.A (eval (.Name x pos) X.env) Q E s :=
  Calls.Name_function_global I.ok.kind hg (Calls.loadGlobal_global (by rw [I.ok.glob]; exact I.mod.glob.keeps I.bk) hm h) hd
theorem ld_blt {E : Value → Shared → Prop} {pins : List (Addr × Obj)} {s : Shared} {σ : St} {H : Hp} {x : Str} {u : Value} {pos : Pos} {Q : Value → Shared → Prop} (I : Inv X pins σ H s) (hg : Gl X x) (hm : X.mg x = none) (hv : bootBuiltins x = some u) (h : Q u s)
    (hn : x ≠ "__name__" := by decide) (hd : (x == ("__debug__" : Str)) = false := by decide) : wpAny (model X.prog X.w) X.A (eval (.Name x pos) X.env) Q E s := by
  obtain ⟨mb, h1, h2⟩ := I.mod.blt
  exact Calls.Name_function_global I.ok.kind hg (Calls.loadGlobal_builtin (by rw [I.ok.glob]; exact I.mod.glob.keeps I.bk) hm (by rw [I.ok.blt]; exact h1.keeps I.bk) ((h2 x hn).trans hv) h) hd
/-- a module's constant, a class, a function, as a value -/
theorem pe_glob {x : Str} {v : V} {u : Value} {pos : Pos} (hg : Gl X x) (hm : X.mg x = some u) (r : RelV v u) (hd : (x == ("__debug__" : Str)) = false := by decide) : PE X (.Name x pos) (tC v) :=
  fun _ _ _ H _ I h => ld_glob I hg hm ⟨v, H, I, r, h⟩ hd
theorem pe_bltn {x : Str} {v : V} {u : Value} {pos : Pos} (hg : Gl X x) (hm : X.mg x = none) (hv : bootBuiltins x = some u) (r : RelV v u) (hn : x ≠ "__name__" := by decide) (hd : (x == ("__debug__" : Str)) = false := by decide) : PE X (.Name x pos) (tC v) :=
  fun _ _ _ H _ I h => ld_blt I hg hm hv ⟨v, H, I, r, h⟩ hn hd

/-! ### arithmetic -/
variable {a b : Expr} {ta tb : TE} {pos : Pos}
/-! ### comparisons -/
/-- a comparison as a value, as a test -/
def tB (t : TE) : TT := fun σ H Q => t σ H fun x H1 => ∃ c, x = .bl c ∧ Q c H1
/-- an expression whose value is a bool, as a test -/
theorem pt_val {e : Expr} {t : TE} (h : PE X e t) (he : ∀ whole, isTrue e X.env whole = (do let v ← whole; standAt e.pos; holding [v] (truthy v)) := by intro _; rfl) : PT X e (tB t) := by
  intro pins s σ H Q I hw
  refine isTrue_plain (thn (h pins s σ H _ I hw) fun v s1 ⟨x, H1, I1, r1, q1⟩ => ?_) (he _)
  obtain ⟨d, rfl, q⟩ := q1
  cases r1
  exact wpAny_truthy_bool ⟨H1, I1, q⟩

/-! ### and, or, not -/
variable {tA tB' : TT} {rest : List Expr}
def tAnd (t u : TT) : TT := fun σ H Q => t σ H fun c H1 => if c = true then u σ H1 Q else Q false H1
def tOr (t u : TT) : TT := fun σ H Q => t σ H fun c H1 => if c = true then Q true H1 else u σ H1 Q
def tNot (t : TT) : TT := fun σ H Q => t σ H fun c H1 => Q (!c) H1
theorem pw_and1 (ha : PT X a tA) : PW X (.BoolOp .And [a] pos) tA := by
  intro wh pins s σ H Q I h
  refine isTrue_and (thn (ha pins s σ H Q I h) fun c s1 e => ?_)
  cases c with
  | true => exact isTrue_and_nil e
  | false => exact e
theorem pw_or1 (ha : PT X a tA) : PW X (.BoolOp .Or [a] pos) tA := by
  intro wh pins s σ H Q I h
  refine isTrue_or (thn (ha pins s σ H Q I h) fun c s1 e => ?_)
  cases c with
  | false => exact isTrue_or_nil e
  | true => exact e
theorem pw_and (ha : PT X a tA) (hb : PW X (.BoolOp .And (b :: rest) pos) tB') : PW X (.BoolOp .And (a :: b :: rest) pos) (tAnd tA tB') := by
  intro wh pins s σ H Q I h
  refine isTrue_and (thn (ha pins s σ H _ I h) fun c s1 ⟨H1, I1, q1⟩ => ?_)
  cases c with
  | true => exact hb wh pins s1 σ H1 Q I1 q1
  | false => exact ⟨H1, I1, q1⟩
theorem pw_or (ha : PT X a tA) (hb : PW X (.BoolOp .Or (b :: rest) pos) tB') : PW X (.BoolOp .Or (a :: b :: rest) pos) (tOr tA tB') := by
  intro wh pins s σ H Q I h
  refine isTrue_or (thn (ha pins s σ H _ I h) fun c s1 ⟨H1, I1, q1⟩ => ?_)
  cases c with
  | true => exact ⟨H1, I1, q1⟩
  | false => exact hb wh pins s1 σ H1 Q I1 q1
theorem pt_not (ha : PT X a tA) : PT X (.UnaryOp .Not a pos) (tNot tA) := by
  intro pins s σ H Q I h
  exact isTrue_not (ha pins s σ H (fun c H1 => Q (!c) H1) I h)
/-- .. as values (bools) -/
def tAndV (ta tb : TE) : TE := fun σ H Q => ta σ H fun x H1 => ∃ c, x = .bl c ∧ if c = true then tb σ H1 Q else Q (.bl false) H1
def tNotV (ta : TE) : TE := fun σ H Q => ta σ H fun x H1 => ∃ c, x = .bl c ∧ Q (.bl (!c)) H1
theorem pe_one {op} {t : TE} (h : PE X a t) : PE X (.BoolOp op [a] pos) t := fun pins s σ H Q I hw => BoolOp_one (h pins s σ H Q I hw)
theorem pe_and (ha : PE X a ta) (hb : PE X (.BoolOp .And (b :: rest) pos) tb) : PE X (.BoolOp .And (a :: b :: rest) pos) (tAndV ta tb) := by
  intro pins s σ H Q I h
  refine BoolOp_and (thn (ha pins s σ H _ I h) fun v s1 ⟨x, H1, I1, r1, q1⟩ => ?_)
  obtain ⟨c, rfl, q1⟩ := q1
  cases r1
  refine wpAny_truthy_bool ?_
  cases c with
  | true => exact hb pins s1 σ H1 Q I1 q1
  | false => exact ⟨.bl false, H1, I1, rfl, q1⟩
theorem pe_not (ha : PE X a ta) : PE X (.UnaryOp .Not a pos) (tNotV ta) := by
  intro pins s σ H Q I h
  refine UnaryOp_ (thn (ha pins s σ H _ I h) fun v s1 ⟨x, H1, I1, r1, q1⟩ => ?_)
  obtain ⟨c, rfl, q1⟩ := q1
  cases r1
  exact not_of (wpAny_truthy_bool ⟨.bl (!c), H1, I1, rfl, q1⟩)
/-- a if t else b -/
def tIf (t : TT) (ta tb : TE) : TE := fun σ H Q => t σ H fun c H1 => if c = true then ta σ H1 Q else tb σ H1 Q
theorem pe_ifExp {c : Expr} (hc : PT X c tA) (ha : PE X a ta) (hb : PE X b tb) : PE X (.IfExp c a b pos) (tIf tA ta tb) := by
  intro pins s σ H Q I h
  refine wpAny_IfExp (thn (hc pins s σ H _ I h) fun d s1 ⟨H1, I1, q1⟩ => ?_)
  cases d with
  | true => exact ha pins s1 σ H1 Q I1 q1
  | false => exact hb pins s1 σ H1 Q I1 q1
end
end L2

namespace L2
open PySem PySem.Spec PyProof.Rows

/-! ### a list, a tuple that is read: tracked, frozen, or an object of the module -/
def SqL (K : PySem.W.Frag) (H : Hp) (a : Addr) (xs : List V) : Prop :=
  Rd H a (.lst xs) ∨
    ∃ (o : Obj) (its : Array Value) (n : Nat), K.lookup a = some o ∧ o.cls = .type "list" ∧ o.dict = none ∧ o.data = .seq its n ∧ its.size ≤ sizeLine ∧ Vals xs its.toList
def SqT (K : PySem.W.Frag) (H : Hp) (a : Addr) (xs : List V) : Prop :=
  Rd H a (.tup xs) ∨
    ∃ (o : Obj) (its : Array Value) (n : Nat), K.lookup a = some o ∧ o.cls = .type "tuple" ∧ o.data = .seq its n ∧ its.size ≤ sizeLine ∧ Vals xs its.toList
def absV : Value → Option V
  | .none => some .non
  | .bool b => some (.bl b)
  | .int i _ => some (.int i)
  | .str x _ => some (.str x)
  | .bytes b _ => some (.byt b)
  | .float b _ => some (.flt b)
  | .ref a => some (.ref a)
  | .type n => some (.ty n)
  | _ => none
theorem RelV.abs {x : V} {u : Value} (r : RelV x u) : absV u = some x := by
  cases x with
  | non => cases r; rfl
  | bl _ => cases r; rfl
  | int _ => obtain ⟨t, rfl⟩ := r; rfl
  | str _ => obtain ⟨t, rfl⟩ := r; rfl
  | byt _ => obtain ⟨t, rfl⟩ := r; rfl
  | flt _ => obtain ⟨t, rfl⟩ := r; rfl
  | ref _ => cases r; rfl
  | ty _ => cases r; rfl
theorem RelV.inj {x y : V} {u : Value} (r : RelV x u) (q : RelV y u) : x = y := Option.some.inj (r.abs.symm.trans q.abs)
theorem Vals.inj : ∀ {xs ys : List V} {us : List Value}, Vals xs us → Vals ys us → xs = ys
  | _, _, _, .nil, .nil => rfl
  | _, _, _, .cons r t, .cons r' t' => by rw [r.inj r', Vals.inj t t']
section
variable {X : Cx} {pins : List (Addr × Obj)} {σ : St} {H : Hp} {s : Shared} {a : Addr} {xs ys : List V}
theorem SqL.of {K : PySem.W.Frag} (h : H a = some (.lst xs)) : SqL K H a xs := .inl (.inl h)
theorem SqT.of {K : PySem.W.Frag} (h : H a = some (.tup xs)) : SqT K H a xs := .inl (.inl h)
theorem Inv.list (I : Inv X pins σ H s) (h : SqL X.K H a xs) : ∃ its : List Value, Vals xs its ∧ PlainL s.heap a its.toArray ∧ xs.length ≤ sizeLine := by
  rcases h with h | ⟨o, its, n, hk, hc, hd, hs, hz, r⟩
  · obtain ⟨z, its, n, r, e⟩ := h.ok I.hok
    exact ⟨its, r, ⟨_, n, e, rfl, rfl, rfl⟩, z⟩
  · refine ⟨its.toList, r, ⟨o, n, I.kIn a o hk, hc, hd, by simpa using hs⟩, ?_⟩
    have e := r.length
    simp only [Array.length_toList] at e
    omega
theorem Inv.tuple (I : Inv X pins σ H s) (h : SqT X.K H a xs) : ∃ its : List Value, Vals xs its ∧ IsTup s.heap a its.toArray ∧ xs.length ≤ sizeLine := by
  rcases h with h | ⟨o, its, n, hk, hc, hs, hz, r⟩
  · obtain ⟨z, its, r, p⟩ := h.ok I.hok
    exact ⟨its, r, p.tup, z⟩
  · refine ⟨its.toList, r, ⟨o, I.kIn a o hk, hc, n, by simpa using hs⟩, ?_⟩
    have e := r.length
    simp only [Array.length_toList] at e
    omega
theorem Inv.list_inj (I : Inv X pins σ H s) (h : SqL X.K H a xs) (h' : SqL X.K H a ys) : xs = ys := by
  obtain ⟨its, r, ⟨o, n, e, _, _, d⟩, _⟩ := I.list h
  obtain ⟨its', r', ⟨o', n', e', _, _, d'⟩, _⟩ := I.list h'
  rw [e] at e'; cases e'
  rw [d] at d'
  injection d' with d1 _
  have : its = its' := by simpa using congrArg Array.toList d1
  subst this
  exact r.inj r'
theorem Inv.tuple_inj (I : Inv X pins σ H s) (h : SqT X.K H a xs) (h' : SqT X.K H a ys) : xs = ys := by
  obtain ⟨its, r, ⟨o, e, _, n, d⟩, _⟩ := I.tuple h
  obtain ⟨its', r', ⟨o', e', _, n', d'⟩, _⟩ := I.tuple h'
  rw [e] at e'; cases e'
  rw [d] at d'
  injection d' with d1 _
  have : its = its' := by simpa using congrArg Array.toList d1
  subst this
  exact r.inj r'
end

/-! ### another wish about exceptions -/
abbrev Cx.wish (X : Cx) (E : Value → Shared → Prop) : Cx := { X with xe := E }
/-- no exception leaves -/
abbrev Cx.nox (X : Cx) : Cx := X.wish fun _ _ => False
theorem Cx.Ok.wish {X : Cx} (ok : X.Ok) (E : Value → Shared → Prop) : (X.wish E).Ok :=
  ⟨ok.mod, ok.kind, ok.glob, ok.blt, ok.above, ok.inj, ok.has, ok.cab, ok.hd, ok.frames, ok.stk, ok.exf, ok.bs, ok.bsz, ok.noex, ok.exfs, ok.funs, ok.frf⟩
theorem Cx.Ok.unwish {X : Cx} {E : Value → Shared → Prop} (ok : (X.wish E).Ok) : X.Ok :=
  ⟨ok.mod, ok.kind, ok.glob, ok.blt, ok.above, ok.inj, ok.has, ok.cab, ok.hd, ok.frames, ok.stk, ok.exf, ok.bs, ok.bsz, ok.noex, ok.exfs, ok.funs, ok.frf⟩
section
variable {X : Cx} {pins : List (Addr × Obj)} {σ : St} {H : Hp} {s : Shared} {E : Value → Shared → Prop}
theorem Inv.wish (I : Inv X pins σ H s) (E : Value → Shared → Prop) : Inv (X.wish E) pins σ H s := ⟨I.ok.wish E, I.os, I.bare, I.base, I.loc, I.cell, I.free, I.freeC, I.pin, I.hok, I.len⟩
theorem Inv.unwish (I : Inv (X.wish E) pins σ H s) : Inv X pins σ H s := ⟨I.ok.unwish, I.os, I.bare, I.base, I.loc, I.cell, I.free, I.freeC, I.pin, I.hok, I.len⟩
theorem SP.unwish {D : Ends} {f : Flow} {s' : Shared} (h : SP (X.wish E) pins D f s') : SP X pins D f s' := by
  cases f with
  | next => obtain ⟨σ', H', I, q⟩ := h; exact ⟨σ', H', I.unwish, q⟩
  | brk => obtain ⟨σ', H', I, q⟩ := h; exact ⟨σ', H', I.unwish, q⟩
  | cont => obtain ⟨σ', H', I, q⟩ := h; exact ⟨σ', H', I.unwish, q⟩
  | ret u => obtain ⟨v, σ', H', I, r, q⟩ := h; exact ⟨v, σ', H', I.unwish, r, q⟩
theorem PSs.nox {st : List Stmt} {t : TS} (h : PSs X.nox st t) : PSs X st t := fun pins s σ H D I hw =>
  wpAny_mono (h pins s σ H D (I.wish _) hw) (fun _ _ q => q.unwish) fun _ _ z => False.elim z
end

/-! ### blocks and small statements -/
section
variable {X : Cx} {st : Stmt} {rest : List Stmt} {t u : TS} {e : Expr} {te : TE} {pos : Pos}
def tNext : TS := fun D σ H => D.nx σ H
def tSeq (t u : TS) : TS := fun D σ H => t { D with nx := u D } σ H
theorem pss_nil : PSs X [] tNext := fun _ _ σ H _ I h => wpAny_execs_nil ⟨σ, H, I, h⟩
theorem pss_cons (h1 : PS X st t) (h2 : PSs X rest u) : PSs X (st :: rest) (tSeq t u) := by
  intro pins s σ H D I h
  refine wpAny_execs_cons (thn (h1 pins s σ H { D with nx := u D } I h) fun f s1 q => ?_)
  cases f with
  | next =>
    obtain ⟨σ', H', I', q⟩ := q
    exact h2 pins s1 σ' H' D I' q
  | ret v => exact q
  | brk => exact q
  | cont => exact q
theorem pss_one (h1 : PS X st t) : PSs X [st] t := by
  intro pins s σ H D I h
  refine wpAny_execs_cons (thn (h1 pins s σ H D I h) fun f s1 q => ?_)
  cases f with
  | next => exact wpAny_execs_nil q
  | ret v => exact q
  | brk => exact q
  | cont => exact q
/-- in a def's body nothing is shown -/
theorem Inv.quiet {pins : List (Addr × Obj)} {σ : St} {H : Hp} {s : Shared} (I : Inv X pins σ H s) : interactive X.env = false := by simp [interactive, I.ok.kind]
/-- an expression whose value is dropped -/
def tDrop (te : TE) : TS := fun D σ H => te σ H fun _ H1 => D.nx σ H1
theorem ps_expr (he : PE X e te) (hs : swapsWith e none pos.line X.env = pure false := by rfl) : PS X (.Expr e pos) (tDrop te) := by
  intro pins s σ H D I h
  exact wpAny_Expr_any (thn (he pins s σ H _ I h) fun v s1 ⟨x, H1, I1, r1, q1⟩ => ⟨σ, H1, I1, q1⟩) I.quiet hs
def tRet (te : TE) : TS := fun D σ H => te σ H D.rt
theorem ps_ret (he : PE X e te) : PS X (.Return (some e) pos) (tRet te) := by
  intro pins s σ H D I h
  exact wpAny_Return_some (thn (he pins s σ H _ I h) fun v s1 ⟨x, H1, I1, r1, q1⟩ => ⟨x, σ, H1, I1, r1, q1⟩)
def tIfS (c : TT) (t u : TS) : TS := fun D σ H => c σ H fun b H1 => if b = true then t D σ H1 else u D σ H1
theorem ps_if {c : Expr} {a b : List Stmt} {tc : TT} (hc : PT X c tc) (ha : PSs X a t) (hb : PSs X b u) : PS X (.If c a b pos) (tIfS tc t u) := by
  intro pins s σ H D I h
  refine wpAny_If (thn (hc pins s σ H _ I h) fun d s1 ⟨H1, I1, q1⟩ => ?_)
  cases d with
  | true => exact ha pins s1 σ H1 D I1 q1
  | false => exact hb pins s1 σ H1 D I1 q1
/-- code that the proof never comes to -/
def tNever : TS := fun _ _ _ => False
theorem pss_never {sts : List Stmt} : PSs X sts tNever := fun _ _ _ _ _ _ h => h.elim
end

/-! ### targets -/
abbrev TG := V → St → Hp → (St → Hp → Prop) → Prop
abbrev TGs := List V → St → Hp → (St → Hp → Prop) → Prop
def PG (X : Cx) (target : Expr) (t : TG) : Prop :=
  ∀ (pins : List (Addr × Obj)) (s : Shared) (σ : St) (H : Hp) (v : V) (u : Value) (Q : St → Hp → Prop), Inv X pins σ H s → RelV v u → t v σ H Q →
    wpAny (model X.prog X.w) X.A (assign target X.env u) (fun _ s' => ∃ σ' H', Inv X pins σ' H' s' ∧ Q σ' H') X.xe s
/-- several targets, one after another -/
def PGs (X : Cx) (ts : List Expr) (t : TGs) : Prop :=
  ∀ (pins : List (Addr × Obj)) (s : Shared) (σ : St) (H : Hp) (vs : List V) (us : List Value) (Q : St → Hp → Prop), Inv X pins σ H s → Vals vs us → t vs σ H Q →
    wpAny (model X.prog X.w) X.A (assignInOrder ((assignEach ts X.env).map (·.2)) us) (fun _ s' => ∃ σ' H', Inv X pins σ' H' s' ∧ Q σ' H') X.xe s
/-- o[i] = v, by values -/
abbrev TSet := V → V → V → Hp → (Hp → Prop) → Prop
def PSet (X : Cx) (t : TSet) : Prop :=
  ∀ (pins : List (Addr × Obj)) (s : Shared) (σ : St) (H : Hp) (o i v : V) (ov iv u : Value) (Q : Hp → Prop), Inv X pins σ H s → RelV o ov → RelV i iv → RelV v u → t o i v H Q →
    wpAny (model X.prog X.w) X.A (setItem ov iv u) (fun _ s' => ∃ H', Inv X pins σ H' s' ∧ Q H') X.xe s
/-- a op= b, by values -/
abbrev TIp := V → V → Hp → VK → Prop
def PIp (X : Cx) (op : Operator) (t : TIp) : Prop :=
  ∀ (pins : List (Addr × Obj)) (s : Shared) (σ : St) (H : Hp) (x y : V) (v u : Value) (Q : VK), Inv X pins σ H s → RelV x v → RelV y u → t x y H Q →
    wpAny (model X.prog X.w) X.A (inplaceOp op v u) (EP X pins σ Q) X.xe s
section
variable {X : Cx} {pos : Pos}
def gName (i : Nat) : TG := fun v σ H Q => Q (σ.set i (some v)) H
theorem pg_name {i : Nat} {x : Str} (hN : X.N.Nodup) (hi : X.N[i]? = some x) (hx : Loc X.env.scope x) (hf : X.fn x = true ∨ X.env.scope.names.lookup x = some .local := by first | exact .inl rfl | exact .inr rfl | assumption) : PG X (.Name x pos) (gName i) := by
  intro pins s σ H v u Q I r h
  exact wpAny_assign_Name (store_ok I hN hi hx r (fun s' I' => ⟨_, H, I', h⟩) hf)
def gNil : TGs := fun vs σ H Q => vs = [] ∧ Q σ H
def gCons (t : TG) (u : TGs) : TGs := fun vs σ H Q => ∃ v r, vs = v :: r ∧ t v σ H fun σ' H' => u r σ' H' Q
theorem pgs_nil : PGs X [] gNil := by
  intro pins s σ H vs us Q I r h
  obtain ⟨e, h⟩ := h
  subst e
  cases r
  exact assignInOrder_nil ⟨σ, H, I, h⟩
theorem pgs_cons {e : Expr} {es : List Expr} {t : TG} {u : TGs} (h1 : PG X e t) (h2 : PGs X es u)
    (hs : (assignEach (e :: es) X.env).map (·.2) = assign e X.env :: (assignEach es X.env).map (·.2) := by rfl) : PGs X (e :: es) (gCons t u) := by
  intro pins s σ H vs us Q I r h
  obtain ⟨v, vr, e1, h⟩ := h
  subst e1
  cases r with
  | cons r rr =>
    rw [hs]
    refine assignInOrder_cons (thn (h1 pins s σ H _ _ _ I r h) fun _ s1 ⟨σ1, H1, I1, q1⟩ => ?_)
    exact h2 pins s1 σ1 H1 _ _ Q I1 rr q1
/-- (a, b, ..) = a tuple of that length -/
def gTup (K : PySem.W.Frag) (n : Nat) (t : TGs) : TG := fun v σ H Q => ∃ a xs, v = .ref a ∧ SqT K H a xs ∧ xs.length = n ∧ t xs σ H Q
theorem pg_tup {es : List Expr} {k : Nat} {t : TGs} {n : Nat} (hc : X.calm = true) (h : PGs X es t)
    (hn : (assignEach es X.env).length = n := by rfl) (hst : (assignEach es X.env).findIdx? (·.1) = none := by rfl) : PG X (.Tuple es k pos) (gTup X.K n t) := by
  intro pins s σ H v u Q I r hw
  obtain ⟨a, xs, e1, hq, hl, hw⟩ := hw
  subst e1
  cases r
  obtain ⟨its, rv, ht, hz⟩ := I.tuple hq
  refine assign_Tuple_tuple (I.ok.hd hc) ht (by simp [hn, ← hl, rv.length]) hst fun h' hx => ?_
  have I1 : Inv X pins σ H { s with heap := h' } := I.kept (t' := s.toks) fun b o e => hx b o (Nat.ne_of_lt (Heap.lt_size e)) e
  exact h pins _ σ H xs _ Q I1 (by simpa using rv) hw
/-- o[i] = .. -/
def gSub (to ti : TE) (t : TSet) : TG := fun v σ H Q => to σ H fun o H1 => ti σ H1 fun i H2 => t o i v H2 fun H3 => Q σ H3
theorem pg_sub {o i : Expr} {to ti : TE} {t : TSet} (ho : PE X o to) (hi : PE X i ti) (hs : PSet X t)
    (ha : ∀ v, assign (.Subscript o i pos) X.env v = (do
      let ov ← holding [v] (eval o X.env)
      let iv ← holding [v, ov] (eval i X.env)
      standAt pos
      holding [v, ov, iv] (setItem ov iv v)
      release [v, ov, iv] []) := by intro _; rfl) : PG X (.Subscript o i pos) (gSub to ti t) := by
  intro pins s σ H v u Q I r h
  rw [ha]
  refine wpAny_bind (wpAny_holding (thn (ho pins s σ H _ I h) fun ov s1 ⟨x, H1, I1, r1, q1⟩ => ?_))
  refine wpAny_bind (wpAny_holding (thn (hi pins s1 σ H1 _ I1 q1) fun iv s2 ⟨y, H2, I2, r2, q2⟩ => ?_))
  refine wpAny_bind (wpAny_standAt (wpAny_bind (wpAny_holding (thn (hs pins s2 σ H2 x y v ov iv u _ I2 r1 r2 r q2) fun _ s3 ⟨H3, I3, q3⟩ => ?_))))
  exact wpAny_release ⟨σ, H3, I3, q3⟩
/-- target = value -/
def tAsg (te : TE) (g : TG) : TS := fun D σ H => te σ H fun x H1 => g x σ H1 D.nx
theorem ps_asg {tg e : Expr} {te : TE} {g : TG} (he : PE X e te) (hg : PG X tg g) (hs : swapsWithSole [tg] e pos.line X.env = pure false := by rfl) (hw : swappedStores [tg] e X.env = pure none := by rfl)
    (h1 : (assignEach [tg] X.env).map (·.2) = [assign tg X.env] := by rfl) : PS X (.Assign [tg] e pos) (tAsg te g) := by
  intro pins s σ H D I h
  refine wpAny_Assign_stores (thn (he pins s σ H _ I h) fun v s1 ⟨x, H1, I1, r1, q1⟩ => ?_) hs hw
  rw [h1]
  exact thn (hg pins s1 σ H1 x v _ I1 r1 q1) fun _ s2 q => q
/-- name = value -/
theorem ps_set {i : Nat} {x : Str} {e : Expr} {te : TE} {pos' : Pos} (hN : X.N.Nodup) (hi : X.N[i]? = some x) (hx : Loc X.env.scope x) (he : PE X e te) (hs : swapsWith e (some (.Name x pos')) pos.line X.env = pure false := by rfl) (hf : X.fn x = true ∨ X.env.scope.names.lookup x = some .local := by first | exact .inl rfl | exact .inr rfl | assumption) :
    PS X (.Assign [.Name x pos'] e pos) (tAsg te (gName i)) := by
  intro pins s σ H D I h
  refine wpAny_Assign_Name (thn (he pins s σ H _ I h) fun v s1 ⟨y, H1, I1, r1, q1⟩ => ?_) hs
  exact store_ok I1 hN hi hx r1 (fun s2 I2 => ⟨_, H1, I2, q1⟩) hf
/-- name op= e -/
def tAug (i : Nat) (te : TE) (ti : TIp) : TS := fun D σ H => ∃ x, σ[i]? = some (some x) ∧ te σ H fun y H1 => ti x y H1 fun z H2 => D.nx (σ.set i (some z)) H2
theorem ps_aug {i : Nat} {x : Str} {e : Expr} {te : TE} {op : Operator} {ti : TIp} {pos' : Pos} (hN : X.N.Nodup) (hi : X.N[i]? = some x) (hx : Loc X.env.scope x) (he : PE X e te) (ho : PIp X op ti) (hf : X.fn x = true ∨ X.env.scope.names.lookup x = some .local := by first | exact .inl rfl | exact .inr rfl | assumption) :
    PS X (.AugAssign (.Name x pos') op e pos) (tAug i te ti) := by
  intro pins s σ H D I h
  obtain ⟨v, e1, h⟩ := h
  obtain ⟨m, hn, hl⟩ := I.loc
  have vis : Vis X.env.scope x := by rcases hx with k | k; exact .inl k; exact .inr (.inl k)
  obtain ⟨u, r, l⟩ := hl i x v hi e1 vis
  refine wpAny_AugAssign_Name ?_
  have go : wpAny (model X.prog X.w) X.A (eval e X.env) (fun w s₂ => wpAny (model X.prog X.w) X.A (inplaceOp op u w) (fun r s₃ => wpAny (model X.prog X.w) X.A (storeName X.env x r) (fun _ => SP X pins D .next) X.xe s₃) X.xe s₂) X.xe s := by
    refine thn (he pins s σ H _ I h) fun w s1 ⟨y, H1, I1, r1, q1⟩ => ?_
    refine thn (ho pins s1 σ H1 v y u w _ I1 r r1 q1) fun z s2 ⟨zv, H2, I2, r2, q2⟩ => ?_
    exact store_ok I2 hN hi hx r2 (fun s3 I3 => ⟨_, H2, I3, q2⟩) hf
  rcases l with ⟨hk, hm⟩ | ⟨hk, c, hc, hcell⟩
  · exact wpAny_loadName_local I.ok.kind hk hn hm go
  · rcases hk with hk | hk
    · exact wpAny_loadName_cell I.ok.kind hk hc hcell go
    · rcases hx with k | k
      · have : X.env.scope.names.lookup x = some .free := hk
        rw [k] at this; cases this
      · have : X.env.scope.names.lookup x = some .free := hk
        rw [k] at this; cases this
/-- ints -/
def ipI (f : Int → Int → Int) : TIp := fun x y H Q => ∃ i j, x = .int i ∧ y = .int j ∧ Q (.int (f i j)) H
theorem ip_add : PIp X .Add (ipI fun i j => i + j) := by
  intro pins s σ H x y v u Q I r1 r2 h
  obtain ⟨i, j, e1, e2, q⟩ := h
  subst e1; subst e2
  obtain ⟨t, rfl⟩ := r1
  obtain ⟨t', rfl⟩ := r2
  exact iadd_int ⟨.int _, H, I.tok _, ⟨_, rfl⟩, q⟩
theorem ip_sub : PIp X .Sub (ipI fun i j => i - j) := by
  intro pins s σ H x y v u Q I r1 r2 h
  obtain ⟨i, j, e1, e2, q⟩ := h
  subst e1; subst e2
  obtain ⟨t, rfl⟩ := r1
  obtain ⟨t', rfl⟩ := r2
  exact isub_int ⟨.int _, H, I.tok _, ⟨_, rfl⟩, q⟩
end

/-! ### while -/
section
variable {X : Cx} {pos : Pos}
/-- the invariant W with its measure -/
def tWhile (c : TT) (tb : TS) : TS := fun D σ H => ∃ W : Nat → St → Hp → Prop, (∃ m, W m σ H) ∧ ∀ m σ H, W m σ H →
  c σ H fun b H1 => if b = true then ∃ N : St → Hp → Prop, (∀ σ' H', N σ' H' → ∃ m', m' < m ∧ W m' σ' H') ∧ tb { D with nx := N, ct := N, bk := D.nx } σ H1 else D.nx σ H1
theorem ps_while {c : Expr} {body : List Stmt} {tc : TT} {tb : TS} (hp : PassesOwn (model X.prog X.w) X.A X.env X.xe) (hc : PT X c tc) (hb : PSs X body tb) : PS X (.While c body [] pos) (tWhile tc tb) := by
  intro pins s σ H D I h
  obtain ⟨W, ⟨m0, w0⟩, turn⟩ := h
  refine wpAny_While (codeAny_whileLoop (fun n s' => ∃ σ' H', Inv X pins σ' H' s' ∧ W n σ' H') ?_ m0 ⟨σ, H, I, w0⟩)
  rintro n s1 ⟨σ1, H1, I1, w1⟩
  refine wpAny_passesOwn hp (thn (hc pins s1 σ1 H1 _ I1 (turn n σ1 H1 w1)) fun b s2 ⟨H2, I2, q2⟩ => ?_)
  cases b with
  | true =>
    obtain ⟨N, hN, q2⟩ := q2
    rw [if_pos rfl]
    refine wpAny_passesOwn hp (thn (hb pins s2 σ1 H2 _ I2 q2) fun f s3 q3 => ?_)
    cases f with
    | next =>
      obtain ⟨σ3, H3, I3, n3⟩ := q3
      obtain ⟨m', hm, w3⟩ := hN σ3 H3 n3
      exact ⟨m', hm, σ3, H3, I3, w3⟩
    | cont =>
      obtain ⟨σ3, H3, I3, n3⟩ := q3
      obtain ⟨m', hm, w3⟩ := hN σ3 H3 n3
      exact ⟨m', hm, σ3, H3, I3, w3⟩
    | brk => exact q3
    | ret v => exact q3
  | false =>
    rw [if_neg Bool.false_ne_true]
    exact wpAny_execs_nil ⟨σ1, H2, I2, q2⟩
end

/-! ### what a loop or a comprehension walks -/
/-- at turn i: it yields x (the heap may grow), or it stops -/
structure It where
  go : Nat → Hp → Prop
  yld : Nat → Hp → V → Hp → Prop
  stop : Nat → Hp → Prop
/-- the iterator's own objects may turn: they are not the frame's, not pinned, younger than the entry (or a comprehension's own) -/
def FpOk (X : Cx) (pins : List (Addr × Obj)) (H : Hp) (b : Addr) : Prop :=
  H b = none ∧ b ≠ X.env.locals ∧ b ∉ X.fs ∧ (b ∈ X.ex ∨ X.s₀.heap.objs.size ≤ b) ∧ (∀ x c, X.env.cells.lookup x = some c → c ≠ b) ∧ ∀ p ∈ X.pn ++ pins, p.1 ≠ b
theorem Inv.fpOk {X : Cx} {pins : List (Addr × Obj)} {σ : St} {H H' : Hp} {s : Shared} {b : Addr} (I : Inv X pins σ H s) (hb : s.heap.objs.size ≤ b) (hn : H' b = none) : FpOk X pins H' b := by
  refine ⟨hn, Nat.ne_of_gt (Nat.lt_of_lt_of_le I.lt hb), I.nofs hb, .inr (Nat.le_trans I.sz hb), fun x c e z => ?_, fun p hp z => ?_⟩
  · obtain ⟨v, q⟩ := I.cell x c e
    exact absurd (Nat.lt_of_lt_of_le q.lt (by rw [z]; exact hb)) (Nat.lt_irrefl _)
  · exact absurd (Nat.lt_of_lt_of_le (Heap.lt_size (I.pin p hp).1) (by rw [z]; exact hb)) (Nat.lt_irrefl _)
structure Turn (P : Program) (w : World) (K : PySem.W.Frag) (tg : Expr) (J : It) (fp : List Addr) (it : Addr) (tn : Nat → Heap → Prop) : Prop where
  mem : it ∈ fp
  obj : ∀ i h, tn i h → ∀ b ∈ fp, ∃ o, h.get? b = some o ∧ ∀ v, o.data ≠ .cell v
  keep : ∀ i h h', tn i h → (∀ b ∈ fp, ∀ o, h.get? b = some o → h'.get? b = some o) → tn i h'
  item : ∀ (X : Cx), X.prog = P → X.w = w → X.K = K → X.calm = true → ∀ (i : Nat) (pins : List (Addr × Obj)) (s : Shared) (σ : St) (H : Hp) (E : Value → Shared → Prop), Inv X pins σ H s → (∀ b ∈ fp, FpOk X pins H b) → tn i s.heap → J.go i H →
    wpAny (model P w) X.A (pyNext (.ref it)) (fun r s1 => ∃ u, r = some u ∧
      wpAny (model P w) X.A (letOwnedTupleGo tg (.ref it) u) (fun _ s2 => ∃ x H', Inv X pins σ H' s2 ∧ RelV x u ∧ J.yld i H x H' ∧ tn (i + 1) s2.heap ∧ ∀ b ∈ fp, H' b = none) E s1) E s
  done : ∀ (X : Cx), X.prog = P → X.w = w → X.K = K → X.calm = true → ∀ (i : Nat) (pins : List (Addr × Obj)) (s : Shared) (σ : St) (H : Hp) (E : Value → Shared → Prop), Inv X pins σ H s → (∀ b ∈ fp, FpOk X pins H b) → tn i s.heap → J.stop i H →
    wpAny (model P w) X.A (pyNext (.ref it)) (fun r s1 => r = none ∧ Inv X pins σ H s1) E s
  self : ∀ (A : Around) (i : Nat) (s : Shared) (Q : Value → Shared → Prop) (E : Value → Shared → Prop), tn i s.heap → Q (.ref it) s → wpAny (model P w) A (pyIter (.ref it)) Q E s
abbrev TI := St → Hp → (It → Hp → Prop) → Prop
/-- an iterator has come -/
def PIE (X : Cx) (pins : List (Addr × Obj)) (σ : St) (tg : Expr) (R : It → Hp → Prop) (itv : Value) (s2 : Shared) : Prop :=
  ∃ (it : Addr) (fp : List Addr) (tn : Nat → Heap → Prop) (J : It) (H' : Hp), itv = .ref it ∧ Inv X pins σ H' s2 ∧ Turn X.prog X.w X.K tg J fp it tn ∧ tn 0 s2.heap ∧ (∀ b ∈ fp, FpOk X pins H' b) ∧ R J H'
def PI (X : Cx) (tg iter : Expr) (wi : TI) : Prop :=
  ∀ (pins : List (Addr × Obj)) (s : Shared) (σ : St) (H : Hp) (R : It → Hp → Prop), Inv X pins σ H s → wi σ H R →
    wpAny (model X.prog X.w) X.A (eval iter X.env) (fun v s1 => wpAny (model X.prog X.w) X.A (pyIter v) (PIE X pins σ tg R) X.xe s1) X.xe s

/-- the step ahead of the store is nothing for an iterator that keeps no tuple -/
theorem go_of {M : Model} {A : Around} {E : Value → Shared → Prop} {s : Shared} {tg : Expr} {it : Addr} {u : Value} {o : Obj} {n : String} {vs : Array Value} {Q : Unit → Shared → Prop} (ho : s.heap.get? it = some o) (hc : o.cls = .type n) (hd : o.data = .fields vs)
    (hn : ["enumerate", "zip", "dict_itemiterator", "dict_reverseitemiterator", "odict_iterator", "itertools.zip_longest", "itertools.pairwise"].contains n = false) (hQ : Q () s) : wpAny M A (letOwnedTupleGo tg (.ref it) u) Q E s := by
  unfold letOwnedTupleGo
  cases tg <;> first
    | exact wpAny_pure hQ
    | (cases u <;> first
        | exact wpAny_pure hQ
        | (refine wpAny_bind (wpAny_load ho ?_)
           rw [hc, hd]
           show wpAny M A (if (["enumerate", "zip", "dict_itemiterator", "dict_reverseitemiterator", "odict_iterator", "itertools.zip_longest", "itertools.pairwise"].contains n && vs[0]? == some (rawInt _)) = true then _ else _) Q E s
           rw [if_neg (by intro h; rw [hn, Bool.false_and] at h; cases h)]
           exact wpAny_pure hQ))

/-- the list at a, as it stands at each turn (a loop may append to it) -/
def Itl (K : PySem.W.Frag) (a : Addr) : It :=
  ⟨fun i H => ∃ xs x, SqL K H a xs ∧ xs[i]? = some x, fun i H x H' => H' = H ∧ ∀ xs, SqL K H a xs → xs[i]? = some x, fun i H => ∃ xs, SqL K H a xs ∧ xs.length ≤ i⟩
def Itt (K : PySem.W.Frag) (a : Addr) : It :=
  ⟨fun i H => ∃ xs x, SqT K H a xs ∧ xs[i]? = some x, fun i H x H' => H' = H ∧ ∀ xs, SqT K H a xs → xs[i]? = some x, fun i H => ∃ xs, SqT K H a xs ∧ xs.length ≤ i⟩
/-- lo, lo + 1, .. (n of them) -/
def Itr (lo : Int) (n : Nat) : It := ⟨fun i _ => i < n, fun i H x H' => H' = H ∧ x = .int (lo + i), fun i _ => n ≤ i⟩
theorem turn_list {P : Program} {w : World} {K : PySem.W.Frag} {tg : Expr} (a it : Addr) : Turn P w K tg (Itl K a) [it] it (fun i h => h.IsListIter it a i) where
  mem := by simp
  obj := fun i h st b hb => by
    have e : b = it := by simpa using hb
    subst e
    obtain ⟨o, e, c, d⟩ := st
    exact ⟨o, e, fun v z => by rw [d] at z; cases z⟩
  keep := fun i h h' st k => st.at fun o e => k it (by simp) o e
  item := by
    intro X hP hw hK hc i pins s σ H E I hf st hg
    subst hP hw hK
    obtain ⟨xs, x, hq, hx⟩ := hg
    obtain ⟨its, rv, p, hz⟩ := I.list hq
    obtain ⟨u, hu, ru⟩ := rv.get hx
    obtain ⟨f0, f1, f2, f3, f4, f5⟩ := hf it (by simp)
    refine wpAny_pyNext_list_item st p.isList (x := u) (by simpa using hu) fun h' st' sb => ?_
    have I1 : Inv X pins σ H { s with heap := h' } := I.turned (t' := s.toks) (fun b o hb e => (sb.2 b hb).trans e) f0 f1 f3 f4 f5
    obtain ⟨o, e, c, d⟩ := id st'
    exact ⟨u, rfl, go_of (s := { s with heap := h' }) e c d (by decide) ⟨x, H, I1, ru, ⟨rfl, fun ys hy => by rw [I.list_inj hy hq]; exact hx⟩, st', fun b hb => (hf b hb).1⟩⟩
  done := by
    intro X hP hw hK hc i pins s σ H E I hf st hg
    subst hP hw hK
    obtain ⟨xs, hq, hx⟩ := hg
    obtain ⟨its, rv, p, hz⟩ := I.list hq
    obtain ⟨f0, f1, f2, f3, f4, f5⟩ := hf it (by simp)
    have hl := rv.length
    exact wpAny_pyNext_list_end (I.ok.hd hc) st p.isList (by simp; omega) fun h' eb => ⟨rfl, I.turned (t' := s.toks) (fun b o hb e => eb b o hb e) f0 f1 f3 f4 f5⟩
  self := fun _ _ _ _ _ st h => wpAny_pyIter_listiter st h
theorem turn_tuple {P : Program} {w : World} {K : PySem.W.Frag} {tg : Expr} (a it : Addr) : Turn P w K tg (Itt K a) [it] it (fun i h => h.IsTupleIter it a i) where
  mem := by simp
  obj := fun i h st b hb => by
    have e : b = it := by simpa using hb
    subst e
    obtain ⟨o, e, c, d⟩ := st
    exact ⟨o, e, fun v z => by rw [d] at z; cases z⟩
  keep := fun i h h' st k => st.at fun o e => k it (by simp) o e
  item := by
    intro X hP hw hK hc i pins s σ H E I hf st hg
    subst hP hw hK
    obtain ⟨xs, x, hq, hx⟩ := hg
    obtain ⟨its, rv, p, hz⟩ := I.tuple hq
    obtain ⟨u, hu, ru⟩ := rv.get hx
    obtain ⟨f0, f1, f2, f3, f4, f5⟩ := hf it (by simp)
    refine wpAny_pyNext_tuple_item st (show s.heap.IsTuple a its.toArray from p) (x := u) (by simpa using hu) fun h' st' sb => ?_
    have I1 : Inv X pins σ H { s with heap := h' } := I.turned (t' := s.toks) (fun b o hb e => (sb.2 b hb).trans e) f0 f1 f3 f4 f5
    obtain ⟨o, e, c, d⟩ := id st'
    exact ⟨u, rfl, go_of (s := { s with heap := h' }) e c d (by decide) ⟨x, H, I1, ru, ⟨rfl, fun ys hy => by rw [I.tuple_inj hy hq]; exact hx⟩, st', fun b hb => (hf b hb).1⟩⟩
  done := by
    intro X hP hw hK hc i pins s σ H E I hf st hg
    subst hP hw hK
    obtain ⟨xs, hq, hx⟩ := hg
    obtain ⟨its, rv, p, hz⟩ := I.tuple hq
    obtain ⟨f0, f1, f2, f3, f4, f5⟩ := hf it (by simp)
    have hl := rv.length
    exact wpAny_pyNext_tuple_end (I.ok.hd hc) st (show s.heap.IsTuple a its.toArray from p) (by simp; omega) fun h' eb => ⟨rfl, I.turned (t' := s.toks) (fun b o hb e => eb b o hb e) f0 f1 f3 f4 f5⟩
  self := fun _ _ _ _ _ st h => wpAny_pyIter_tupleiter st h
theorem turn_range {P : Program} {w : World} {K : PySem.W.Frag} {tg : Expr} (it : Addr) (lo : Int) (n : Nat) : Turn P w K tg (Itr lo n) [it] it (fun i h => IsRangeIter h it (lo + (i : Nat) * 1) ((n : Int) - (i : Nat)) 1) where
  mem := by simp
  obj := fun i h st b hb => by
    have e : b = it := by simpa using hb
    subst e
    exact ⟨_, st, fun v z => by
      have z' : Data.fields _ = Data.cell v := z
      cases z'⟩
  keep := fun i h h' st k => k it (by simp) _ st
  item := by
    intro X hP hw hK hc i pins s σ H E I hf st hg
    subst hP hw hK
    obtain ⟨f0, f1, f2, f3, f4, f5⟩ := hf it (by simp)
    have W := Walks.range (prog := X.prog) (w := X.w) (I.ok.hd hc) it lo 1 n
    refine W.item i s _ _ hg st fun v h' tk hv st' kk => ?_
    obtain ⟨t, rfl⟩ := hv
    have I1 : Inv X pins σ H { s with heap := h', toks := tk } := I.turned (fun b o hb e => kk b o (by simpa using hb) e) f0 f1 f3 f4 f5
    refine ⟨_, rfl, go_of (s := { s with heap := h', toks := tk }) (n := "range_iterator") st' rfl rfl (by decide) ⟨.int (lo + i), H, I1, ⟨t, ?_⟩, ⟨rfl, rfl⟩, st', fun b hb => (hf b hb).1⟩⟩
    rw [Int.mul_one]
  done := by
    intro X hP hw hK hc i pins s σ H E I hf st hg
    subst hP hw hK
    obtain ⟨f0, f1, f2, f3, f4, f5⟩ := hf it (by simp)
    exact wpAny_pyNext_range_end (I.ok.hd hc) st (by have : n ≤ i := hg; omega) fun h' eb => ⟨rfl, I.turned (t' := s.toks) (fun b o hb e => eb b o hb e) f0 f1 f3 f4 f5⟩
  self := fun _ _ _ _ _ st h => wpAny_pyIter_rangeiter st h
end L2

namespace L2
open PySem PySem.Spec PyProof.Rows
section
variable {X : Cx} {tg : Expr}
def iList (K : PySem.W.Frag) (tl : TE) : TI := fun σ H R => tl σ H fun x H1 => ∃ a, x = .ref a ∧ (∃ xs, SqL K H1 a xs) ∧ R (Itl K a) H1
def iTup (K : PySem.W.Frag) (tl : TE) : TI := fun σ H R => tl σ H fun x H1 => ∃ a, x = .ref a ∧ (∃ xs, SqT K H1 a xs) ∧ R (Itt K a) H1
theorem pi_list {l : Expr} {tl : TE} (hl : PE X l tl) : PI X tg l (iList X.K tl) := by
  intro pins s σ H R I h
  refine thn (hl pins s σ H _ I h) fun v s1 ⟨x, H1, I1, r1, q1⟩ => ?_
  obtain ⟨a, e, ⟨xs, hq⟩, q⟩ := q1
  subst e
  cases r1
  obtain ⟨its, rv, p, hz⟩ := I1.list hq
  refine wpAny_pyIter_list p.isList ?_
  refine ⟨s1.heap.objs.size, [s1.heap.objs.size], _, _, H1, rfl, I1.kept (t' := s1.toks) fun b o e => Heap.get?_push_of_some _ e, turn_list a _, ⟨_, Heap.get?_push_size _ rfl, rfl, rfl⟩, fun b hb => ?_, q⟩
  have e : b = s1.heap.objs.size := by simpa using hb
  subst e
  exact I1.fpOk (Nat.le_refl _) (I1.hok.fresh (Nat.le_refl _))
theorem pi_tup {l : Expr} {tl : TE} (hl : PE X l tl) : PI X tg l (iTup X.K tl) := by
  intro pins s σ H R I h
  refine thn (hl pins s σ H _ I h) fun v s1 ⟨x, H1, I1, r1, q1⟩ => ?_
  obtain ⟨a, e, ⟨xs, hq⟩, q⟩ := q1
  subst e
  cases r1
  obtain ⟨its, rv, p, hz⟩ := I1.tuple hq
  refine wpAny_pyIter_tuple (show s1.heap.IsTuple a its.toArray from p) ?_
  refine ⟨s1.heap.objs.size, [s1.heap.objs.size], _, _, H1, rfl, I1.kept (t' := s1.toks) fun b o e => Heap.get?_push_of_some _ e, turn_tuple a _, ⟨_, Heap.get?_push_size _ rfl, rfl, rfl⟩, fun b hb => ?_, q⟩
  have e : b = s1.heap.objs.size := by simpa using hb
  subst e
  exact I1.fpOk (Nat.le_refl _) (I1.hok.fresh (Nat.le_refl _))
/-- a range object just made, walked -/
theorem range_it {pins : List (Addr × Obj)} {σ : St} {H : Hp} {s : Shared} {R : It → Hp → Prop} {E : Value → Shared → Prop} {lo hi : Int} {t u v : Tok} {tk : Nat} (I : Inv X pins σ H s) (h1 : -(2 ^ 62) ≤ lo) (h2 : lo < 2 ^ 62) (h3 : -(2 ^ 62) ≤ hi) (h4 : hi < 2 ^ 62)
    (q : R (Itr lo (hi - lo).toNat) H) : wpAny (model X.prog X.w) X.A (pyIter (.ref s.heap.objs.size)) (PIE X pins σ tg R) E { s with heap := s.heap.push { cls := .type "range", data := .fields #[.int lo t, .int hi u, .int 1 v] }, toks := tk } := by
  refine wpAny_pyIter_range (IsRange.new ..) (small_one h1 h2 h3 h4) ?_
  have I1 : Inv X pins σ H { s with heap := s.heap.push { cls := .type "range", data := .fields #[.int lo t, .int hi u, .int 1 v] }, toks := tk } := I.kept fun b o e => Heap.get?_push_of_some _ e
  refine ⟨(s.heap.push { cls := .type "range", data := .fields #[.int lo t, .int hi u, .int 1 v] }).objs.size, [(s.heap.push { cls := .type "range", data := .fields #[.int lo t, .int hi u, .int 1 v] }).objs.size], _, _, H, rfl,
    I1.kept (t' := tk) fun b o e => Heap.get?_push_of_some _ e, turn_range _ lo (hi - lo).toNat, ?_, fun b hb => ?_, q⟩
  · have e1 : lo + ((0 : Nat) : Int) * 1 = lo := by simp
    have e2 : (((hi - lo).toNat : Nat) : Int) - ((0 : Nat) : Int) = Builtin.Range.rangeSize lo hi 1 := by rw [rangeSize_one]; split <;> omega
    show IsRangeIter _ _ (lo + ((0 : Nat) : Int) * 1) ((((hi - lo).toNat : Nat) : Int) - ((0 : Nat) : Int)) 1
    rw [e1, e2]
    exact Heap.get?_push_size _ rfl
  · have e : b = (s.heap.push { cls := .type "range", data := .fields #[.int lo t, .int hi u, .int 1 v] }).objs.size := by simpa using hb
    subst e
    exact I1.fpOk (Nat.le_refl _) (I1.hok.fresh (Nat.le_refl _))
def iRng1 (ta : TA) : TI := fun σ H R => ta σ H fun vs H1 => ∃ j : Int, vs = [.int j] ∧ -(2 ^ 62) ≤ j ∧ j < 2 ^ 62 ∧ R (Itr 0 j.toNat) H1
def iRng2 (ta : TA) : TI := fun σ H R => ta σ H fun vs H1 => ∃ i j : Int, vs = [.int i, .int j] ∧ (-(2 ^ 62) ≤ i ∧ i < 2 ^ 62 ∧ -(2 ^ 62) ≤ j ∧ j < 2 ^ 62) ∧ R (Itr i (j - i).toNat) H1
theorem pi_range1 {a : Expr} {ta : TA} {p pos : Pos} (hg : Gl X "range") (hm : X.mg "range" = none) (ha : PA X [a] ta) (hs : starEach [a] X.env = [(false, eval a X.env)] := by rfl) : PI X tg (.Call (.Name "range" p) [a] [] pos) (iRng1 ta) := by
  intro pins s σ H R I h
  refine Call_ (ld_blt I hg hm boot_range (PyProof.Rows.callWith_type1 (thn (ha pos pins s σ H _ I h) fun us s1 ⟨vs, H1, I1, r1, q1⟩ => ?_) hs rfl))
  obtain ⟨j, e, q1, q2, q⟩ := q1
  subst e
  cases r1 with
  | cons r rr =>
    cases rr
    obtain ⟨t, rfl⟩ := r
    exact call_range_1 (range_it I1 (by omega) (by omega) q1 q2 (by simpa using q))
theorem pi_range2 {a b : Expr} {ta : TA} {p pos : Pos} (hg : Gl X "range") (hm : X.mg "range" = none) (ha : PA X [a, b] ta) (hs : starEach [a, b] X.env = [(false, eval a X.env), (false, eval b X.env)] := by rfl) (hs2 : starEach [b] X.env = [(false, eval b X.env)] := by rfl) :
    PI X tg (.Call (.Name "range" p) [a, b] [] pos) (iRng2 ta) := by
  intro pins s σ H R I h
  refine Call_ (ld_blt I hg hm boot_range (PyProof.Rows.callWith_type1 (thn (ha pos pins s σ H _ I h) fun us s1 ⟨vs, H1, I1, r1, q1⟩ => ?_) (by rw [hs, hs2]) (by rw [hs2]; rfl)))
  obtain ⟨i, j, e, ⟨q1, q2, q3, q4⟩, q⟩ := q1
  subst e
  cases r1 with
  | cons r rr =>
    cases rr with
    | cons r' rr =>
      cases rr
      obtain ⟨t, rfl⟩ := r
      obtain ⟨t', rfl⟩ := r'
      exact call_range_2 (range_it I1 q1 q2 q3 q4 q)

/-! ### for -/
/-- W: the invariant by the turn and a measure; N: what the body is to reach -/
def tFor (wi : TI) (g : TG) (tb : TS) : TS := fun D σ H => wi σ H fun J H1 => ∃ W : Nat → Nat → St → Hp → Prop, (∃ m, W 0 m σ H1) ∧ ∀ i m σ H, W i m σ H →
  (J.stop i H ∧ D.nx σ H) ∨ (J.go i H ∧ ∃ N : St → Hp → Prop, (∀ σ' H', N σ' H' → ∃ m', m' < m ∧ W (i + 1) m' σ' H') ∧ ∀ x H', J.yld i H x H' → g x σ H' fun σ2 H2 => tb { D with nx := N, ct := N, bk := D.nx } σ2 H2)
/-- the records at fp as they stand -/
def pinsAt (fp : List Addr) (h : Heap) : List (Addr × Obj) := fp.filterMap fun b => (h.get? b).map fun o => (b, o)
theorem mem_pinsAt {fp : List Addr} {h : Heap} {b : Addr} {o : Obj} (hb : b ∈ fp) (e : h.get? b = some o) : (b, o) ∈ pinsAt fp h := List.mem_filterMap.mpr ⟨b, hb, by rw [e]; rfl⟩
theorem of_pinsAt {fp : List Addr} {h : Heap} {p : Addr × Obj} (hp : p ∈ pinsAt fp h) : p.1 ∈ fp ∧ h.get? p.1 = some p.2 := by
  obtain ⟨b, hb, e⟩ := List.mem_filterMap.mp hp
  cases q : h.get? b with
  | none => rw [q] at e; cases e
  | some o =>
    rw [q] at e
    have e' : (b, o) = p := Option.some.inj e
    subst e'
    exact ⟨hb, q⟩
theorem Inv.pinned {pins : List (Addr × Obj)} {σ : St} {H : Hp} {s : Shared} {fp : List Addr} (I : Inv X pins σ H s) (hf : ∀ b ∈ fp, FpOk X pins H b) (ho : ∀ b ∈ fp, ∃ o, s.heap.get? b = some o ∧ ∀ v, o.data ≠ .cell v) : Inv X (pins ++ pinsAt fp s.heap) σ H s :=
  I.pins_of fun p hp => (List.mem_append.mp hp).elim (fun z => I.pin p (List.mem_append_right _ z)) fun z => by
    obtain ⟨hb, e⟩ := of_pinsAt z
    obtain ⟨f0, f1, f2, _⟩ := hf p.1 hb
    obtain ⟨o, e', d⟩ := ho p.1 hb
    rw [e] at e'; cases e'
    exact ⟨e, f0, f1, f2, d⟩
theorem Inv.unpinned {pins pl : List (Addr × Obj)} {σ : St} {H : Hp} {s : Shared} (I : Inv X (pins ++ pl) σ H s) : Inv X pins σ H s := I.pins_of fun p hp => I.pin p (List.mem_append_right _ (List.mem_append_left _ hp))
theorem ps_for {iter : Expr} {body : List Stmt} {wi : TI} {g : TG} {tb : TS} {pos : Pos} (hp : PassesOwn (model X.prog X.w) X.A X.env X.xe) (hc : X.calm = true) (hi : PI X tg iter wi) (hg : PG X tg g) (hb : PSs X body tb)
    (hs : ∀ x, foldedSetIterable iter X.env x = pure x := by intro _; rfl) : PS X (.For tg iter body [] pos) (tFor wi g tb) := by
  intro pins s σ H D I h
  refine wpAny_For (thn (hi pins s σ H _ I h) fun v s1 h1 => thn h1 fun itv s2 h2 => ?_) hs
  obtain ⟨it, fp, tn, J, H2, e, I2, T, st2, f2, W, ⟨m0, w0⟩, turn⟩ := h2
  subst e
  -- what stays true of the iterator's objects through the loop
  have stat : ∀ {H' : Hp}, (∀ b ∈ fp, H' b = none) → ∀ b ∈ fp, FpOk X pins H' b := fun hn b hb => ⟨hn b hb, (f2 b hb).2⟩
  refine codeAny_forLoop_any (fun n s' => ∃ i σ' H', Inv X pins σ' H' s' ∧ tn i s'.heap ∧ (∀ b ∈ fp, H' b = none) ∧ W i n σ' H') ?_ m0 ⟨0, σ, H2, I2, st2, fun b hb => (f2 b hb).1, w0⟩
  rintro n s3 ⟨i, σ3, H3, I3, st3, fr3, w3⟩
  rcases turn i n σ3 H3 w3 with ⟨stop, qn⟩ | ⟨go, N, hN, step⟩
  · refine wpAny_passesOwn hp (thn (T.done X rfl rfl rfl hc i pins s3 σ3 H3 X.xe I3 (stat fr3) st3 stop) fun r s4 ⟨hr, I4⟩ => ?_)
    subst hr
    exact wpAny_execs_nil ⟨σ3, H3, I4, qn⟩
  · refine wpAny_passesOwn hp (thn (T.item X rfl rfl rfl hc i pins s3 σ3 H3 X.xe I3 (stat fr3) st3 go) fun r s4 ⟨u, hr, h4⟩ => ?_)
    subst hr
    refine wpAny_passesOwn hp (thn h4 fun _ s5 ⟨x, H5, I5, r5, y5, st5, fr5⟩ => ?_)
    have I5' := I5.pinned (stat fr5) (T.obj _ _ st5)
    refine wpAny_passesOwn hp (thn (hg _ s5 σ3 H5 x u _ I5' r5 (step x H5 y5)) fun _ s6 ⟨σ6, H6, I6, q6⟩ => ?_)
    refine wpAny_passesOwn hp (thn (hb _ s6 σ6 H6 _ I6 q6) fun f s7 q7 => ?_)
    have again : ∀ {σ7 : St} {H7 : Hp}, Inv X (pins ++ pinsAt fp s5.heap) σ7 H7 s7 → N σ7 H7 → ∃ m, m < n ∧ ∃ i σ' H', Inv X pins σ' H' s7 ∧ tn i s7.heap ∧ (∀ b ∈ fp, H' b = none) ∧ W i m σ' H' := fun {σ7 H7} I7 n7 => by
      obtain ⟨m', hm, w7⟩ := hN σ7 H7 n7
      refine ⟨m', hm, i + 1, σ7, H7, I7.unpinned, T.keep _ _ _ st5 fun b hb o e => (I7.pin (b, o) (List.mem_append_right _ (List.mem_append_right _ (mem_pinsAt hb e)))).1, fun b hb => ?_, w7⟩
      obtain ⟨o, e, d⟩ := T.obj _ _ st5 b hb
      exact (I7.pin (b, o) (List.mem_append_right _ (List.mem_append_right _ (mem_pinsAt hb e)))).2.1
    cases f with
    | next => obtain ⟨σ7, H7, I7, n7⟩ := q7; exact again I7 n7
    | cont => obtain ⟨σ7, H7, I7, n7⟩ := q7; exact again I7 n7
    | brk => obtain ⟨σ7, H7, I7, q7⟩ := q7; exact ⟨σ7, H7, I7.unpinned, q7⟩
    | ret v => obtain ⟨x7, σ7, H7, I7, r7, q7⟩ := q7; exact ⟨x7, σ7, H7, I7.unpinned, r7, q7⟩
end

/-! ### the forms one uses -/
/-- over a list that the body leaves as it is -/
theorem for_list {K : PySem.W.Frag} {a : Addr} {xs : List V} {g : TG} {tb : TS} {D : Ends} {σ : St} {H : Hp} (Pv : Nat → St → Hp → Prop) (h0 : Pv 0 σ H) (hl : ∀ i σ H, i ≤ xs.length → Pv i σ H → SqL K H a xs)
    (hs : ∀ i x σ H, xs[i]? = some x → Pv i σ H → g x σ H fun σ2 H2 => tb { D with nx := Pv (i + 1), ct := Pv (i + 1), bk := D.nx } σ2 H2) (hd : ∀ σ H, Pv xs.length σ H → D.nx σ H) :
    ∃ W : Nat → Nat → St → Hp → Prop, (∃ m, W 0 m σ H) ∧ ∀ i m σ H, W i m σ H →
      ((Itl K a).stop i H ∧ D.nx σ H) ∨ ((Itl K a).go i H ∧ ∃ N : St → Hp → Prop, (∀ σ' H', N σ' H' → ∃ m', m' < m ∧ W (i + 1) m' σ' H') ∧ ∀ x H', (Itl K a).yld i H x H' → g x σ H' fun σ2 H2 => tb { D with nx := N, ct := N, bk := D.nx } σ2 H2) := by
  refine ⟨fun i m σ H => m = xs.length - i ∧ i ≤ xs.length ∧ Pv i σ H, ⟨xs.length, by simp, Nat.zero_le _, h0⟩, ?_⟩
  rintro i m σ H ⟨rfl, hi, p⟩
  have q := hl i σ H hi p
  by_cases hlt : i < xs.length
  · refine .inr ⟨⟨xs, xs[i], q, by simp [hlt]⟩, Pv (i + 1), fun σ' H' p' => ⟨xs.length - (i + 1), by omega, rfl, hlt, p'⟩, fun x H' y => ?_⟩
    obtain ⟨e, y⟩ := y
    subst e
    exact hs i x σ _ (y xs q) p
  · have e : i = xs.length := by omega
    subst e
    exact .inl ⟨⟨xs, q, Nat.le_refl _⟩, hd σ H p⟩
theorem for_tup {K : PySem.W.Frag} {a : Addr} {xs : List V} {g : TG} {tb : TS} {D : Ends} {σ : St} {H : Hp} (Pv : Nat → St → Hp → Prop) (h0 : Pv 0 σ H) (hl : ∀ i σ H, i ≤ xs.length → Pv i σ H → SqT K H a xs)
    (hs : ∀ i x σ H, xs[i]? = some x → Pv i σ H → g x σ H fun σ2 H2 => tb { D with nx := Pv (i + 1), ct := Pv (i + 1), bk := D.nx } σ2 H2) (hd : ∀ σ H, Pv xs.length σ H → D.nx σ H) :
    ∃ W : Nat → Nat → St → Hp → Prop, (∃ m, W 0 m σ H) ∧ ∀ i m σ H, W i m σ H →
      ((Itt K a).stop i H ∧ D.nx σ H) ∨ ((Itt K a).go i H ∧ ∃ N : St → Hp → Prop, (∀ σ' H', N σ' H' → ∃ m', m' < m ∧ W (i + 1) m' σ' H') ∧ ∀ x H', (Itt K a).yld i H x H' → g x σ H' fun σ2 H2 => tb { D with nx := N, ct := N, bk := D.nx } σ2 H2) := by
  refine ⟨fun i m σ H => m = xs.length - i ∧ i ≤ xs.length ∧ Pv i σ H, ⟨xs.length, by simp, Nat.zero_le _, h0⟩, ?_⟩
  rintro i m σ H ⟨rfl, hi, p⟩
  have q := hl i σ H hi p
  by_cases hlt : i < xs.length
  · refine .inr ⟨⟨xs, xs[i], q, by simp [hlt]⟩, Pv (i + 1), fun σ' H' p' => ⟨xs.length - (i + 1), by omega, rfl, hlt, p'⟩, fun x H' y => ?_⟩
    obtain ⟨e, y⟩ := y
    subst e
    exact hs i x σ _ (y xs q) p
  · have e : i = xs.length := by omega
    subst e
    exact .inl ⟨⟨xs, q, Nat.le_refl _⟩, hd σ H p⟩
theorem for_range {lo : Int} {n : Nat} {g : TG} {tb : TS} {D : Ends} {σ : St} {H : Hp} (Pv : Nat → St → Hp → Prop) (h0 : Pv 0 σ H)
    (hs : ∀ i σ H, i < n → Pv i σ H → g (.int (lo + i)) σ H fun σ2 H2 => tb { D with nx := Pv (i + 1), ct := Pv (i + 1), bk := D.nx } σ2 H2) (hd : ∀ σ H, Pv n σ H → D.nx σ H) :
    ∃ W : Nat → Nat → St → Hp → Prop, (∃ m, W 0 m σ H) ∧ ∀ i m σ H, W i m σ H →
      ((Itr lo n).stop i H ∧ D.nx σ H) ∨ ((Itr lo n).go i H ∧ ∃ N : St → Hp → Prop, (∀ σ' H', N σ' H' → ∃ m', m' < m ∧ W (i + 1) m' σ' H') ∧ ∀ x H', (Itr lo n).yld i H x H' → g x σ H' fun σ2 H2 => tb { D with nx := N, ct := N, bk := D.nx } σ2 H2) := by
  refine ⟨fun i m σ H => m = n - i ∧ i ≤ n ∧ Pv i σ H, ⟨n, by simp, Nat.zero_le _, h0⟩, ?_⟩
  rintro i m σ H ⟨rfl, hi, p⟩
  by_cases hlt : i < n
  · refine .inr ⟨hlt, Pv (i + 1), fun σ' H' p' => ⟨n - (i + 1), by omega, rfl, hlt, p'⟩, fun x H' y => ?_⟩
    obtain ⟨e, y⟩ := y
    subst e y
    exact hs i σ _ hlt p
  · have e : i = n := by omega
    subst e
    exact .inl ⟨Nat.le_refl _, hd σ H p⟩
end L2

namespace L2
open PySem PySem.Spec PyProof.Rows

abbrev R2 := V → V → Hp → VK → Prop
/-- a two-place operation on values: f is binaryOp op, inplaceOp op or compareOp op -/
def OpR (X : Cx) (f : Value → Value → Sem Value) (r : R2) : Prop :=
  ∀ (pins : List (Addr × Obj)) (s : Shared) (σ : St) (H : Hp) (x y : V) (v u : Value) (Q : VK), Inv X pins σ H s → RelV x v → RelV y u → r x y H Q →
    wpAny (model X.prog X.w) X.A (f v u) (EP X pins σ Q) X.xe s
/-- a one-place operation -/
def UnR (X : Cx) (f : Value → Sem Value) (r : V → Hp → VK → Prop) : Prop :=
  ∀ (pins : List (Addr × Obj)) (s : Shared) (σ : St) (H : Hp) (x : V) (v : Value) (Q : VK), Inv X pins σ H s → RelV x v → r x H Q →
    wpAny (model X.prog X.w) X.A (f v) (EP X pins σ Q) X.xe s
/-- a call of a value that is known (a builtin, a type) with values -/
def CallR (X : Cx) (f : Value) (r : List V → Hp → VK → Prop) : Prop :=
  ∀ (pins : List (Addr × Obj)) (s : Shared) (σ : St) (H : Hp) (xs : List V) (us : List Value) (Q : VK), Inv X pins σ H s → Vals xs us → r xs H Q →
    wpAny (model X.prog X.w) X.A (call f us) (EP X pins σ Q) X.xe s
def tOp (r : R2) (ta tb : TE) : TE := fun σ H Q => ta σ H fun x H1 => tb σ H1 fun y H2 => r x y H2 Q
def tUn (r : V → Hp → VK → Prop) (ta : TE) : TE := fun σ H Q => ta σ H fun x H1 => r x H1 Q
/-- ints in, under C, and a value out -/
def rI (C : Int → Int → Prop) (g : Int → Int → V) : R2 := fun x y H Q => ∃ i j, x = .int i ∧ y = .int j ∧ C i j ∧ Q (g i j) H
def rI0 (g : Int → Int → V) : R2 := fun x y H Q => ∃ i j, x = .int i ∧ y = .int j ∧ Q (g i j) H
def rU (g : Int → V) : V → Hp → VK → Prop := fun x H Q => ∃ i, x = .int i ∧ Q (g i) H

section
variable {X : Cx} {a b c : Expr} {ta tb tc : TE} {pos : Pos}

theorem binT (ha : PE X a ta) (hb : PE X b tb) {pins : List (Addr × Obj)} {s : Shared} {σ : St} {H : Hp} {R : V → V → Hp → Prop} (I : Inv X pins σ H s)
    (h : ta σ H fun x H1 => tb σ H1 fun y H2 => R x y H2) {Q : Value → Shared → Prop} {f : Value → Value → Sem Value}
    (hf : ∀ v u s2 x y H2, Inv X pins σ H2 s2 → RelV x v → RelV y u → R x y H2 → wpAny (model X.prog X.w) X.A (f v u) Q X.xe s2) :
    wpAny (model X.prog X.w) X.A (eval a X.env) (fun v s₁ => wpAny (model X.prog X.w) X.A (eval b X.env) (fun u s₂ => wpAny (model X.prog X.w) X.A (f v u) Q X.xe s₂) X.xe s₁) X.xe s := by
  refine thn (ha pins s σ H _ I h) fun v s1 ⟨x, H1, I1, r1, q1⟩ => ?_
  refine thn (hb pins s1 σ H1 _ I1 q1) fun u s2 ⟨y, H2, I2, r2, q2⟩ => ?_
  exact hf v u s2 x y H2 I2 r1 r2 q2

theorem pe_op {op : Operator} {r : R2} (ho : OpR X (binaryOp op) r) (ha : PE X a ta) (hb : PE X b tb) : PE X (.BinOp a op b pos) (tOp r ta tb) := by
  intro pins s σ H Q I h
  exact wpAny_BinOp (binT ha hb I h fun v u s2 x y H2 I2 rx ry q => ho pins s2 σ H2 x y v u Q I2 rx ry q)
theorem pe_un {op : UnaryOp} {r : V → Hp → VK → Prop} (ho : UnR X (unaryOp op) r) (ha : PE X a ta) : PE X (.UnaryOp op a pos) (tUn r ta) := by
  intro pins s σ H Q I h
  exact UnaryOp_ (thn (ha pins s σ H _ I h) fun v s1 ⟨x, H1, I1, r1, q1⟩ => ho pins s1 σ H1 x v Q I1 r1 q1)
/-! ### ints -/
theorem opI {f : Value → Value → Sem Value} {C : Int → Int → Prop} {g : Int → Int → Int}
    (rule : ∀ (i j : Int) (t u : Tok) (s : Shared) (Q : Value → Shared → Prop) (E : Value → Shared → Prop), C i j → Q (.int (g i j) s.toks) { s with toks := s.toks + 1 } → wpAny (model X.prog X.w) X.A (f (.int i t) (.int j u)) Q E s) :
    OpR X f (rI C fun i j => .int (g i j)) := by
  intro pins s σ H x y v u Q I rx ry h
  obtain ⟨i, j, rfl, rfl, hc, q⟩ := h
  obtain ⟨t, rfl⟩ := rx
  obtain ⟨t', rfl⟩ := ry
  exact rule i j t t' s _ _ hc ⟨.int (g i j), H, I.tok _, ⟨_, rfl⟩, q⟩
theorem opI0 {f : Value → Value → Sem Value} {g : Int → Int → Int}
    (rule : ∀ (i j : Int) (t u : Tok) (s : Shared) (Q : Value → Shared → Prop) (E : Value → Shared → Prop), Q (.int (g i j) s.toks) { s with toks := s.toks + 1 } → wpAny (model X.prog X.w) X.A (f (.int i t) (.int j u)) Q E s) :
    OpR X f (rI0 fun i j => .int (g i j)) := by
  intro pins s σ H x y v u Q I rx ry h
  obtain ⟨i, j, rfl, rfl, q⟩ := h
  obtain ⟨t, rfl⟩ := rx
  obtain ⟨t', rfl⟩ := ry
  exact rule i j t t' s _ _ ⟨.int (g i j), H, I.tok _, ⟨_, rfl⟩, q⟩
theorem opB0 {f : Value → Value → Sem Value} {g : Int → Int → Bool}
    (rule : ∀ (i j : Int) (t u : Tok) (s : Shared) (Q : Value → Shared → Prop) (E : Value → Shared → Prop), Q (.bool (g i j)) s → wpAny (model X.prog X.w) X.A (f (.int i t) (.int j u)) Q E s) :
    OpR X f (rI0 fun i j => .bl (g i j)) := by
  intro pins s σ H x y v u Q I rx ry h
  obtain ⟨i, j, rfl, rfl, q⟩ := h
  obtain ⟨t, rfl⟩ := rx
  obtain ⟨t', rfl⟩ := ry
  exact rule i j t t' s _ _ ⟨.bl (g i j), H, I, rfl, q⟩

def CDiv (i j : Int) : Prop := 0 < j ∧ j < 1073741824
def CPow (i j : Int) : Prop := 0 ≤ j ∧ j ≤ 1000000 ∧ i.natAbs < 2 ^ 64
def CMul (i j : Int) : Prop := (-(2 ^ 64) < i ∧ i < 2 ^ 64) ∨ (-(2 ^ 64) < j ∧ j < 2 ^ 64)
theorem CMul.ok {i j : Int} (h : CMul i j) : IntMulOk i j := by
  rcases h with ⟨h1, h2⟩ | ⟨h1, h2⟩
  · exact .of_left (intBits_le_64 h1 h2)
  · exact .of_right (intBits_le_64 h1 h2)
theorem op_add : OpR X (binaryOp .Add) (rI0 fun i j => .int (i + j)) := opI0 fun _ _ _ _ _ _ _ q => add_int q
theorem op_sub : OpR X (binaryOp .Sub) (rI0 fun i j => .int (i - j)) := opI0 fun _ _ _ _ _ _ _ q => sub_int q
theorem op_mul : OpR X (binaryOp .Mult) (rI CMul fun i j => .int (i * j)) := opI fun _ _ _ _ _ _ _ hc q => mul_int q hc.ok
/-- // by a positive divisor -/
theorem op_fdiv : OpR X (binaryOp .FloorDiv) (rI CDiv fun i j => .int (i / j)) := opI fun i j _ _ _ _ _ hc q => by
  have h1 : (0 : Int) < j := hc.1
  have h2 : j < 1073741824 := hc.2
  exact floordiv_int (by omega) (by rw [Int.fdiv_eq_ediv_of_nonneg i (by omega)]; exact q) (.inl (PyProof.noPylong_small (by omega)))
/-- % by a positive divisor of any size -/
theorem op_mod : OpR X (binaryOp .Mod) (rI (fun _ j => 0 < j) fun i j => .int (i % j)) := opI fun i j _ _ _ _ _ hc q => by
  have h1 : (0 : Int) < j := hc
  exact mod_int' (by omega) (by rw [Int.fmod_eq_emod_of_nonneg i (by omega)]; exact q)
theorem op_pow : OpR X (binaryOp .Pow) (rI CPow fun i j => .int (i ^ j.toNat)) := opI fun _ _ _ _ _ _ _ hc q => pow_int_small hc.1 hc.2.1 hc.2.2 q
theorem iop_mul : OpR X (inplaceOp .Mult) (rI CMul fun i j => .int (i * j)) := opI fun _ _ _ _ _ _ _ hc q => imul_int q hc.ok
theorem unI {f : Value → Sem Value} {g : Int → Int}
    (rule : ∀ (i : Int) (t : Tok) (s : Shared) (Q : Value → Shared → Prop) (E : Value → Shared → Prop), Q (.int (g i) s.toks) { s with toks := s.toks + 1 } → wpAny (model X.prog X.w) X.A (f (.int i t)) Q E s) :
    UnR X f (rU fun i => .int (g i)) := by
  intro pins s σ H x v Q I rx h
  obtain ⟨i, rfl, q⟩ := h
  obtain ⟨t, rfl⟩ := rx
  exact rule i t s _ _ ⟨.int (g i), H, I.tok _, ⟨_, rfl⟩, q⟩
theorem un_neg : UnR X (unaryOp .USub) (rU fun i => .int (-i)) := unI fun _ _ _ _ _ q => neg_int q
/-! ### bools among ints: n += (a < b) -/
end

/-! ### comparisons -/
/-- the scalars that == tells apart as data does -/
def scal : V → V → Bool
  | .non, .non => true | .non, .int _ => true | .int _, .non => true | .non, .bl _ => true | .bl _, .non => true | .non, .str _ => true | .str _, .non => true
  | .int _, .int _ => true | .bl _, .bl _ => true | .str _, .str _ => true | .byt _, .byt _ => true
  | .int _, .str _ => true | .str _, .int _ => true | .bl _, .str _ => true | .str _, .bl _ => true
  | _, _ => false
def rEq : R2 := fun x y H Q => scal x y = true ∧ Q (.bl (decide (x = y))) H
theorem dec_int {i j : Int} : decide (V.int i = V.int j) = (i == j) := by
  rw [Bool.eq_iff_iff]
  simp
theorem dec_bl {i j : Bool} : decide (V.bl i = V.bl j) = (i == j) := by
  rw [Bool.eq_iff_iff]
  simp
theorem dec_str {i j : Str} : decide (V.str i = V.str j) = (i == j) := by
  rw [Bool.eq_iff_iff]
  simp
theorem dec_byt {i j : Array UInt8} : decide (V.byt i = V.byt j) = (i.toList == j.toList) := by
  rw [Bool.eq_iff_iff]
  cases i
  cases j
  simp

section
variable {X : Cx} {a b c : Expr} {ta tb tc : TE} {pos : Pos}
theorem fin_bl {pins : List (Addr × Obj)} {σ : St} {H : Hp} {s : Shared} {Q : VK} {k k' : Bool} (I : Inv X pins σ H s) (q : Q (.bl k) H) (e : k = k') : EP X pins σ Q (.bool k') s := by
  subst e
  exact ⟨.bl k, H, I, rfl, q⟩
theorem op_eq : OpR X (compareOp .Eq) rEq := by
  intro pins s σ H x y v u Q I rx ry h
  obtain ⟨hs, q⟩ := h
  cases x with
  | non =>
    cases rx
    cases y with
    | non => cases ry; exact PySem.EqNone.eq_none_none (fin_bl I q (by simp))
    | bl j => cases ry; exact PySem.EqNone.eq_none_bool (fin_bl I q (by simp))
    | int j => obtain ⟨t', rfl⟩ := ry; exact PySem.EqNone.eq_none_int (fin_bl I q (by simp))
    | str j => obtain ⟨t', rfl⟩ := ry; exact PySem.EqNone.eq_none_str (fin_bl I q (by simp))
    | _ => exact absurd (show false = true from hs) Bool.false_ne_true
  | bl i =>
    cases rx
    cases y with
    | non => cases ry; exact PySem.EqNone.eq_bool_none (fin_bl I q (by simp))
    | bl j => cases ry; exact eq_bool (fin_bl I q dec_bl)
    | str j => obtain ⟨t', rfl⟩ := ry; exact PySem.EqMixed.eq_bool_str (fin_bl I q (by simp))
    | _ => exact absurd (show false = true from hs) Bool.false_ne_true
  | int i =>
    obtain ⟨t, rfl⟩ := rx
    cases y with
    | non => cases ry; exact PySem.EqNone.eq_int_none (fin_bl I q (by simp))
    | int j => obtain ⟨t', rfl⟩ := ry; exact eq_int (fin_bl I q dec_int)
    | str j => obtain ⟨t', rfl⟩ := ry; exact PySem.EqMixed.eq_int_str (fin_bl I q (by simp))
    | _ => exact absurd (show false = true from hs) Bool.false_ne_true
  | str i =>
    obtain ⟨t, rfl⟩ := rx
    cases y with
    | non => cases ry; exact PySem.EqNone.eq_str_none (fin_bl I q (by simp))
    | bl j => cases ry; exact PySem.EqMixed.eq_str_bool (fin_bl I q (by simp))
    | int j => obtain ⟨t', rfl⟩ := ry; exact PySem.EqMixed.eq_str_int (fin_bl I q (by simp))
    | str j => obtain ⟨t', rfl⟩ := ry; exact eq_str (fin_bl I q dec_str)
    | _ => exact absurd (show false = true from hs) Bool.false_ne_true
  | byt i =>
    obtain ⟨t, rfl⟩ := rx
    cases y with
    | byt j => obtain ⟨t', rfl⟩ := ry; exact PySem.W.eq_bytes (fin_bl I q dec_byt)
    | _ => exact absurd (show false = true from hs) Bool.false_ne_true
  | _ => cases y <;> exact absurd (show false = true from hs) Bool.false_ne_true
theorem op_lt : OpR X (compareOp .Lt) (rI0 fun i j => .bl (decide (i < j))) := opB0 fun _ _ _ _ _ _ _ q => lt_int q
theorem op_le : OpR X (compareOp .LtE) (rI0 fun i j => .bl (decide (i ≤ j))) := opB0 fun _ _ _ _ _ _ _ q => le_int q
theorem op_gt : OpR X (compareOp .Gt) (rI0 fun i j => .bl (decide (j < i))) := opB0 fun _ _ _ _ _ _ _ q => gt_int q
theorem op_ge : OpR X (compareOp .GtE) (rI0 fun i j => .bl (decide (j ≤ i))) := opB0 fun _ _ _ _ _ _ _ q => ge_int q
/-- is None, is not None: the right side a value none -/
theorem op_isN : OpR X (compareOp .Is) (fun x y H Q => y = .non ∧ Q (.bl (decide (x = .non))) H) := by
  intro pins s σ H x y v u Q I rx ry h
  obtain ⟨rfl, q⟩ := h
  cases ry
  refine is_none_gen (fin_bl I q ?_)
  cases x <;> first
    | (cases rx; rfl)
    | (obtain ⟨t, rfl⟩ := rx; rfl)
theorem op_notN : OpR X (compareOp .IsNot) (fun x y H Q => y = .non ∧ Q (.bl (!decide (x = .non))) H) := by
  intro pins s σ H x y v u Q I rx ry h
  obtain ⟨rfl, q⟩ := h
  cases ry
  refine isnot_none_gen (fin_bl I q ?_)
  cases x <;> first
    | (cases rx; rfl)
    | (obtain ⟨t, rfl⟩ := rx; rfl)

theorem nomark (b : Expr) {op : CmpOp} (h : op ≠ .In := by decide) (h2 : op ≠ .NotIn := by decide) : behindInMarks op b = false := by
  have e1 : (op == CmpOp.In) = false := by cases op <;> first | rfl | exact absurd rfl h
  have e2 : (op == CmpOp.NotIn) = false := by cases op <;> first | rfl | exact absurd rfl h2
  cases b <;> simp [behindInMarks, e1, e2]
/-- a comparison as a value; hm: nomark b, or (for in, not in) by with_unfolding_all rfl -/
theorem pe_cmpR {op : CmpOp} {r : R2} (ho : OpR X (compareOp op) r) (ha : PE X a ta) (hb : PE X b tb) (hm : behindInMarks op b = false) : PE X (.Compare a [op] [b] pos) (tOp r ta tb) := by
  intro pins s σ H Q I h
  exact wpAny_Compare1 (binT ha hb I h fun v u s2 x y H2 I2 rx ry q => ho pins s2 σ H2 x y v u Q I2 rx ry q) hm
/-- a reading of a value as a test -/
def tTest (t : TE) : TT := fun σ H Q => t σ H fun x H' => ∃ k, x = .bl k ∧ Q k H'
theorem pt_cmpR {op : CmpOp} {r : R2} (ho : OpR X (compareOp op) r) (ha : PE X a ta) (hb : PE X b tb) (hm : behindInMarks op b = false) : PT X (.Compare a [op] [b] pos) (tTest (tOp r ta tb)) := by
  intro pins s σ H Q I h
  refine wpAny_isTrue_Compare1 (thn (ha pins s σ H _ I h) fun v s1 ⟨x, H1, I1, r1, q1⟩ => thn (hb pins s1 σ H1 _ I1 q1) fun u s2 ⟨y, H2, I2, r2, q2⟩ =>
    thn (ho pins s2 σ H2 x y v u _ I2 r1 r2 q2) fun c s3 ⟨z, H3, I3, r3, k, e, q3⟩ => ?_) hm
  subst e
  cases r3
  exact wpAny_truthy_bool ⟨H3, I3, q3⟩
/-- a op1 b op2 c -/
def tChain (r r' : R2) (ta tb tc : TE) : TE := fun σ H Q => ta σ H fun x H1 => tb σ H1 fun y H2 => r x y H2 fun z H3 => ∃ k, z = .bl k ∧
  (if k = true then tc σ H3 fun w' H4 => r' y w' H4 Q else Q (.bl false) H3)
theorem pt_chain {op op' : CmpOp} {r r' : R2} (ho : OpR X (compareOp op) r) (ho' : OpR X (compareOp op') r') (ha : PE X a ta) (hb : PE X b tb) (hc : PE X c tc)
    (hm : lastMarks [op, op'] [b, c] = false := by with_unfolding_all rfl) : PT X (.Compare a [op, op'] [b, c] pos) (tTest (tChain r r' ta tb tc)) := by
  intro pins s σ H Q I h
  refine isTrue_chain (thn (ha pins s σ H _ I h) fun v s1 ⟨x, H1, I1, r1, q1⟩ => test_link (thn (hb pins s1 σ H1 _ I1 q1) fun u s2 ⟨y, H2, I2, r2, q2⟩ =>
    thn (ho pins s2 σ H2 x y v u _ I2 r1 r2 q2) fun d s3 ⟨z, H3, I3, r3, k, e, q3⟩ => ?_)) hm
  subst e
  cases r3
  refine wpAny_truthy_bool ?_
  cases k with
  | false =>
    obtain ⟨k', e', q'⟩ := q3
    cases e'
    exact ite_ff ⟨H3, I3, q'⟩
  | true =>
    refine ite_tt (test_last (thn (hc pins s3 σ H3 _ I3 q3) fun w' s4 ⟨z', H4, I4, r4, q4⟩ => thn (ho' pins s4 σ H4 y z' u w' _ I4 r2 r4 q4) fun d' s5 ⟨z2, H5, I5, r5, k2, e2, q5⟩ => ?_))
    subst e2
    cases r5
    exact wpAny_truthy_bool ⟨H5, I5, q5⟩

/-! ### truth -/
theorem line63 : (sizeLine : Nat) < 2 ^ 63 := by rw [sizeLine_eq]; decide
/-! ### strs and bytes -/
/-! ### scalar builtins, by CallR -/
theorem vals1 {x : V} {us : List Value} (r : Vals [x] us) : ∃ u, us = [u] ∧ RelV x u := by
  cases r with
  | cons r1 r2 => cases r2; exact ⟨_, rfl, r1⟩
theorem vals2 {x y : V} {us : List Value} (r : Vals [x, y] us) : ∃ u w', us = [u, w'] ∧ RelV x u ∧ RelV y w' := by
  cases r with
  | cons r1 r2 =>
    cases r2 with
    | cons r3 r4 => cases r4; exact ⟨_, _, rfl, r1, r3⟩
theorem call_max2 (hc : X.calm = true) : CallR X (.builtin "max") (fun xs H Q => ∃ i j, xs = [.int i, .int j] ∧ Q (.int (if j > i then j else i)) H) := by
  intro pins s σ H xs us Q I r h
  obtain ⟨i, j, rfl, q⟩ := h
  obtain ⟨u, w', rfl, ⟨t, rfl⟩, ⟨t', rfl⟩⟩ := vals2 r
  refine max_two_ints (I.ok.hd hc) fun h' tk k => ⟨_, H, I.kept k, ?_, q⟩
  by_cases hj : j > i
  · rw [if_pos hj, if_pos hj]; exact ⟨_, rfl⟩
  · rw [if_neg hj, if_neg hj]; exact ⟨_, rfl⟩
theorem call_min2 (hc : X.calm = true) : CallR X (.builtin "min") (fun xs H Q => ∃ i j, xs = [.int i, .int j] ∧ Q (.int (if j < i then j else i)) H) := by
  intro pins s σ H xs us Q I r h
  obtain ⟨i, j, rfl, q⟩ := h
  obtain ⟨u, w', rfl, ⟨t, rfl⟩, ⟨t', rfl⟩⟩ := vals2 r
  refine min_two_ints (I.ok.hd hc) fun h' tk k => ⟨_, H, I.kept k, ?_, q⟩
  by_cases hj : j < i
  · rw [if_pos hj, if_pos hj]; exact ⟨_, rfl⟩
  · rw [if_neg hj, if_neg hj]; exact ⟨_, rfl⟩
theorem call_int1 : CallR X (.type "int") (fun xs H Q => (∃ i, xs = [.int i] ∧ Q (.int i) H) ∨ ∃ k, xs = [.bl k] ∧ Q (.int (if k then 1 else 0)) H) := by
  intro pins s σ H xs us Q I r h
  rcases h with ⟨i, rfl, q⟩ | ⟨k, rfl, q⟩
  · obtain ⟨u, rfl, t, rfl⟩ := vals1 r
    exact call_int_int ⟨.int i, H, I, ⟨_, rfl⟩, q⟩
  · obtain ⟨u, rfl, r1⟩ := vals1 r
    cases r1
    exact call_int_bool ⟨.int (if k then 1 else 0), H, I.tok _, ⟨_, rfl⟩, q⟩
end
end L2

namespace L2
open PySem PySem.Spec PyProof.Rows

/-! ### an instance, its attributes a map -/
structure ObjM (h : Heap) (x dx C : Addr) (mA : Str → Option Value) : Prop where
  obj : h.get? x = some (PySem.W.instObj C dx)
  ns : h.Ns1 dx mA
  ne : dx ≠ x

theorem lookIn_ns {h : Heap} {dx : Addr} {mA : Str → Option Value} (n : h.Ns1 dx mA) : ∃ od, h.get? dx = some od ∧ ∀ name, PySem.W.lookIn name od = some (mA name) := by
  obtain ⟨o, es, ep, ho, hd, hk, _, hm⟩ := n
  refine ⟨o, ho, fun name => ?_⟩
  have e := hm name
  unfold nsFind findBy at e
  rw [← Array.find?_toList] at e
  unfold PySem.W.lookIn
  rw [hd]
  dsimp only
  split
  · rename_i y q
    rw [q] at e
    exact congrArg some e
  · rename_i q
    rw [q] at e
    have a : es.toList.any (·.refKey) = false := by
      rw [List.any_eq_false]
      intro y hy
      obtain ⟨z, t, hkey⟩ := hk y (Array.mem_toList_iff.mp hy)
      simp [DictEntry.refKey, hkey]
    have a' : ¬ es.toList.any (·.refKey) = true := by rw [a]; exact Bool.false_ne_true
    rw [if_neg a']
    exact congrArg some e

theorem ObjM.look {h : Heap} {x dx C : Addr} {mA : Str → Option Value} (I : ObjM h x dx C mA) : ∃ od, PySem.W.InstAt h x (PySem.W.instObj C dx) C (some od) ∧ ∀ name, PySem.W.lookIn name od = some (mA name) :=
  let ⟨od, ho, hl⟩ := lookIn_ns I.ns
  ⟨od, ⟨I.obj, rfl, rfl, ho⟩, hl⟩

section
variable {prog : Program} {w : World} {A : Around} {E : Value → Shared → Prop} {s : Shared} {K : PySem.W.Frag} {x dx C f : Addr} {mA : Str → Option Value} {name : Str} {v : Value}

end

/-! ### the attributes as a list of pairs -/
section
variable {P : Program} {w : World} {H H' : Hp} {h h' : Heap} {a C dx : Addr} {fs fs' : List (Str × V)}
theorem ins_get (hok : HOk P w H h) (e : H a = some (.ins C dx fs)) : ∃ mA, ObjM h a dx C mA ∧ (∀ f, RelO (fs.lookup f) (mA f)) ∧ PySem.Within mA (fs.map (·.1)) ∧ fs.length ≤ 1000 ∧ H dx = some (.own a) := by
  obtain ⟨d, z, ne, ob, mA, n, r, q⟩ := (show ObjOk P w H h a (.ins C dx fs) from hok a _ e)
  exact ⟨mA, ⟨ob, n, ne⟩, r, q, z, d⟩
end

/-! ### what of the text a class must have -/
structure Cls (K : PySem.W.Frag) (C : Addr) : Prop where
  pg : PySem.W.plainGet K C Str.empty = true
  hd : PySem.W.hasDictIn K C = true
  po : PySem.W.plainOver K C = true
  sa : PySem.W.findIn K (.ref C) "__setattr__" = some (some (.builtin "object.__setattr__"))
theorem Cls.get {K : PySem.W.Frag} {C : Addr} (c : Cls K C) (f : Str) : PySem.W.plainGet K C f = true := c.pg
/-- a constant of the class -/
structure Con (K : PySem.W.Frag) (C : Addr) (f : Str) (v : V) (u : Value) : Prop where
  at_ : PySem.W.findIn K (.ref C) f = some (some u)
  rel : RelV v u
  get : PySem.W.specialIn K u "__get__" = some none
  cp : PySem.W.copiedNames.contains f = false
/-- a method: a plain def of the class or of one above it -/
structure Meth (K : PySem.W.Frag) (C : Addr) (m : Str) (f : Addr) : Prop where
  at_ : PySem.W.findIn K (.ref C) m = some (some (.ref f))
  fn : PySem.W.isFn K (.ref f) = true
  kp : PySem.W.keepIn K (.ref f) = true

section
variable {X : Cx} {pins : List (Addr × Obj)} {σ : St} {H : Hp} {s : Shared} {a C dx : Addr} {fs : List (Str × V)} {f : Str} {v : V} {A : Around} {E : Value → Shared → Prop}

end

/-! ### readings and rules -/
section
variable {X : Cx} {o e value : Expr} {f : Str} {pos pos' tpos : Pos} {ta tv : TE}
end

/-! ### isinstance -/
section
variable {X : Cx} {pins : List (Addr × Obj)} {σ : St} {H : Hp} {s : Shared} {A : Around} {E : Value → Shared → Prop} {Q : Value → Shared → Prop} {c : Value} {b : Bool}
/-- the type of a value, as the fragment's deciders take it; for an instance its class -/
inductive TyOf (K : PySem.W.Frag) (H : Hp) : V → Value → Prop where
  | non : TyOf K H .non (.type "NoneType")
  | bl (x : Bool) : TyOf K H (.bl x) (.type "bool")
  | int (i : Int) : TyOf K H (.int i) (.type "int")
  | str (x : Str) : TyOf K H (.str x) (.type "str")
  | flt (x : UInt64) : TyOf K H (.flt x) (.type "float")
  | lst {a : Addr} {xs : List V} (e : H a = some (.lst xs)) : TyOf K H (.ref a) (.type "list")
  | frz {a : Addr} {o : Obj} {xs : List V} (e : H a = some (.frz o (.lst xs))) : TyOf K H (.ref a) (.type "list")
  | tup {a : Addr} {xs : List V} (e : H a = some (.tup xs)) : TyOf K H (.ref a) (.type "tuple")
  | dK {a : Addr} {kvs : List (Key × V)} (e : H a = some (.dK kvs)) : TyOf K H (.ref a) (.type "dict")
  | dT {a : Addr} {kvs : List (List Key × V)} (e : H a = some (.dT kvs)) : TyOf K H (.ref a) (.type "dict")
  | ins {a C dx : Addr} {fs : List (Str × V)} (e : H a = some (.ins C dx fs)) (cl : Cls K C) (ha : PySem.W.findIn K (.ref C) "__class__" = some (some (.builtin "object.__class__")))
      (hn : PySem.W.specialIn K (.builtin "object.__class__") "__get__" = some (some (.builtin "getset_descriptor.__get__"))) (htk : PySem.W.takesIn K (.builtin "object.__class__") = some true)
      (hm : PySem.W.mroIn K C (.type "object") = some true) : TyOf K H (.ref a) (.ref C)
/-- isinstance(x, c) for one class c, a built-in or an own one: kitOne's answer -/
theorem isinst_ok {x : V} {u t : Value} (I : Inv X pins σ H s) (rx : RelV x u) (ty : TyOf X.K H x t) (e : PySem.W.kitOne X.K t c = some b) (h : ∀ tk, Q (.bool b) { s with toks := tk }) :
    wpAny (model X.prog X.w) A (call (.builtin "isinstance") [u, c]) Q E s := by
  cases ty with
  | non => cases (show u = Value.none from rx); exact PySem.W.kia_one PySem.W.kitx_none I.kIn True.intro e (fun z => nomatch z) h
  | bl y => cases (show u = Value.bool y from rx); exact PySem.W.kia_one PySem.W.kitx_bool I.kIn True.intro e (fun z => nomatch z) h
  | int i => obtain ⟨t, q⟩ := (show ∃ t, u = Value.int i t from rx); cases q; exact PySem.W.kia_one PySem.W.kitx_int I.kIn True.intro e (fun z => nomatch z) h
  | str y => obtain ⟨t, q⟩ := (show ∃ t, u = Value.str y t from rx); cases q; exact PySem.W.kia_one PySem.W.kitx_str I.kIn True.intro e (fun z => nomatch z) h
  | flt y => obtain ⟨t, q⟩ := (show ∃ t, u = Value.float y t from rx); cases q; exact PySem.W.kia_one PySem.W.kitx_float I.kIn True.intro e (fun z => nomatch z) h
  | @lst a xs ea =>
    cases (show u = Value.ref a from rx)
    obtain ⟨_, _, n, _, h1⟩ := (show ObjOk X.prog X.w H s.heap a (.lst xs) from I.hok a _ ea)
    exact PySem.W.kia_one PySem.W.kitx_list I.kIn ⟨_, h1, rfl⟩ e (fun z => nomatch z) h
  | @frz a ob xs ea =>
    cases (show u = Value.ref a from rx)
    obtain ⟨_, _, _, n, _, h1⟩ := (show ObjOk X.prog X.w H s.heap a (.frz ob (.lst xs)) from I.hok a _ ea)
    exact PySem.W.kia_one PySem.W.kitx_list I.kIn ⟨_, h1, rfl⟩ e (fun z => nomatch z) h
  | @tup a xs ea =>
    cases (show u = Value.ref a from rx)
    obtain ⟨_, _, _, p⟩ := (show ObjOk X.prog X.w H s.heap a (.tup xs) from I.hok a _ ea)
    obtain ⟨o, h1, h2, _⟩ := p
    exact PySem.W.kia_one PySem.W.kitx_tuple I.kIn ⟨o, h1, h2⟩ e (fun z => nomatch z) h
  | @dK a kvs ea =>
    cases (show u = Value.ref a from rx)
    obtain ⟨_, _, vs, _, p⟩ := (show ObjOk X.prog X.w H s.heap a (.dK kvs) from I.hok a _ ea)
    obtain ⟨o, es, ep, h1, h2, _⟩ := p
    exact PySem.W.kia_one PySem.W.kitx_dict I.kIn ⟨o, h1, h2.1⟩ e (fun z => nomatch z) h
  | @dT a kvs ea =>
    cases (show u = Value.ref a from rx)
    obtain ⟨_, _, xs, _, o, es, ep, h1, h2, _⟩ := (show ObjOk X.prog X.w H s.heap a (.dT kvs) from I.hok a _ ea)
    exact PySem.W.kia_one PySem.W.kitx_dict I.kIn ⟨o, h1, h2.1⟩ e (fun z => nomatch z) h
  | @ins a C dx fs ea cl ha hn htk hm =>
    cases (show u = Value.ref a from rx)
    obtain ⟨mA, O, _⟩ := ins_get I.hok ea
    obtain ⟨od, J, _⟩ := O.look
    exact PySem.W.kia_one (PySem.W.kitx_own (cl.get _) cl.hd ha hn htk hm) I.kIn J e (fun z => nomatch z) h
end
end L2

namespace L2
open PySem PySem.Spec PyProof.Rows

/-! ### room -/
structure Room (k : Nat) (A : Around) : Prop where
  hd : A.handled = none
  dp : A.depth + 3 * k + 5 < recursionLimit
  un : A.units + 16 * k + 200 < cLine
  gd : A.guards = some []
theorem Room.mono {j k : Nat} {A : Around} (r : Room k A) (h : j ≤ k) : Room j A := ⟨r.hd, by have := r.dp; omega, by have := r.un; omega, r.gd⟩
theorem Room.deeper {k : Nat} {A : Around} (r : Room (k + 1) A) (env : Env) : Room k (A.deeper env) :=
  ⟨r.hd, by have := r.dp; show A.depth + 1 + 3 * k + 5 < _; omega, by have := r.un; show A.units + 3 + 16 * k + 200 < _; omega, r.gd⟩
theorem Room.depth {k : Nat} {A : Around} (r : Room k A) : A.depth < recursionLimit := by have := r.dp; omega
theorem Room.units {k : Nat} {A : Around} (r : Room k A) : A.units + 64 < cLine := by have := r.un; omega
/-! ### argument lists and displays -/
def tNil : TA := fun _ H Q => Q [] H
def tCons (ta : TE) (tr : TA) : TA := fun σ H Q => ta σ H fun x H1 => tr σ H1 fun xs H2 => Q (x :: xs) H2
section
variable {X : Cx} {e : Expr} {es : List Expr} {te : TE} {t : TA} {pos : Pos}
theorem pa_nil : PA X [] tNil := fun _ _ _ _ H Q I h => Calls.spliced_nil ⟨[], H, I, .nil, h⟩
theorem pa_cons (ha : PE X e te) (hr : PA X es t) (hs : starEach (e :: es) X.env = (false, eval e X.env) :: starEach es X.env := by rfl) : PA X (e :: es) (tCons te t) := by
  intro pos pins s σ H Q I h
  rw [hs]
  show wpAny _ _ (spliced ((false, eval e X.env) :: backTo pos (starEach es X.env))) _ _ s
  refine Calls.spliced_cons (thn (ha pins s σ H _ I h) fun u s1 ⟨x, H1, I1, r1, q1⟩ => ?_)
  exact thn (hr pos pins s1 σ H1 _ I1 q1) fun us s2 ⟨xs, H2, I2, r2, q2⟩ => ⟨x :: xs, H2, I2, .cons r1 r2, q2⟩

/-- a tuple, a list of written items -/
def tTup (t : TA) : TE := fun σ H Q => t σ H fun xs H1 => xs.length ≤ sizeLine ∧ ∀ p, H1 p = none → Q (.ref p) (upd H1 p (.tup xs))
def tLst (t : TA) : TE := fun σ H Q => t σ H fun xs H1 => xs.length ≤ sizeLine ∧ ∀ p, H1 p = none → Q (.ref p) (upd H1 p (.lst xs))
theorem pe_tup {x1} (h : PA X es t) : PE X (.Tuple es x1 pos) (tTup t) := by
  intro pins s σ H Q I hq
  refine wpAny_Tuple_spliced (thn (h pos pins s σ H _ I hq) fun us s1 ⟨xs, H1, I1, r, z, q⟩ => ⟨by rw [← r.length]; exact z, ?_⟩)
  have hf : H1 s1.heap.objs.size = none := I1.hok.fresh (Nat.le_refl _)
  refine ⟨.ref s1.heap.objs.size, upd H1 s1.heap.objs.size (.tup xs), I1.laid (t' := s1.toks) (fun b u e => Heap.get?_push_of_some _ e) (Nat.le_refl _) ?_, rfl, q _ hf⟩
  exact ⟨z, us, r, ⟨_, Heap.get?_push_size _ rfl, rfl, rfl, _, rfl⟩⟩
theorem pe_lst (h : PA X es t) : PE X (.List es pos) (tLst t) := by
  intro pins s σ H Q I hq
  refine wpAny_List_spliced (thn (h pos pins s σ H _ I hq) fun us s1 ⟨xs, H1, I1, r, z, q⟩ => ⟨by rw [← r.length]; exact z, ?_⟩)
  have hf : H1 s1.heap.objs.size = none := I1.hok.fresh (Nat.le_refl _)
  refine ⟨.ref s1.heap.objs.size, upd H1 s1.heap.objs.size (.lst xs), I1.laid (t' := s1.toks) (fun b u e => Heap.get?_push_of_some _ e) (Nat.le_refl _) ?_, rfl, q _ hf⟩
  exact ⟨z, us, 0, r, Heap.get?_push_size _ rfl⟩
end

/-! ### what a def promises -/
/-- a def's promise: the bound arguments in the parameters' order, the heap, the wanted end, the wanted exception -/
abbrev Sp := List V → Hp → VK → XK → Prop
/-- how an exception lies behind a call (file 08 gives it): the callers' frames, abstract heap and state ahead of the call, the wish, the exception, the state -/
abbrev CXT := List Env → Hp → Shared → XK → Value → Shared → Prop

/-- the state at a call -/
structure Env0 (P : Program) (w : World) (K : PySem.W.Frag) (mg : Str → Option Value) (base : Heap) (A : Around) (outer : List Env) (s : Shared) (H : Hp) : Prop where
  frames : A.frames = some outer
  mod : Mod K mg base
  bs : ∀ b o, base.get? b = some o → s.heap.get? b = some o ∧ H b = none
  bsz : base.objs.size ≤ s.heap.objs.size
  funs : s.heap.FunFrames base outer
  frf : ∀ b ∈ frs outer, H b = none
  hok : HOk P w H s.heap
  bare : AllBare s.gens
/-- a call's end -/
def CE (outer : List Env) (P : Program) (w : World) (H : Hp) (s : Shared) (Q : VK) (u : Value) (s' : Shared) : Prop :=
  ∃ v H', s'.os = s.os ∧ AllBare s'.gens ∧ Un (frs outer) [] H H' s.heap s'.heap ∧ HOk P w H' s'.heap ∧ RelV v u ∧ Q v H'
def CR (CX : CXT) (outer : List Env) (P : Program) (w : World) (H : Hp) (s : Shared) (Q : VK) (E : XK) (r : Result) (s' : Shared) : Prop :=
  match r with
  | .ok (.ret u) => CE outer P w H s Q u s'
  | .ok _ => False
  | .error e => CX outer H s E e s'
structure FnOk (P : Program) (w : World) (K : PySem.W.Frag) (mg : Str → Option Value) (base : Heap) (CX : CXT) (k : Nat) (f : Addr) (fd : FuncData) (ps : List Str) (sp : Sp) : Prop where
  len : ∀ vs H Q E, sp vs H Q E → vs.length = ps.length
  run : ∀ (A : Around) (outer : List Env) (s : Shared) (H : Hp) (args : Args) (us : List Value) (vs : List V) (Q : VK) (E : XK), Room k A → Env0 P w K mg base A outer s H → BindsTo s fd args (ps.zip us) → Vals vs us → sp vs H Q E →
    codeAny (model P w) A (.call (.ref f) args) (CR CX outer P w H s Q E) s
section
variable {X : Cx} {pins : List (Addr × Obj)} {σ : St} {H : Hp} {s s' : Shared}
/-- from a body: what a callee wants -/
theorem Inv.env0 (I : Inv X pins σ H s) : Env0 X.prog X.w X.K X.mg X.base X.A X.stack s H :=
  ⟨I.ok.frames, I.ok.mod, I.bs, Nat.le_trans I.ok.bsz I.sz, I.stack, I.stkFree, I.hok, I.bare⟩
/-- behind a call -/
theorem Inv.after {Q : VK} {u : Value} (I : Inv X pins σ H s) (h : CE X.stack X.prog X.w H s Q u s') : EP X pins σ Q u s' := by
  obtain ⟨v, H', os, bare, un, hok, r, q⟩ := h
  obtain ⟨hh, g, d, t, os'⟩ := s'
  obtain rfl : os' = s.os := os
  exact ⟨v, H', I.call (h' := hh) (g' := g) (d' := d) (t' := t) (ch := []) un hok bare (fun b z => absurd z (by simp)), r, q⟩
end

/-! ### calls -/
/-- f(..): the written arguments, then the defaults dvs; E: what is wanted of an exception -/
def tCall (sp : Sp) (dvs : List V) (E : XK) (t : TA) : TE := fun σ H Q => t σ H fun vs H1 => sp (vs ++ dvs) H1 Q E
/-- how the parameters are bound: us the positional arguments, kw the keywords' values by name, ds the defaults that fill up -/
def Binds (K : PySem.W.Frag) (fd : FuncData) (ps : List Str) (ds : List Value) : Prop :=
  ∀ (s : Shared) (us : List Value), K.In s.heap → (us ++ ds).length = ps.length → BindsTo s fd ⟨us, []⟩ (ps.zip (us ++ ds))
/-- every parameter is given -/
theorem Binds.all {K : PySem.W.Frag} {fd : FuncData} {ps : List Str} (h : ∀ us : List Value, us.length = ps.length → bindArgs fd ⟨us, []⟩ = pure (ps.zip us)) : Binds K fd ps [] := fun s us _ hl => by
  rw [List.append_nil] at hl ⊢
  exact .of_eq (h us hl)

/-- an exception of a callee reaches what this body wants of exceptions -/
def Passes (CX : CXT) (X : Cx) (E : XK) : Prop := ∀ (pins : List (Addr × Obj)) (σ : St) (H : Hp) (s : Shared) (e : Value) (s' : Shared), Inv X pins σ H s → CX X.stack H s E e s' → X.xe e s'

section
variable {X : Cx} {CX : CXT} {k : Nat} {f C : Addr} {fd : FuncData} {ps : List Str} {sp : Sp} {dvs : List V} {ds : List Value} {E : XK} {x m : Str} {p pos apos : Pos} {e o : Expr} {es : List Expr} {ta : TE} {t : TA}

/-- the callee runs -/
theorem run_fn {pins : List (Addr × Obj)} {σ : St} {H : Hp} {s : Shared} {Q : VK} {us : List Value} {vs : List V} (F : FnOk X.prog X.w X.K X.mg X.base CX k f fd ps sp) (hr : Room k X.A) (hb : Binds X.K fd ps ds) (hd : Vals dvs ds) (hx : Passes CX X E)
    (I : Inv X pins σ H s) (r : Vals vs us) (h : sp (vs ++ dvs) H Q E) : wpAny (model X.prog X.w) X.A (call (.ref f) us) (EP X pins σ Q) X.xe s := by
  have r2 : Vals (vs ++ dvs) (us ++ ds) := r.append hd
  have hl : (us ++ ds).length = ps.length := by rw [← r2.length]; exact F.len _ _ _ _ h
  refine wpAny_call (codeAny_mono (F.run X.A X.stack s H ⟨us, []⟩ (us ++ ds) (vs ++ dvs) Q E hr I.env0 (hb s us I.kIn hl) r2 h) fun r s' hq => ?_)
  cases r with
  | error e => exact hx pins σ H s e s' I hq
  | ok fl =>
    cases fl with
    | ret u => exact I.after hq
    | next => exact False.elim hq
    | brk => exact False.elim hq
    | cont => exact False.elim hq

theorem pe_call (F : FnOk X.prog X.w X.K X.mg X.base CX k f fd ps sp) (hr : Room k X.A) (hg : Gl X x) (hm : X.mg x = some (.ref f)) (hk : PySem.W.keepIn X.K (.ref f) = true) (hb : Binds X.K fd ps ds) (hd : Vals dvs ds) (hx : Passes CX X E)
    (ha : PA X (e :: es) t) (hdb : (x == ("__debug__" : Str)) = false := by decide) (he : starEach (e :: es) X.env = (false, eval e X.env) :: starEach es X.env := by rfl) (hpl : (backTo pos (starEach es X.env)).any (·.1) = false := by rfl) :
    PE X (.Call (.Name x p) (e :: es) [] pos) (tCall sp dvs E t) := by
  intro pins s σ H Q I h
  refine wpAny_Call_Name_kw (ld_glob I hg hm ?_ hdb)
  refine PySem.W.callWith_K (h₀ := X.base) I.ok.mod.kin hk (thn (ha pos pins s σ H _ I h) fun us s1 ⟨vs, H1, I1, r, q⟩ => ⟨I1.kIn, ?_⟩) he hpl
  exact run_fn F hr hb hd hx I1 r q
/-- what a class must have to be made -/
structure Mk (K : PySem.W.Frag) (C f : Addr) : Prop where
  makes : PySem.W.makesIn K C = true
  init : PySem.W.findIn K (.ref C) "__init__" = some (some (.ref f))
  fn : PySem.W.isFn K (.ref f) = true
  kp : PySem.W.keepIn K (.ref C) = true

end

/-! ### keywords -/
section
variable {X : Cx} {CX : CXT} {k : Nat} {f C : Addr} {fd : FuncData} {ps ks : List Str} {sp : Sp} {E : XK} {x m : Str} {p pos apos kpos : Pos} {e o : Expr} {es : List Expr} {kws : List Keyword} {te ta : TE} {t tk : TA} {nm : Option Str}
/-- how a call with keywords binds: g puts the positional values us and the keywords' values ws (names ks) in the parameters' order, defaults among them -/
structure KBinds (K : PySem.W.Frag) (fd : FuncData) (ps ks : List Str) (g : List Value → List Value → List Value) (gV : List V → List V → List V) : Prop where
  to : ∀ (s : Shared) (us ws : List Value), K.In s.heap → (g us ws).length = ps.length → BindsTo s fd ⟨us, ks.zip ws⟩ (ps.zip (g us ws))
  rel : ∀ {vs : List V} {us : List Value} {zs : List V} {ws : List Value}, Vals vs us → Vals zs ws → Vals (gV vs zs) (g us ws)
variable {g : List Value → List Value → List Value} {gV : List V → List V → List V}
end

/-! ### a def's body keeps its promise -/
/-- names: the parameters first -/
structure FnScope (N P : List Str) (sc : Scope) : Prop where
  kind : sc.kind = .function
  co : sc.isCoroutine = false
  gen : sc.isGenerator = false
  nd : N.Nodup
  pre : N.take P.length = P
  par : ∀ x ∈ P, sc.names.lookup x = some .local ∨ sc.names.lookup x = some .cell
  nofree : ∀ y ∈ sc.names, y.2 ≠ .free

theorem bindL_out {kindOf : Str → Option NameKind} {x : Str} : ∀ {binds : List (Str × Value)} {m : Str → Option Value}, (∀ v, (x, v) ∉ binds) → bindL kindOf binds m x = m x
  | [], _, _ => rfl
  | (n, v) :: r, m, h => by
    unfold bindL
    rw [bindL_out fun w hw => h w (List.mem_cons_of_mem _ hw)]
    split
    · have : x ≠ n := by rintro rfl; exact h v List.mem_cons_self
      simp [this]
    · rfl
theorem bindC_out {kindOf : Str → Option NameKind} {x : Str} : ∀ {binds : List (Str × Value)} {m : Str → Option Value}, (∀ v, (x, v) ∉ binds) → bindC kindOf binds m x = m x
  | [], _, _ => rfl
  | (n, v) :: r, m, h => by
    unfold bindC
    rw [bindC_out fun w hw => h w (List.mem_cons_of_mem _ hw)]
    split
    · rfl
    · have : x ≠ n := by rintro rfl; exact h v List.mem_cons_self
      simp [this]
theorem bindL_get {kindOf : Str → Option NameKind} {x : Str} {v : Value} : ∀ {P : List Str} {vs : List Value} {i : Nat} {m : Str → Option Value}, P.Nodup → P[i]? = some x → vs[i]? = some v → kindOf x = some .local →
    bindL kindOf (P.zip vs) m x = some v
  | [], _, _, _, _, h, _, _ => by simp at h
  | _ :: _, [], _, _, _, _, h, _ => by simp at h
  | p :: P, w :: vs, 0, m, nd, h1, h2, hk => by
    simp at h1 h2; subst h1; subst h2
    show bindL kindOf ((p, w) :: P.zip vs) m p = _
    unfold bindL
    rw [bindL_out fun v hv => (List.nodup_cons.mp nd).1 (List.of_mem_zip hv).1, if_pos hk]
    simp
  | p :: P, w :: vs, i + 1, m, nd, h1, h2, hk => by
    show bindL kindOf ((p, w) :: P.zip vs) m x = _
    unfold bindL
    exact bindL_get (i := i) (List.nodup_cons.mp nd).2 (by simpa using h1) (by simpa using h2) hk
theorem bindC_get {kindOf : Str → Option NameKind} {x : Str} {v : Value} : ∀ {P : List Str} {vs : List Value} {i : Nat} {m : Str → Option Value}, P.Nodup → P[i]? = some x → vs[i]? = some v → kindOf x ≠ some .local →
    bindC kindOf (P.zip vs) m x = some v
  | [], _, _, _, _, h, _, _ => by simp at h
  | _ :: _, [], _, _, _, _, h, _ => by simp at h
  | p :: P, w :: vs, 0, m, nd, h1, h2, hk => by
    simp at h1 h2; subst h1; subst h2
    show bindC kindOf ((p, w) :: P.zip vs) m p = _
    unfold bindC
    rw [bindC_out fun v hv => (List.nodup_cons.mp nd).1 (List.of_mem_zip hv).1, if_neg hk]
    simp
  | p :: P, w :: vs, i + 1, m, nd, h1, h2, hk => by
    show bindC kindOf ((p, w) :: P.zip vs) m x = _
    unfold bindC
    exact bindC_get (i := i) (List.nodup_cons.mp nd).2 (by simpa using h1) (by simpa using h2) hk

/-- the names' values at the entry -/
def start (N : List Str) (vs : List V) : St := vs.map some ++ List.replicate (N.length - vs.length) none

/-- the context of a def's body, at its entry; an exception leaves the frame, then lies as CX says -/
def cxOf (CX : CXT) (P : Program) (w : World) (K : PySem.W.Frag) (mg : Str → Option Value) (base : Heap) (N : List Str) (qual : Str) (scope : Scope) (f : Addr) (cd : Value) (A : Around) (outer : List Env) (s : Shared) (H : Hp) (E : XK) : Cx where
  prog := P
  w := w
  K := K
  mg := mg
  base := base
  A := A.deeper (envOfC qual scope s.heap.objs.size f cd)
  N := N
  s₀ := s
  H₀ := H
  env := envOfC qual scope s.heap.objs.size f cd
  outer := outer
  stack := envOfC qual scope s.heap.objs.size f cd :: outer
  ex := []
  calm := true
  fn := fun _ => true
  pn := []
  xe := fun e s' => wpAny (model P w) (A.deeper (envOfC qual scope s.heap.objs.size f cd)) (leaving (envOfC qual scope s.heap.objs.size f cd) e) (fun _ s'' => CX outer H s E e s'') (fun e' s'' => CX outer H s E e' s'') s'

theorem cell_has {sc : Scope} {n : Nat} {x : Str} (h : sc.names.lookup x = some .cell) : ∃ c, (cellsFrom n sc.names []).lookup x = some c := by
  have q := PySem.W.cellsFrom_some sc.names n [] (.inl h)
  exact Option.isSome_iff_exists.mp q

theorem inv_start {CX : CXT} {P : Program} {w : World} {K : PySem.W.Frag} {mg : Str → Option Value} {base : Heap} {N ps : List Str} {qual : Str} {scope : Scope} {f : Addr} {cd : Value} {A : Around} {outer : List Env} {s s1 : Shared} {H : Hp} {E : XK} {us : List Value} {vs : List V}
    (S : FnScope N ps scope) (hd : A.handled = none) (e0 : Env0 P w K mg base A outer s H) (hl : vs.length = ps.length) (r : Vals vs us)
    (x : InCallC s s.heap.objs.size (bindL (envOfC qual scope s.heap.objs.size f cd).kindOf (ps.zip us) fun _ => none) (cellsFrom (s.heap.objs.size + 1) scope.names []) (bindC (envOfC qual scope s.heap.objs.size f cd).kindOf (ps.zip us) fun _ => none) s1) :
    Inv (cxOf CX P w K mg base N qual scope f cd A outer s H E) [] (start N vs) H s1 := by
  have hpl : ps.length ≤ N.length := by have := congrArg List.length S.pre; rw [List.length_take] at this; omega
  obtain ⟨h1, tk, rfl, hk⟩ := x.done
  have noA : ∀ b : Addr, b ∉ (cxOf CX P w K mg base N qual scope f cd A outer s H E).ex := fun b z => absurd (show b ∈ ([] : List Addr) from z) (by simp)
  refine ⟨⟨e0.mod, S.kind, rfl, rfl, Nat.le_refl _, fun y z c h1 h2 => ?_, fun y hy => ?_, fun y c _ h => ?_, fun _ => hd, Around.frames_deeper e0.frames, .inr ⟨rfl, rfl⟩, fun b z => absurd z (noA b), e0.bs, e0.bsz, fun b _ _ => noA b, fun b z => absurd z (noA b), e0.funs, e0.frf⟩,
    rfl, e0.bare, Un.kept hk, ⟨_, x.toInCall.ns, fun i y v h1 h2 h3 => ?_⟩, fun y c h => ⟨_, x.cell y c h⟩, e0.hok.fresh (Nat.le_refl _), fun y c h => ?_, fun p hp => absurd (show p ∈ ([] : List (Addr × Obj)) from hp) (by simp), e0.hok.kept hk, ?_⟩
  · exact name_of_addr x.apart (PySem.mem_of_lookup h1) (PySem.mem_of_lookup h2)
  · have hy : scope.names.lookup y = some .cell ∨ scope.names.lookup y = some .free := hy
    rcases hy with hy | hy
    · exact cell_has hy
    · exact absurd rfl (S.nofree _ (PySem.mem_of_lookup hy))
  · exact Nat.le_of_lt (x.above y c (PySem.mem_of_lookup h))
  · have hi : i < vs.length := by
      unfold start at h2
      by_cases hi : i < vs.length
      · exact hi
      · rw [List.getElem?_append_right (by simpa using hi)] at h2
        rw [List.getElem?_replicate] at h2
        split at h2 <;> cases h2
    have ha : vs[i]? = some v := by
      unfold start at h2
      rw [List.getElem?_append_left (by simpa using hi), List.getElem?_map] at h2
      cases e : vs[i]? with
      | none => rw [e] at h2; cases h2
      | some a => rw [e] at h2; cases h2; rfl
    obtain ⟨u, hu, rv⟩ := r.get ha
    have hp : ps[i]? = some y := by
      rw [← S.pre, List.getElem?_take_of_lt (by omega)]; exact h1
    have ndP : ps.Nodup := by rw [← S.pre]; exact S.nd.sublist (List.take_sublist _ _)
    refine ⟨u, rv, ?_⟩
    rcases S.par y (List.mem_of_getElem? hp) with k | k
    · exact .inl ⟨k, bindL_get ndP hp hu k⟩
    · obtain ⟨c, e⟩ := cell_has (n := s.heap.objs.size + 1) k
      refine .inr ⟨.inl k, c, e, ?_⟩
      have q := x.cell y c e
      rw [bindC_get ndP hp hu (by show scope.names.lookup y ≠ _; rw [k]; decide)] at q
      exact q
  · exact e0.hok.fresh (Nat.le_of_lt (x.above y c (PySem.mem_of_lookup h)))
  · unfold start
    show _ = N.length
    rw [List.length_append, List.length_map, List.length_replicate]
    omega

/-- THE RULE: a def (or a method) of the text, by its body. The body's reading t is chosen for each entry; it is run at the parameters' values -/
theorem fn_of {CX : CXT} {P : Program} {w : World} {K : PySem.W.Frag} {mg : Str → Option Value} {base : Heap} {k : Nat} {f : Addr} {name qual : Str} {params : Arguments} {body : List Stmt} {scope : Scope} {dV kV doc pm cdv ct oc : Value} {an od : Option Addr}
    {osl : Array (Option Value)} {N ps : List Str} {sp : Sp} (lk : K.lookup f = some ⟨oc, od, .func (PySem.W.fnOf name qual params body scope dV kV doc pm an cdv ct), osl⟩) (hcd : PySem.W.codeIn K cdv qual = true) (S : FnScope N ps scope)
    (len : ∀ vs H Q E, sp vs H Q E → vs.length = ps.length)
    (hbody : ∀ (A : Around) (outer : List Env) (s : Shared) (H : Hp) (vs : List V) (Q : VK) (E : XK), Room k (A.deeper (envOfC qual scope s.heap.objs.size f cdv)) → sp vs H Q E →
      ∃ t, PSs (cxOf CX P w K mg base N qual scope f cdv A outer s H E) body t ∧ t { nx := fun _ H' => Q .non H', rt := Q } (start N vs) H) :
    FnOk P w K mg base CX (k + 1) f (PySem.W.fnOf name qual params body scope dV kV doc pm an cdv ct) ps sp := by
  refine ⟨len, fun A outer s H args us vs Q E hr e0 hb r hsp => ?_⟩
  have hl := len _ _ _ _ hsp
  have KX : K.In s.heap := e0.mod.kin.keeps fun b o e => (e0.bs b o e).1
  have lim : s.heap.NoLimit := e0.mod.nolimit.keeps fun b o e => (e0.bs b o e).1
  have hkind : ∀ y ∈ ps.zip us, scope.names.lookup y.1 = some .local ∨ (scope.names.lookup y.1 = some .cell ∧ ((cellsFrom (s.heap.objs.size + 1) scope.names []).lookup y.1).isSome = true) := fun ⟨n, v⟩ hy => by
    rcases S.par n (List.of_mem_zip hy).1 with q | q
    · exact .inl q
    · exact .inr ⟨q, PySem.W.cellsFrom_some _ _ _ (.inl q)⟩
  refine codeAny_call_function hr.depth (KX _ _ lk) rfl S.co S.gen rfl (PySem.W.codeRec_of KX hcd) (hb _ _ _ _ ?_)
  refine wpAny_newFunctionEnv_cells S.kind hkind fun env he s1 x => ?_
  subst he
  refine ⟨lim.keeps x.toInCall.keep, codeAny_func ?_⟩
  obtain ⟨t, ht, hq⟩ := hbody A outer s H vs Q E (hr.deeper _) hsp
  have I : Inv (cxOf CX P w K mg base N qual scope f cdv A outer s H E) [] (start N vs) H s1 := inv_start S hr.hd e0 hl r x
  refine wpAny_mono (ht [] s1 (start N vs) H _ I hq) (fun fl s' hs => ?_) fun e s' hs => hs
  have fin : ∀ {σ' : St} {H' : Hp} {v : V} {u : Value}, Inv (cxOf CX P w K mg base N qual scope f cdv A outer s H E) [] σ' H' s' → RelV v u → Q v H' → CE outer P w H s Q u s' :=
    fun {σ' H' v u} J rv q => ⟨v, H', J.os, J.bare, J.base, J.hok, rv, q⟩
  cases fl with
  | ret u =>
    obtain ⟨v, σ', H', J, rv, q⟩ := hs
    exact fin J rv q
  | next =>
    obtain ⟨σ', H', J, q⟩ := hs
    exact fin (v := V.non) (u := Value.none) J rfl q
  | brk =>
    obtain ⟨_, _, _, q⟩ := hs
    exact False.elim q
  | cont =>
    obtain ⟨_, _, _, q⟩ := hs
    exact False.elim q
end L2

namespace L2
open PySem PySem.Spec PyProof.Rows
section
variable {X : Cx} {x : Str} {p pos : Pos} {e : Expr} {es : List Expr} {t : TA} {id T : String} {r : List V → Hp → VK → Prop}

def tCB (r : List V → Hp → VK → Prop) (t : TA) : TE := fun σ H Q => t σ H fun vs H1 => r vs H1 Q
/-- f(e, ..), f a built-in function -/
theorem pe_callB (hc : CallR X (.builtin id) r) (hg : Gl X x) (hm : X.mg x = none) (hv : bootBuiltins x = some (.builtin id)) (ha : PA X (e :: es) t) (hn : x ≠ "__name__" := by decide) (hdb : (x == ("__debug__" : Str)) = false := by decide)
    (he : starEach (e :: es) X.env = (false, eval e X.env) :: starEach es X.env := by rfl) (hpl : (backTo pos (starEach es X.env)).any (·.1) = false := by rfl) : PE X (.Call (.Name x p) (e :: es) [] pos) (tCB r t) := by
  intro pins s σ H Q I h
  refine wpAny_Call_Name_kw (ld_blt I hg hm hv ?_ hn hdb)
  exact PyProof.Rows.callWith_builtin1 (thn (ha pos pins s σ H _ I h) fun us s1 ⟨vs, H1, I1, r1, q1⟩ => hc pins s1 σ H1 vs us Q I1 r1 q1) he hpl
/-- T(e, ..), T a built-in type -/
theorem pe_callTy (hc : CallR X (.type T) r) (hg : Gl X x) (hm : X.mg x = none) (hv : bootBuiltins x = some (.type T)) (ha : PA X (e :: es) t) (hn : x ≠ "__name__" := by decide) (hdb : (x == ("__debug__" : Str)) = false := by decide)
    (he : starEach (e :: es) X.env = (false, eval e X.env) :: starEach es X.env := by rfl) (hpl : (backTo pos (starEach es X.env)).any (·.1) = false := by rfl) : PE X (.Call (.Name x p) (e :: es) [] pos) (tCB r t) := by
  intro pins s σ H Q I h
  refine wpAny_Call_Name_kw (ld_blt I hg hm hv ?_ hn hdb)
  exact PyProof.Rows.callWith_type1 (thn (ha pos pins s σ H _ I h) fun us s1 ⟨vs, H1, I1, r1, q1⟩ => hc pins s1 σ H1 vs us Q I1 r1 q1) he hpl
end
end L2

namespace HT
open PySem PyProof.Rows

section
open PySem.SeqAt
open PySem.AutoSeq1 (wpAny_loadPart')
open PySem.MeetsSeq PySem.MeetsSeq2 PySem.MeetsSeq3

end

section
variable {prog : Program} {w : World} {A : Around} {E : Value → Shared → Prop} {s : Shared}

/-! ### t[a:b], not the whole -/
/-- a slice's bound as a place among n (d where it is left out) -/
def sIx (n d : Nat) : Option Int → Nat
  | none => d
  | some v => if v < 0 then (v + (n : Int)).toNat else min v.toNat n
theorem sIx_nat (n d k : Nat) : sIx n d (some (k : Int)) = min k n := by
  show (if (k : Int) < 0 then ((k : Int) + (n : Int)).toNat else min (k : Int).toNat n) = min k n
  rw [if_neg (by omega), Int.toNat_natCast]
theorem sIx_le (n d : Nat) (hd : d ≤ n) (o : Option Int) : sIx n d o ≤ n := by
  cases o with
  | none => exact hd
  | some v =>
    show (if v < 0 then (v + (n : Int)).toNat else min v.toNat n) ≤ n
    by_cases hv : v < 0
    · rw [if_pos hv]; omega
    · rw [if_neg hv]; exact Nat.min_le_right _ _
theorem clip_eq (v : Int) (n d : Nat) : (if v < 0 then max (v + (n : Int)) 0 else min v (n : Int)) = ((sIx n d (some v) : Nat) : Int) := by
  show (if v < 0 then max (v + (n : Int)) 0 else min v (n : Int)) = (((if v < 0 then (v + (n : Int)).toNat else min v.toNat n) : Nat) : Int)
  by_cases hv : v < 0
  · simp only [if_pos hv]; omega
  · simp only [if_neg hv]; omega
theorem adjust_gen (lo hi : Option Int) (n : Nat) : Builtin.Slice.sliceAdjust lo hi 1 (n : Int) = (((sIx n 0 lo : Nat) : Int), ((sIx n n hi : Nat) : Int)) := by
  have h1 : ¬ ((1 : Int) < 0) := by omega
  unfold Builtin.Slice.sliceAdjust
  simp only [h1, if_false]
  refine Prod.ext ?_ ?_
  · cases lo with
    | none => rfl
    | some v => exact clip_eq v n 0
  · cases hi with
    | none => rfl
    | some v => exact clip_eq v n n
theorem places_gen (i j : Nat) : Builtin.Slice.slicePlaces (i : Int) (j : Int) 1 = j - i := by
  unfold Builtin.Slice.slicePlaces
  have h1 : (1 : Int) > 0 := by omega
  simp only [h1, if_true, Int.ediv_one]
  split <;> omega
theorem slicePart_ {v : Value} {o : Option Int} {Q : Option Int → Shared → Prop} (p : IsPart v o) (h : Q o s) : wpAny (model prog w) A (Builtin.Slice.slicePartIndex v) Q E s := by
  cases p with
  | none => exact slicePart_none h
  | int i t => exact slicePart_int h
theorem sliceApplied_gen {sl : Addr} {vl vu : Value} {lo hi : Option Int} {n : Nat} {Q : Int × Int × Nat → Shared → Prop} (hs : s.heap.IsSliceOf sl vl vu .none) (pl : IsPart vl lo) (pu : IsPart vu hi)
    (h : Q (((sIx n 0 lo : Nat) : Int), 1, sIx n n hi - sIx n 0 lo) s) : wpAny (model prog w) A (Builtin.Slice.sliceApplied (.ref sl) (pure (n : Int))) Q E s := by
  obtain ⟨os, hos, hcs, hds⟩ := id hs
  unfold Builtin.Slice.sliceApplied Builtin.Slice.sliceFields
  refine wpAny_bind (wpAny_bind (wpAny_field hos hds (x := vl) rfl (wpAny_bind (wpAny_field hos hds (x := vu) rfl (wpAny_bind (wpAny_field hos hds (x := .none) rfl (wpAny_pure ?_)))))))
  refine wpAny_bind (slicePart_none ?_)
  show wpAny _ _ (if ((1 : Int) == 0) = true then _ else _) _ _ s
  rw [if_neg (by decide)]
  refine wpAny_bind (slicePart_ pl (wpAny_bind (slicePart_ pu (wpAny_bind (wpAny_pure ?_)))))
  show wpAny _ _ (match Builtin.Slice.sliceAdjust lo hi 1 (n : Int) with | (lo, hi) => pure (lo, (1 : Int), Builtin.Slice.slicePlaces lo hi 1)) _ _ s
  rw [adjust_gen lo hi n]
  show wpAny _ _ (pure (((sIx n 0 lo : Nat) : Int), (1 : Int), Builtin.Slice.slicePlaces ((sIx n 0 lo : Nat) : Int) ((sIx n n hi : Nat) : Int) 1)) _ _ s
  rw [places_gen]
  exact wpAny_pure h
theorem pick_gen (xs : Array Value) (i k : Nat) : ((List.range k).filterMap fun (m : Nat) => xs[((i : Int) + (m : Int) * 1).toNat]?).toArray = ((xs.toList.drop i).take k).toArray := by
  have e : (fun (m : Nat) => xs[((i : Int) + (m : Int) * 1).toNat]?) = fun m => xs[i + m]? := by
    funext m
    have : ((i : Int) + (m : Int) * 1).toNat = i + m := by omega
    rw [this]
  rw [e]
  have := pick_run xs i k
  rw [List.filterMap_map] at this
  have e2 : ((fun x => xs[x]?) ∘ fun x => i + x) = fun m => xs[i + m]? := rfl
  rw [e2] at this
  rw [this]

theorem getItem_tuple_cut {t sl : Addr} {items : Array Value} {vl vu : Value} {lo hi : Option Int} {Q : Value → Shared → Prop} (ht : IsTup s.heap t items) (hs : s.heap.IsSliceOf sl vl vu .none) (pl : IsPart vl lo) (pu : IsPart vu hi)
    (hw : ¬ (sIx items.size 0 lo = 0 ∧ sIx items.size items.size hi = items.size))
    (h : Q (.ref s.heap.objs.size) { s with heap := s.heap.push { cls := .type "tuple", data := .seq ((items.toList.drop (sIx items.size 0 lo)).take (sIx items.size items.size hi - sIx items.size 0 lo)).toArray } })
    (hsz : items.size ≤ sizeLine) : wpAny (model prog w) A (getItem (.ref t) (.ref sl)) Q E s := by
  have htake : sizeOk (.seq ((items.toList.drop (sIx items.size 0 lo)).take (sIx items.size items.size hi - sIx items.size 0 lo)).toArray) := by
    show ((items.toList.drop (sIx items.size 0 lo)).take (sIx items.size items.size hi - sIx items.size 0 lo)).toArray.size ≤ sizeLine
    rw [List.size_toArray, List.length_take, List.length_drop, Array.length_toList]
    omega
  have hj : sIx items.size items.size hi ≤ items.size := sIx_le _ _ (Nat.le_refl _) hi
  obtain ⟨os, hos, hcs, hds⟩ := id hs
  have hTs : s.TypeIs (.ref sl) "slice" := ⟨os, hos, hcs⟩
  unfold getItem
  try with_reducible refine wpAny_holding ?_
  first | refine wpAny_bind (wpAny_pure ?_) | skip
  refine wpAny_bind (wpAny_sequenceKey ht.typeIs (by decide) ?_)
  refine wpAny_bind (wpAny_callSpecial?_slot (name := Str.ofString "__getitem__") ht.typeIs PyProof.Rows.slot_tuple_getitem
    (wpAny_call_entry PyProof.Rows.slot_tuple_getitem ht.typeIs entry_tuple_getitem ?_ (args_tuple_getitem _ _)))
  show wpAny _ _ (Builtin.Tuple.tupleItemsOf (.ref t) >>= _) _ _ s
  refine wpAny_bind (tupleItemsOf_ ht ?_)
  refine wpAny_bind (wpAny_typeOf hTs ?_)
  rw [if_pos (by decide)]
  refine wpAny_bind (sliceApplied_gen hs pl pu ?_)
  have hno : ¬ ((((sIx items.size 0 lo : Nat) : Int) == 0 && (1 : Int) == 1 && (sIx items.size items.size hi - sIx items.size 0 lo) == items.size) = true) := by
    intro q
    rw [Bool.and_eq_true, Bool.and_eq_true] at q
    have q1 : ((sIx items.size 0 lo : Nat) : Int) = 0 := eq_of_beq q.1.1
    have q2 : sIx items.size items.size hi - sIx items.size 0 lo = items.size := eq_of_beq q.2
    exact hw ⟨by omega, by omega⟩
  show wpAny _ _ (if (((sIx items.size 0 lo : Nat) : Int) == 0 && (1 : Int) == 1 && (sIx items.size items.size hi - sIx items.size 0 lo) == items.size) = true then _ else _) _ _ s
  rw [if_neg hno, pick_gen]
  first
    | exact wpAny_bind (m := Builtin.Tuple.tupleExact _) (wpAny_newObj_type (wpAny_pure ⟨_, rfl, wpAny_pure h⟩) htake)
    | exact wpAny_bind (m := Builtin.Tuple.tupleExact _) (wpAny_newObj_type (wpAny_bind (wpAny_pure (wpAny_pure ⟨_, rfl, wpAny_pure h⟩))) htake)
    | exact wpAny_bind (wpAny_bind (m := Builtin.Tuple.tupleExact _) (wpAny_newObj_type (wpAny_pure (wpAny_pure ⟨_, rfl, wpAny_pure h⟩)) htake))
    | exact wpAny_bind (wpAny_bind (m := Builtin.Tuple.tupleExact _) (wpAny_newObj_type (wpAny_pure ⟨_, rfl, wpAny_pure h⟩) htake))
end
end HT

namespace L2
open PySem PySem.Spec PyProof.Rows

/-! ### the parts of a slice -/
abbrev TO := St → Hp → (Option Int → Hp → Prop) → Prop
/-- a slice's part (left out, or an int) -/
def PO (X : Cx) (e : Option Expr) (t : TO) : Prop :=
  ∀ (pins : List (Addr × Obj)) (s : Shared) (σ : St) (H : Hp) (Q : Option Int → Hp → Prop), Inv X pins σ H s → t σ H Q →
    wpAny (model X.prog X.w) X.A (evalPart e X.env) (fun u s' => ∃ o H', Inv X pins σ H' s' ∧ IsPart u o ∧ Q o H') X.xe s
def tNoPart : TO := fun _ H Q => Q none H
def tPart (t : TE) : TO := fun σ H Q => t σ H fun x H1 => ∃ i, x = .int i ∧ Q (some i) H1

theorem intsAre_of {ns : List Int} : ∀ {us : List Value}, Vals (ns.map V.int) us → IntsAre us ns := by
  induction ns with
  | nil => intro us r; rw [List.map_nil] at r; cases r; exact .nil
  | cons n ns ih =>
    intro us r
    rw [List.map_cons] at r
    cases r with
    | cons r1 r2 =>
      obtain ⟨t, e⟩ := r1
      subst e
      exact .cons n t (ih r2)

section
variable {X : Cx} {e : Expr} {te : TE} {lo hi : Option Expr} {tl th : TO} {pos p2 : Pos}

theorem po_none : PO X none tNoPart := by
  intro pins s σ H Q I h
  rw [evalPart_none]
  exact wpAny_pure ⟨none, H, I, .none, h⟩
theorem po_some (h : PE X e te) : PO X (some e) (tPart te) := by
  intro pins s σ H Q I hw
  rw [evalPart_some]
  refine thn (h pins s σ H _ I hw) fun u s1 ⟨x, H1, I1, r1, q1⟩ => ?_
  obtain ⟨i, rfl, q⟩ := q1
  obtain ⟨t, rfl⟩ := r1
  exact ⟨some i, H1, I1, .int i t, q⟩

/-- what a slice of a value is, by values: the slice object stands at sl -/
def SlR (X : Cx) (r : V → Option Int → Option Int → Hp → VK → Prop) : Prop :=
  ∀ (pins : List (Addr × Obj)) (s : Shared) (σ : St) (H : Hp) (x : V) (v vl vu : Value) (lo hi : Option Int) (sl : Addr) (Q : VK), Inv X pins σ H s → RelV x v → s.heap.IsSliceOf sl vl vu .none → IsPart vl lo → IsPart vu hi → r x lo hi H Q →
    ∃ T id, typeLookup (.type T) "__getitem__" = pure (some (.builtin id)) ∧ s.TypeIs v T ∧ wpAny (model X.prog X.w) X.A (getItem v (.ref sl)) (EP X pins σ Q) X.xe s
def tSl (r : V → Option Int → Option Int → Hp → VK → Prop) (te : TE) (tl th : TO) : TE := fun σ H Q => te σ H fun x H1 => tl σ H1 fun l H2 => th σ H2 fun u H3 => r x l u H3 Q
/-- a[lo:hi], any a -/
theorem pe_slice {r : V → Option Int → Option Int → Hp → VK → Prop} (hr : SlR X r) (he : PE X e te) (hl : PO X lo tl) (hu : PO X hi th) : PE X (.Subscript e (.Slice lo hi none p2) pos) (tSl r te tl th) := by
  intro pins s σ H Q I h
  refine Subscript_ (thn (he pins s σ H _ I h) fun v s1 ⟨x, H1, I1, r1, q1⟩ => ?_)
  refine wpAny_Slice (thn (hl pins s1 σ H1 _ I1 q1) fun vl s2 ⟨l, H2, I2, pl, q2⟩ => thn (hu pins s2 σ H2 _ I2 q2) fun vu s3 ⟨u, H3, I3, pu, q3⟩ => ?_)
  rw [evalPart_none]
  refine wpAny_pure ?_
  have I4 : Inv X pins σ H3 { s3 with heap := s3.heap.push { cls := .type "slice", data := .fields #[vl, vu, .none] } } := I3.kept (t' := s3.toks) fun b ob q => Heap.get?_push_of_some _ q
  obtain ⟨T, id, hT, ht, hg⟩ := hr pins { s3 with heap := s3.heap.push { cls := .type "slice", data := .fields #[vl, vu, .none] } } σ H3 x v vl vu l u s3.heap.objs.size Q I4 r1 (Heap.IsSliceOf.new ..) pl pu q3
  show wpAny (model X.prog X.w) X.A (subscriptTail e (.Slice lo hi none p2) v (.ref s3.heap.objs.size)) (EP X pins σ Q) X.xe { s3 with heap := s3.heap.push { cls := .type "slice", data := .fields #[vl, vu, .none] } }
  exact tail_any (ops := [.ref s3.heap.objs.size, v]) ht hT hg (by with_unfolding_all rfl)

/-- the items of xs[lo:hi] -/
def cutV (xs : List V) (lo hi : Option Int) : List V := (xs.drop (HT.sIx xs.length 0 lo)).take (HT.sIx xs.length xs.length hi - HT.sIx xs.length 0 lo)
theorem cutV_length (xs : List V) (lo hi : Option Int) : (cutV xs lo hi).length ≤ xs.length := by
  unfold cutV
  rw [List.length_take, List.length_drop]
  omega
/-- t[lo:hi], not the whole of it (the whole would be t itself) -/
def rSlT (K : PySem.W.Frag) : V → Option Int → Option Int → Hp → VK → Prop := fun x lo hi H Q => ∃ a xs, x = .ref a ∧ SqT K H a xs ∧
  ¬ (HT.sIx xs.length 0 lo = 0 ∧ HT.sIx xs.length xs.length hi = xs.length) ∧ ∀ p, H p = none → Q (.ref p) (upd H p (.tup (cutV xs lo hi)))
theorem sl_tup : SlR X (rSlT X.K) := by
  intro pins s σ H x v vl vu lo hi sl Q I rx hs pl pu h
  obtain ⟨a, xs, rfl, hx, hw, q⟩ := h
  cases rx
  obtain ⟨its, r, ht, hz⟩ := I.tuple hx
  have hlen : its.toArray.size = xs.length := by rw [List.size_toArray]; exact r.length.symm
  refine ⟨"tuple", _, PyProof.Rows.slot_tuple_getitem.lookup, ht.typeIs, ?_⟩
  refine HT.getItem_tuple_cut ht hs pl pu (by rw [hlen]; exact hw) ?_ (by rw [hlen]; exact hz)
  rw [hlen]
  refine ⟨.ref s.heap.objs.size, _, I.laid (t' := s.toks) (o := .tup (cutV xs lo hi)) (fun b ob q => Heap.get?_push_of_some _ q) (Nat.le_refl _) ?_, rfl, q _ (I.hok.fresh (Nat.le_refl _))⟩
  exact ⟨Nat.le_trans (cutV_length xs lo hi) hz, _, (r.drop (HT.sIx xs.length 0 lo)).take (HT.sIx xs.length xs.length hi - HT.sIx xs.length 0 lo), IsTupD.new _ _⟩

/-! ### t < u, t + u -/
end
end L2

namespace L2
open PySem PySem.Spec PyProof.Rows

/-! ### places -/
/-- the place that an index of any sign means -/
def ixN (n : Nat) (i : Int) : Option Nat := if 0 ≤ i then (if i < n then some i.toNat else none) else if -(n : Int) ≤ i then some (i + n).toNat else none
def atI {α : Type} (xs : List α) (i : Int) : Option α := (ixN xs.length i).bind fun j => xs[j]?
theorem ixN_seq {n : Nat} {i : Int} {j : Nat} (h : ixN n i = some j) : seqIndex? i n = some j ∧ j < n ∧ -(n : Int) ≤ i ∧ i < n := by
  unfold ixN at h
  by_cases h0 : 0 ≤ i
  · rw [if_pos h0] at h
    by_cases h1 : i < n
    · rw [if_pos h1] at h
      have e : i.toNat = j := Option.some.inj h
      exact ⟨by rw [seqIndex_of h0 h1, e], by omega, by omega, h1⟩
    · rw [if_neg h1] at h; cases h
  · rw [if_neg h0] at h
    by_cases h1 : -(n : Int) ≤ i
    · rw [if_pos h1] at h
      have e : (i + n).toNat = j := Option.some.inj h
      exact ⟨by rw [seqIndex_neg (by omega) h1, e], by omega, h1, by omega⟩
    · rw [if_neg h1] at h; cases h
theorem atI_get {α : Type} {xs : List α} {i : Int} {v : α} (h : atI xs i = some v) : ∃ j, seqIndex? i xs.length = some j ∧ xs[j]? = some v ∧ j < xs.length ∧ -(xs.length : Int) ≤ i ∧ i < xs.length := by
  unfold atI at h
  cases e : ixN xs.length i with
  | none => rw [e] at h; cases h
  | some j =>
    rw [e] at h
    obtain ⟨h1, h2, h3, h4⟩ := ixN_seq e
    exact ⟨j, h1, h, h2, h3, h4⟩
theorem atI_nat {α : Type} {xs : List α} {j : Nat} {v : α} (h : xs[j]? = some v) : atI xs (j : Int) = some v := by
  have hj : j < xs.length := (List.getElem?_eq_some_iff.mp h).1
  have e : ixN xs.length (j : Int) = some j := by
    unfold ixN
    rw [if_pos (by omega), if_pos (by omega)]; simp
  unfold atI; rw [e]; exact h
theorem atI_last {α : Type} (xs : List α) (v : α) : atI (xs ++ [v]) (-1) = some v := by
  have hl : (xs ++ [v]).length = xs.length + 1 := by simp
  have e : ixN (xs ++ [v]).length (-1) = some xs.length := by
    unfold ixN
    rw [hl, if_neg (by decide), if_pos (by omega)]
    congr 1
    omega
  unfold atI
  rw [e]
  show (xs ++ [v])[xs.length]? = some v
  simp

/-! ### what may be subscripted -/
/-- what stands as an index of a plain subscript -/
def PlainIx (b : Expr) : Prop := ∀ o i, subscripted b false o i = operate [o, i] (getItem o i)
/-- a subscript by values -/
def IxR (X : Cx) (r : R2) : Prop :=
  ∀ (value slice : Expr) (pins : List (Addr × Obj)) (s : Shared) (σ : St) (H : Hp) (x y : V) (v u : Value) (Q : VK), Inv X pins σ H s → RelV x v → RelV y u → r x y H Q →
    subscripted slice false v u = operate [v, u] (getItem v u) → wpAny (model X.prog X.w) X.A (subscriptTail value slice v u) (EP X pins σ Q) X.xe s
/-- a call of a builtin's method by values: the receiver, the arguments -/
def MtR (X : Cx) (id : String) (r : V → List V → Hp → VK → Prop) : Prop :=
  ∀ (pins : List (Addr × Obj)) (s : Shared) (σ : St) (H : Hp) (x : V) (xs : List V) (v : Value) (us : List Value) (Q : VK), Inv X pins σ H s → RelV x v → Vals xs us → r x xs H Q →
    wpAny (model X.prog X.w) X.A (call (.builtin id) (v :: us)) (EP X pins σ Q) X.xe s
section
variable {X : Cx} {a b : Expr} {ta tb : TE} {pos : Pos}
/-- a[b] -/
theorem pe_ix {r : R2} (hr : IxR X r) (ha : PE X a ta) (hb : PE X b tb) (hs : PlainIx b) : PE X (.Subscript a b pos) (tOp r ta tb) := by
  intro pins s σ H Q I h
  exact Subscript_ (binT ha hb I h fun v u s2 x y H2 I2 rx ry q => hr a b pins s2 σ H2 x y v u Q I2 rx ry q (hs _ _))

def rIxL (K : PySem.W.Frag) : R2 := fun x y H Q => ∃ p xs i v, x = .ref p ∧ y = .int i ∧ SqL K H p xs ∧ atI xs i = some v ∧ Q v H
def rIxT (K : PySem.W.Frag) : R2 := fun x y H Q => ∃ p xs i v, x = .ref p ∧ y = .int i ∧ SqT K H p xs ∧ atI xs i = some v ∧ Q v H
theorem ix_list : IxR X (rIxL X.K) := by
  intro value slice pins s σ H x y v u Q I rx ry h hs
  obtain ⟨p, xs, i, z, rfl, rfl, hq, he, q⟩ := h
  cases rx
  obtain ⟨t, rfl⟩ := ry
  obtain ⟨its, r, pl, hz⟩ := I.list hq
  obtain ⟨j, h1, h2, h3, h4, h5⟩ := atI_get he
  obtain ⟨w, ew, rw'⟩ := r.get h2
  have hl := r.length
  have hn := line63
  have fin : EP X pins σ Q w s := ⟨z, H, I, rw', q⟩
  by_cases h0 : 0 ≤ i
  · have hj : i.toNat = j := by
      rw [seqIndex_of h0 h5] at h1
      exact Option.some.inj h1
    exact item_listR pl.isList h0 (by omega) (by rw [hj]; simpa using ew) fin hs
  · have hj : (i + (its.toArray.size : Int)).toNat = j := by
      rw [seqIndex_neg (by omega) h4] at h1
      rw [List.size_toArray, ← hl]
      exact Option.some.inj h1
    exact subscriptTail_builtinR (x := w) pl.isList.typeIs slot_list_getitem.lookup
      (wpAny_getItem_list_neg (Q := fun r s' => r = w ∧ EP X pins σ Q r s') pl.isList (by omega) (by rw [List.size_toArray] <;> omega) (by omega) (by rw [hj]; simpa using ew) ⟨rfl, fin⟩) hs
theorem ix_tup : IxR X (rIxT X.K) := by
  intro value slice pins s σ H x y v u Q I rx ry h hs
  obtain ⟨p, xs, i, z, rfl, rfl, hq, he, q⟩ := h
  cases rx
  obtain ⟨t, rfl⟩ := ry
  obtain ⟨its, r, pl, hz⟩ := I.tuple hq
  obtain ⟨j, h1, h2, h3, h4, h5⟩ := atI_get he
  obtain ⟨w, ew, rw'⟩ := r.get h2
  have hl := r.length
  have hn := line63
  have fin : EP X pins σ Q w s := ⟨z, H, I, rw', q⟩
  exact subscriptTail_builtinR (x := w) pl.typeIs slot_tuple_getitem.lookup
    (getItem_tuple (j := j) (Q := fun r s' => r = w ∧ EP X pins σ Q r s') pl (by omega) (by omega) (by rw [List.size_toArray, ← hl]; exact h1) (by simpa using ew) ⟨rfl, fin⟩) hs
/-! ### xs[i] = v, any sign -/
/-- the list's object behind a store -/
theorem mapSeq_set (its : List Value) (n j : Nat) (u : Value) : Obj.mapSeq (·.setIfInBounds j u) { cls := .type "list", data := .seq its.toArray n } = { cls := .type "list", data := .seq (its.set j u).toArray n } := by
  simp [Obj.mapSeq]
theorem Inv.lst {pins : List (Addr × Obj)} {σ : St} {H : Hp} {s : Shared} {p : Addr} {xs : List V} (I : Inv X pins σ H s) (h : H p = some (.lst xs)) :
    ∃ (its : List Value) (n : Nat), Vals xs its ∧ s.heap.get? p = some { cls := .type "list", data := .seq its.toArray n } ∧ xs.length ≤ sizeLine := by
  obtain ⟨z, its, n, r, e⟩ := I.hok p _ h
  exact ⟨its, n, r, e, z⟩
/-- the list at p is written by an update of its object -/
theorem Inv.lstUpd {pins : List (Addr × Obj)} {σ : St} {H : Hp} {s : Shared} {p : Addr} {xs ys : List V} {its its' : List Value} {n n' : Nat} {f : Obj → Obj} (I : Inv X pins σ H s) (h : H p = some (.lst xs))
    (ho : s.heap.get? p = some { cls := .type "list", data := .seq its.toArray n }) (hf : f { cls := .type "list", data := .seq its.toArray n } = { cls := .type "list", data := .seq its'.toArray n' }) (r : Vals ys its') (hz : ys.length ≤ sizeLine) (t : Nat) :
    Inv X pins σ (upd H p (.lst ys)) { s with heap := s.heap.update p f, toks := t } := by
  have e : (s.heap.update p f).get? p = some { cls := .type "list", data := .seq its'.toArray n' } := by
    rw [Heap.get?_update_self f ho (by rw [hf] <;> rfl), hf]
  refine I.write (x := p) (e := p) (by rw [h]; trivial) (.inl rfl) (fun b u hb q => (Heap.get?_update_other _ _ (Ne.symm hb)).trans q) ⟨_, e⟩ ?_
  exact ⟨hz, its', n', r, e⟩
def rSetL : V → V → V → Hp → (Hp → Prop) → Prop := fun o i v H Q => ∃ p xs k j, o = .ref p ∧ i = .int k ∧ H p = some (.lst xs) ∧ ixN xs.length k = some j ∧ Q (upd H p (.lst (xs.set j v)))
theorem set_list : PSet X rSetL := by
  intro pins s σ H o i v ov iv u Q I ro ri rv h
  obtain ⟨p, xs, k, j, rfl, rfl, hp, hj, q⟩ := h
  cases ro
  obtain ⟨t, rfl⟩ := ri
  obtain ⟨its, n, r, ho, hz⟩ := I.lst hp
  obtain ⟨h1, h2, h3, h4⟩ := ixN_seq hj
  have hl := r.length
  have hn := line63
  have I' : Inv X pins σ (upd H p (.lst (xs.set j v))) { s with heap := s.heap.update p (Obj.mapSeq (·.setIfInBounds j u)) } :=
    I.lstUpd hp ho (mapSeq_set its n j u) (r.set rv j) (by rw [List.length_set]; exact hz) s.toks
  by_cases h0 : 0 ≤ k
  · have hk : k.toNat = j := by
      rw [seqIndex_of h0 h4] at h1
      exact Option.some.inj h1
    exact PySem.W.ki_setAt ho h0 (by omega) (by rw [List.size_toArray, ← hl]; exact h4) (by rw [hk]; exact ⟨_, I', q⟩)
  · have hk : (k + (its.toArray.size : Int)).toNat = j := by
      rw [seqIndex_neg (by omega) h3] at h1
      rw [List.size_toArray, ← hl]
      exact Option.some.inj h1
    exact PySem.W.ki_setBack ho (by omega) (by rw [List.size_toArray, ← hl]; exact h3) (by omega) (by rw [hk]; exact ⟨_, I', q⟩)

/-! ### slices -/
theorem slice_bounds (lo hi : Option Int) (n : Nat) : (sliceBounds lo hi none n).1 = ((HT.sIx n 0 lo : Nat) : Int) ∧ (sliceBounds lo hi none n).2.1 = ((HT.sIx n n hi : Nat) : Int) ∧ (sliceBounds lo hi none n).2.2 = 1 := by
  refine ⟨?_, ?_, rfl⟩
  · cases lo with
    | none => simp [sliceBounds, HT.sIx]
    | some i =>
      simp only [sliceBounds, HT.sIx, Option.getD_none, show (1 : Int) > 0 by decide, if_true]
      by_cases h : i < 0
      · simp only [h, if_true] <;> omega
      · simp only [h, if_false] <;> omega
  · cases hi with
    | none => simp [sliceBounds, HT.sIx]
    | some i =>
      simp only [sliceBounds, HT.sIx, Option.getD_none, show (1 : Int) > 0 by decide, if_true]
      by_cases h : i < 0
      · simp only [h, if_true] <;> omega
      · simp only [h, if_false] <;> omega
theorem slicePick_cut (its : List Value) (lo hi : Option Int) : slicePick its.toArray lo hi none = ((its.drop (HT.sIx its.length 0 lo)).take (HT.sIx its.length its.length hi - HT.sIx its.length 0 lo)).toArray := by
  obtain ⟨h1, h2, h3⟩ := slice_bounds lo hi its.toArray.size
  unfold slicePick
  rw [h1, h2, h3]
  simp only [sliceRange_one, pick_run, List.size_toArray] <;> rfl
/-- xs[lo:hi] of a list: a new list -/
def rSlL (K : PySem.W.Frag) : V → Option Int → Option Int → Hp → VK → Prop := fun x lo hi H Q => ∃ a xs, x = .ref a ∧ SqL K H a xs ∧ ∀ p, H p = none → Q (.ref p) (upd H p (.lst (cutV xs lo hi)))
theorem sl_list : SlR X (rSlL X.K) := by
  intro pins s σ H x v vl vu lo hi sl Q I rx hs pl pu h
  obtain ⟨a, xs, rfl, hx, q⟩ := h
  cases rx
  obtain ⟨its, r, ht, hz⟩ := I.list hx
  have hlen := r.length
  refine ⟨"list", _, slot_list_getitem.lookup, ht.isList.typeIs, ?_⟩
  refine wpAny_getItem_list_slice ht.isList hs pl pu .none (by simp) ?_ (by rw [List.size_toArray] <;> omega)
  rw [slicePick_cut, ← hlen]
  refine ⟨.ref s.heap.objs.size, _, I.laid (t' := s.toks) (o := .lst (cutV xs lo hi)) (fun b ob q => Heap.get?_push_of_some _ q) (Nat.le_refl _) ?_, rfl, q _ (I.hok.fresh (Nat.le_refl _))⟩
  exact ⟨Nat.le_trans (cutV_length xs lo hi) hz, _, 0, (r.drop (HT.sIx xs.length 0 lo)).take (HT.sIx xs.length xs.length hi - HT.sIx xs.length 0 lo), Heap.get?_push_size _ rfl⟩

/-! ### in, not in: flat items -/
/-! ### len, list(x), tuple(x) of any list or tuple that is read -/
theorem call_len_seq : CallR X (.builtin "len") (fun xs H Q => ∃ p ys, xs = [.ref p] ∧ (SqL X.K H p ys ∨ SqT X.K H p ys) ∧ Q (.int ys.length) H) := by
  intro pins s σ H xs us Q I r h
  obtain ⟨p, ys, rfl, hq, q⟩ := h
  obtain ⟨u, rfl, rx⟩ := vals1 r
  cases rx
  have hn := line63
  rcases hq with hq | hq
  · obtain ⟨its, r', pl, hz⟩ := I.list hq
    have hlen := r'.length
    exact Calls.call_len_list pl.isList (by simp only [List.size_toArray] <;> omega) ⟨.int ys.length, H, I.tok _, ⟨s.toks + 1, by rw [List.size_toArray, hlen]⟩, q⟩
  · obtain ⟨its, r', pl, hz⟩ := I.tuple hq
    have hlen := r'.length
    exact len_tuple pl (by simp only [List.size_toArray] <;> omega) ⟨.int ys.length, H, I.tok _, ⟨s.toks + 1, by rw [List.size_toArray, hlen]⟩, q⟩
theorem call_tuple_of : CallR X (.type "tuple") (fun xs H Q => ∃ p ys, xs = [.ref p] ∧ ((SqL X.K H p ys ∧ ∀ l, H l = none → Q (.ref l) (upd H l (.tup ys))) ∨ (SqT X.K H p ys ∧ Q (.ref p) H))) := by
  intro pins s σ H xs us Q I r h
  obtain ⟨p, ys, rfl, h⟩ := h
  obtain ⟨u, rfl, rx⟩ := vals1 r
  cases rx
  rcases h with ⟨hq, q⟩ | ⟨hq, q⟩
  · obtain ⟨its, r', pl, hz⟩ := I.list hq
    have hlen := r'.length
    refine call_tuple_list pl.isList (fun h' kp => ?_) (by simp only [List.size_toArray] <;> omega)
    have I1 : Inv X pins σ H { s with heap := h' } := I.kept (t' := s.toks) kp
    have I2 : Inv X pins σ (upd H h'.objs.size (.tup ys)) { s with heap := h'.push { cls := .type "tuple", data := .seq its.toArray } } :=
      I1.laid (t' := s.toks) (fun b o e => Heap.get?_push_of_some _ e) (Nat.le_refl _) (show ObjOk X.prog X.w _ _ _ (.tup ys) from ⟨hz, its, r', IsTupD.new _ _⟩)
    exact ⟨.ref h'.objs.size, _, I2, rfl, q _ (I1.hok.fresh (Nat.le_refl _))⟩
  · obtain ⟨its, r', pl, hz⟩ := I.tuple hq
    exact call_tuple_same pl ⟨.ref p, H, I, rfl, q⟩

/-! ### the call of a builtin's method: o.m(..) -/
/-- the value is of that builtin type -/
def tyV (K : PySem.W.Frag) (T : String) (x : V) (H : Hp) : Prop := match x with
  | .str _ => T = "str"
  | .int _ => T = "int"
  | .ref p => (T = "list" ∧ ∃ xs, SqL K H p xs) ∨ (T = "tuple" ∧ ∃ o, K.lookup p = some o ∧ o.cls = .type "tuple" ∧ o.dict = none) ∨
      (T = "dict" ∧ ((∃ kvs, H p = some (.dK kvs)) ∨ ∃ kvs, H p = some (.dT kvs))) ∨ (T = "set" ∧ ∃ S n, H p = some (.set S n))
  | _ => False
theorem tyV_is {pins : List (Addr × Obj)} {σ : St} {H : Hp} {s : Shared} {T : String} {x : V} {v : Value} (I : Inv X pins σ H s) (r : RelV x v) (ty : tyV X.K T x H) :
    s.TypeIs v T ∧ ∀ a, v = .ref a → ∃ ob, s.heap.get? a = some ob ∧ ob.dict = none := by
  cases x with
  | str z =>
    obtain ⟨t, rfl⟩ := r
    cases (show T = "str" from ty)
    exact ⟨typeIs_str s z t, fun _ e => nomatch e⟩
  | int i =>
    obtain ⟨t, rfl⟩ := r
    cases (show T = "int" from ty)
    exact ⟨typeIs_int s i t, fun _ e => nomatch e⟩
  | ref p =>
    cases r
    rcases ty with ⟨rfl, xs, hq⟩ | ⟨rfl, o, hk, hc, hd⟩ | ⟨rfl, hk⟩ | ⟨rfl, S, n, hk⟩
    · obtain ⟨its, _, pl, _⟩ := I.list hq
      refine ⟨pl.isList.typeIs, fun a e => ?_⟩
      cases e
      obtain ⟨o, n, e, c, hd, _⟩ := pl
      exact ⟨o, e, hd⟩
    · refine ⟨⟨o, I.kIn p o hk, hc⟩, fun a e => ?_⟩
      cases e
      exact ⟨o, I.kIn _ o hk, hd⟩
    · have z : ∃ o, s.heap.get? p = some o ∧ o.ExactDict := by
        rcases hk with ⟨kvs, hk⟩ | ⟨kvs, hk⟩
        · obtain ⟨_, _, _, _, o, _, _, e, ex, _⟩ := I.hok p _ hk
          exact ⟨o, e, ex⟩
        · obtain ⟨_, _, _, _, o, _, _, e, ex, _⟩ := I.hok p _ hk
          exact ⟨o, e, ex⟩
      obtain ⟨o, e, ex⟩ := z
      refine ⟨⟨o, e, ex.1⟩, fun a e2 => ?_⟩
      cases e2
      exact ⟨o, e, ex.2.1⟩
    · obtain ⟨o, _, _, _, e, ex, _⟩ := I.hok p _ hk
      refine ⟨⟨o, e, ex.1⟩, fun a e2 => ?_⟩
      cases e2
      exact ⟨o, e, ex.2.1⟩
  | _ => exact False.elim ty
def tBM (K : PySem.W.Frag) (T : String) (r : V → List V → Hp → VK → Prop) (to : TE) (t : TA) : TE := fun σ H Q => to σ H fun x H1 => tyV K T x H1 ∧ t σ H1 fun xs H2 => r x xs H2 Q
variable {o e : Expr} {es : List Expr} {to : TE} {t : TA} {name : Str} {apos cpos : Pos} {T id : String} {r : V → List V → Hp → VK → Prop}
theorem pe_bm (pa : PlainAttrs T) (slot : Slot T name id) (hty : typeOf (.builtin id) = pure (.type "method_descriptor")) (hm : MtR X id r) (ho : PE X o to) (ha : PA X (e :: es) t)
    (hbase : attributeBase o name X.env (eval o X.env) = eval o X.env := by rfl)
    (hfew : ((backTo cpos (starEach (e :: es) X.env)).all (fun x => !x.1) && (backToKw cpos (keywordEach [] X.env)).all (fun x => x.1.isSome)
      && decide ((e :: es).length + ([] : List Keyword).length + (if ([] : List Keyword).isEmpty then 0 else 1) < 30)) = true := by rfl)
    (hline : (apos.endLine == cpos.line) = true := by rfl) (hs : starEach (e :: es) X.env = (false, eval e X.env) :: starEach es X.env := by rfl) (hplain : (backTo cpos (starEach es X.env)).any (·.1) = false := by rfl) :
    PE X (.Call (.Attribute o name apos) (e :: es) [] cpos) (tBM X.K T r to t) := by
  intro pins s σ H Q I h
  refine wpAny_Call_method_late hbase hfew hline rfl (thn (ho pins s σ H _ I h) fun v s1 ⟨x, H1, I1, r1, ty, q1⟩ => ?_)
  obtain ⟨h1, h2⟩ := tyV_is I1 r1 ty
  refine ⟨T, id, pa, slot, hty, h1, h2, ?_⟩
  have hA := ha cpos pins s1 σ H1 _ I1 q1
  rw [hs] at hA ⊢
  refine Calls.callWith_builtin (by show (false || (backTo cpos (starEach es X.env)).any (·.1)) = false; rw [hplain] <;> rfl) (Calls.evalArgs_plain ?_)
  exact thn hA fun us s2 ⟨vs, H2, I2, r2, q2⟩ => hm pins s2 σ H2 x vs v us Q I2 r1 r2 q2
/- xs.append(e), list.index on a module's tuple .. are MtR facts of 06m -/
end
end L2

namespace L2
open PySem PySem.Spec PyProof.Rows

def MtM (X : Cx) (id : String) (r : V → List V → Hp → VK → Prop) : Prop :=
  ∀ (pins : List (Addr × Obj)) (s : Shared) (σ : St) (H : Hp) (x : V) (xs : List V) (v : Value) (us : List Value) (Q : VK), Inv X pins σ H s → RelV x v → Vals xs us → r x xs H Q →
    wpAny (model X.prog X.w) X.A (call (.builtin id) (v :: us)) (EP X pins σ Q) X.xe s

/-! ### lists of values -/
theorem Vals.one : ∀ {x : V} {us : List Value}, Vals [x] us → ∃ u, us = [u] ∧ RelV x u
  | _, _, .cons r .nil => ⟨_, rfl, r⟩
theorem Vals.reverse {xs : List V} {us : List Value} (h : Vals xs us) : Vals xs.reverse us.reverse := by
  induction h with
  | nil => exact .nil
  | cons r t ih => rw [List.reverse_cons, List.reverse_cons]; exact Vals.append ih (.cons r .nil)
theorem Vals.rep {xs : List V} {us : List Value} (h : Vals xs us) : ∀ k : Nat, Vals (List.replicate k xs).flatten (List.replicate k us).flatten
  | 0 => .nil
  | k + 1 => by
    rw [List.replicate_succ, List.replicate_succ, List.flatten_cons, List.flatten_cons]
    exact Vals.append h (Vals.rep h k)
theorem foldl_rep (its : List Value) : ∀ (k : Nat) (acc : List Value),
    List.foldl (fun x1 x2 => x1 ++ x2) acc.toArray (List.replicate k its.toArray) = (acc ++ (List.replicate k its).flatten).toArray
  | 0, acc => by simp
  | k + 1, acc => by
    have e : acc.toArray ++ its.toArray = (acc ++ its).toArray := by simp
    have e2 : (acc ++ its) ++ (List.replicate k its).flatten = acc ++ (List.replicate (k + 1) its).flatten := by
      rw [List.replicate_succ, List.flatten_cons, List.append_assoc]
    rw [← e2, ← foldl_rep its k (acc ++ its), ← e, List.replicate_succ, List.foldl_cons]

section
variable {X : Cx} {pins : List (Addr × Obj)} {σ : St} {H : Hp} {s : Shared} {l b : Addr} {xs ys zs : List V}

/-! ### the two steps: a tracked list is rewritten, a new list is laid -/
theorem Inv.lset {its its' : List Value} {n : Nat} {f : Array Value → Array Value} {t' : Nat} (I : Inv X pins σ H s) (hH : H l = some (.lst xs))
    (e : s.heap.get? l = some { cls := .type "list", data := .seq its.toArray n }) (hf : f its.toArray = its'.toArray) (hv : Vals ys its') (hz : ys.length ≤ sizeLine) :
    Inv X pins σ (upd H l (.lst ys)) { s with heap := s.heap.update l (Obj.mapSeq f), toks := t' } := by
  have q := PySem.IsL.update e f
  rw [hf] at q
  refine I.write (x := l) (e := l) (by rw [hH]; exact trivial) (.inl rfl) (fun b' u hb hu => (Heap.get?_update_other s.heap (Obj.mapSeq f) (Ne.symm hb)).trans hu) ⟨_, q⟩ ?_
  exact ⟨hz, its', _, hv, q⟩
theorem Inv.lnew {its : List Value} {t' : Nat} (I : Inv X pins σ H s) (hv : Vals ys its) (hz : ys.length ≤ sizeLine) :
    Inv X pins σ (upd H s.heap.objs.size (.lst ys)) { s with heap := s.heap.push { cls := .type "list", data := .seq its.toArray }, toks := t' } :=
  I.laid (fun _ _ q => Heap.get?_push_of_some _ q) (Nat.le_refl _) ⟨hz, its, 0, hv, Heap.get?_push_size _ rfl⟩
theorem Inv.fresh (I : Inv X pins σ H s) : H s.heap.objs.size = none := I.hok.fresh (Nat.le_refl _)
theorem Inv.lstM (I : Inv X pins σ H s) (hH : H l = some (.lst xs)) : xs.length ≤ sizeLine ∧ ∃ (its : List Value) (n : Nat), Vals xs its ∧ xs.length = its.length ∧ s.heap.get? l = some { cls := .type "list", data := .seq its.toArray n } := by
  obtain ⟨z, its, n, r, e⟩ := I.hok l _ hH
  exact ⟨z, its, n, r, r.length, e⟩

theorem notLongL {n : Nat} (h : n ≤ sizeLine) : Builtin.List.listTooLong n = false := by
  unfold Builtin.List.listTooLong
  exact decide_eq_false (by omega)
end

section
variable {X : Cx}

/-! ### methods -/
def rAppend : V → List V → Hp → VK → Prop := fun x vs H Q => ∃ l xs y, x = .ref l ∧ vs = [y] ∧ H l = some (.lst xs) ∧ xs.length < sizeLine ∧ Q .non (upd H l (.lst (xs ++ [y])))
theorem mt_append : MtM X "list.append" rAppend := by
  intro pins s σ H x vs v us Q I rx rv h
  obtain ⟨l, xs, y, rfl, rfl, hH, hz, q⟩ := h
  cases rx
  obtain ⟨u, rfl, ru⟩ := rv.one
  obtain ⟨z, its, n, r, hl, e⟩ := I.lstM hH
  refine call_meets F.slot_list_append ⟨_, e, rfl⟩ F.entry_list_append (F.args_list_append_2 _ _) (PySem.list_append l its.toArray n u (by rw [List.size_toArray]; omega)) ⟨e, ?_⟩
  refine ⟨.non, _, I.lset (its' := its ++ [u]) hH e (by simp) (r.append (.cons ru .nil)) ?_, rfl, q⟩
  rw [List.length_append, List.length_singleton]
  omega

def rExtend : V → List V → Hp → VK → Prop := fun x vs H Q => ∃ l b xs zs, x = .ref l ∧ vs = [.ref b] ∧ H l = some (.lst xs) ∧ H b = some (.lst zs) ∧ xs.length + zs.length ≤ sizeLine ∧ Q .non (upd H l (.lst (xs ++ zs)))
theorem mt_extend : MtM X "list.extend" rExtend := by
  intro pins s σ H x vs v us Q I rx rv h
  obtain ⟨l, b, xs, zs, rfl, rfl, hH, hB, hz, q⟩ := h
  cases rx
  obtain ⟨u, rfl, ru⟩ := rv.one
  cases ru
  obtain ⟨z, its, n, r, hl, e⟩ := I.lstM hH
  obtain ⟨z2, its2, n2, r2, hl2, e2⟩ := I.lstM hB
  have hsz : its.toArray.size + its2.toArray.size ≤ sizeLine := by rw [List.size_toArray, List.size_toArray]; omega
  have hlong : ¬ (!its.toArray.isEmpty && Builtin.List.listTooLong (its.toArray.size + its2.toArray.size)) = true := by
    rw [notLongL hsz, Bool.and_false]
    exact Bool.false_ne_true
  refine call_meets F.slot_list_extend ⟨_, e, rfl⟩ F.entry_list_extend (F.args_list_extend_2 _ _)
    (AutoSeq1.list_extend_list_list_0 l its.toArray n b its2.toArray n2 hlong (by rw [List.size_toArray]; omega) (by omega)) ⟨e, e2, ?_⟩
  refine ⟨.non, _, I.lset (its' := its ++ its2) hH e (by simp) (r.append r2) ?_, rfl, q⟩
  rw [List.length_append]
  omega

/-! ### list + list, list += list, list * int -/
def rCat : R2 := fun x y H Q => ∃ l b xs zs, x = .ref l ∧ y = .ref b ∧ H l = some (.lst xs) ∧ H b = some (.lst zs) ∧ xs.length + zs.length ≤ sizeLine ∧ ∀ p, H p = none → Q (.ref p) (upd H p (.lst (xs ++ zs)))
theorem op_cat : OpR X (binaryOp .Add) rCat := by
  intro pins s σ H x y v u Q I rx ry h
  obtain ⟨l, b, xs, zs, rfl, rfl, hH, hB, hz, q⟩ := h
  cases rx
  cases ry
  obtain ⟨z, its, n, r, hl, e⟩ := I.lstM hH
  obtain ⟨z2, its2, n2, r2, hl2, e2⟩ := I.lstM hB
  refine PySem.P.add_list e e2 ?_ (by rw [List.size_toArray, List.size_toArray]; omega)
  have ea : its.toArray ++ its2.toArray = (its ++ its2).toArray := by simp
  rw [ea]
  exact ⟨.ref _, _, I.lnew (t' := s.toks) (r.append r2) (by rw [List.length_append]; omega), rfl, q _ I.fresh⟩
/-- a list times an int (a negative one is nothing) -/
def rRep : R2 := fun x y H Q => ∃ l k xs, x = .ref l ∧ y = .int k ∧ H l = some (.lst xs) ∧ -(2 ^ 63) ≤ k ∧ k < 2 ^ 63 ∧ xs.length * k.toNat ≤ sizeLine ∧
  ∀ p, H p = none → Q (.ref p) (upd H p (.lst (List.replicate k.toNat xs).flatten))
theorem len_rep {α : Type} (xs : List α) (k : Nat) : (List.replicate k xs).flatten.length = k * xs.length := by
  induction k with
  | zero => simp
  | succ k ih => rw [List.replicate_succ, List.flatten_cons, List.length_append, ih, Nat.succ_mul, Nat.add_comm]
theorem op_rep : OpR X (binaryOp .Mult) rRep := by
  intro pins s σ H x y v u Q I rx ry h
  obtain ⟨l, k, xs, rfl, rfl, hH, h1, h2, hz, q⟩ := h
  cases rx
  obtain ⟨t, rfl⟩ := ry
  obtain ⟨z, its, n, r, hl, e⟩ := I.lstM hH
  have hlen : its.toArray.size * k.toNat ≤ sizeLine := by rw [List.size_toArray, ← hl]; exact hz
  have hcap : ¬ its.toArray.size * k.toNat > (2 ^ 63 - 1) / 8 := by
    have : (sizeLine : Nat) ≤ (2 ^ 63 - 1) / 8 := by decide
    omega
  have hfit : ¬ (!Builtin.List.listFitsIndex k) = true := by
    rw [fitsIndex_both h1 h2]
    exact Bool.false_ne_true
  have hlong : ¬ Builtin.List.listTooLong (its.toArray.size * k.toNat) = true := by
    rw [notLongL hlen]
    exact Bool.false_ne_true
  have hnew : List.foldl (fun x1 x2 => x1 ++ x2) #[] (List.replicate (if its.toArray.isEmpty = true then 0 else k.toNat) its.toArray) = (List.replicate k.toNat its).flatten.toArray := by
    have f0 : ∀ m : Nat, List.foldl (fun x1 x2 => x1 ++ x2) #[] (List.replicate m its.toArray) = (List.replicate m its).flatten.toArray := fun m => by
      have := foldl_rep its m []
      rw [List.nil_append] at this
      exact this
    rw [f0]
    cases its with
    | nil => simp
    | cons a r' => rw [if_neg (by simp)]
  refine wpAny_binaryOp_repeat_ref (T := "list") (U := "int") (by decide) ⟨_, e, rfl⟩ (fun s' => typeIs_int s' k t) noFill_list_mul F.fills_int_mul F.slot_int_rmul repeat_list F.slot_int_index.lookup
    (call_meets F.slot_int_rmul (typeIs_int s k t) F.entry_int_rmul (F.args_int_rmul_2 _ _) (int___rmul___int_list k t l its.toArray n)
      ⟨e, rfl, ⟨_, e, rfl⟩, call_meets F.slot_list_mul ⟨_, e, rfl⟩ F.entry_list_mul (F.args_list_mul_2 _ _) (AutoListH.list___mul___list_int_3 l its.toArray n k t hfit hcap hlong) ⟨e, ?_⟩⟩)
  rw [hnew]
  exact ⟨.ref _, _, I.lnew (t' := s.toks) (r.rep k.toNat) (by rw [len_rep, Nat.mul_comm]; exact hz), rfl, q _ I.fresh⟩

/-! ### del xs[i] -/
end

/-! ### xs[a:b] = ys -/
section
variable {prog : Program} {w : World} {A : Around} {E : Value → Shared → Prop} {s : Shared}
set_option maxRecDepth 100000 in
end

section
variable {X : Cx}
end
end L2

namespace Att
open PySem PySem.W PySem.Calls PyProof.Rows

/-! ### the script -/
theorem ints_of_wellAll {P : Params} {h : Heap} : ∀ (ns : List Int) (vs : List Value), WellAll P h vs (ns.map WData.int) → IntsAre vs ns := by
  intro ns
  induction ns with
  | nil =>
    intro vs w
    rw [List.map_nil] at w
    cases w
    exact .nil
  | cons n ns ih =>
    intro vs w
    rw [List.map_cons] at w
    cases w with
    | cons a b =>
      cases a
      exact .cons _ _ (ih _ b)

theorem script_of {l : OpenLaw} {n : Nat} (hn : l.most = some n) {P : Params} {h : Heap} {args : List WData} {vals : List Value}
    (hpre : l.row.toRowW.claim.pre args = true) (hwl : WellAll P h vals args) :
    ∃ a vs ns, vals = [Value.ref a] ∧ args = [WData.list (ns.map WData.int)] ∧ h.get? a = some { cls := .type "list", data := .seq vs.toArray } ∧ IntsAre vs ns ∧ ns.length ≤ n := by
  have hsh : WShape.hasAll [] args [.list .int] = true := (pre_splitW hpre).1
  have hc : l.pre.holds [] { args := args } = true := (pre_splitW hpre).2
  obtain ⟨d, r, rfl, h1, h2⟩ := hasAllW_cons hsh
  obtain rfl := hasAllW_nil h2
  obtain ⟨xs, rfl, h3⟩ := hasW_list h1
  obtain ⟨ns, rfl⟩ := items_int h3
  have hlen : ns.length ≤ n := by
    unfold OpenLaw.pre at hc
    have h4 : (WTm.not (.lt (.lit (.int (n : Int))) (.len (.arg 0)))).holds [] { args := [.list (ns.map .int)] } = true := by
      have h4 := (holds_andW hc).1
      rw [hn] at h4
      exact h4
    have h5 := condW_of h4 (w_not (w_lt w_lit (w_len_list (w_arg rfl))))
    rw [List.length_map] at h5
    refine Nat.le_of_not_lt fun q => ?_
    have q' : (n : Int) < ((ns.length : Nat) : Int) := by omega
    first
      | (rw [decide_eq_true q'] at h5; exact absurd h5 (by decide))
      | (simp at h5; omega)
  cases hwl with
  | cons w1 w2 =>
    cases w2
    cases w1 with
    | list ho hall => exact ⟨_, _, ns, rfl, rfl, ho, ints_of_wellAll ns _ hall, hlen⟩

theorem post_true (l : OpenLaw) (args : List WData) : l.row.toRowW.claim.post args (.bool true) args = true :=
  postW_of (r := l.row.toRowW) (X := (true == true))
    (show WShape.has [] (.bool true) .bool = true by first | rfl | decide | simp [WShape.has, WShape.arms, WShape.armsAll])
    (show (WTm.eq .res (.lit (.bool true))).value [] { args := args, res := some (.bool true), after := args } = some (.bool (true == true)) from w_eq_bool (w_res rfl) w_lit) rfl

/-! ### the attachment: holds_open's last premise (the goal 'hc' behind k_head) from a wpAny of the law's body -/
/-- the same from a codeAny of the CALL (for a layer whose function contracts speak of calls) -/
theorem attach_call {l : OpenLaw} {n : Nat} {q : Program} {loose : List Str} {XP : (Str → Option Value) → Heap → Prop} {YP : World → Heap → Prop} {d : DefRec}
    (hn : l.most = some n) (hdf : d.params.defaults = [])
    (call : ∀ (w : World) (s₀ s₁ : Shared) (mg mb : Str → Option Value) (fa : Addr) (o : Obj) (pm cd doc : Value) (a : Addr) (vs : List Value) (ns : List Int),
      Ground q loose [] XP w s₀ mg mb s₁.heap → YP w s₁.heap →
      s₁.heap.get? fa = some o → o.data = .func (docDef d.name d.params d.body d.scope pm cd doc) → s₁.heap.CodeRec cd d.name → mg d.name = some (.ref fa) →
      s₁.heap.get? a = some { cls := .type "list", data := .seq vs.toArray } → IntsAre vs ns → ns.length ≤ n → s₁.gens = #[] →
      codeAny (model l.prog w) callerA (.call (.ref fa) ⟨[.ref a], []⟩) (fun r s' => r = .ok (.ret (.bool true)) ∧ OldK s₁.heap s'.heap ∧ s'.os = s₁.os ∧ AllBare s'.gens) s₁) :
    WalkO q loose XP YP l.row.toRowW d [] (fun f vs => PySem.call f vs) := by
  intro w s₀ s₁ mg mb G Y fa o pm cd doc dV kV ho hd hcd hD hmg hg args vals as hpre hlay hrd hwl hlo
  obtain rfl : dV = .none := Dflts.none hD hdf
  obtain rfl : kV = .none := Dflts.noKw hD
  obtain ⟨a, vs, ns, rfl, rfl, hobj, hints, hlen⟩ := script_of hn hpre hwl
  refine enter_call (codeAny_mono (call w s₀ s₁ mg mb fa o pm cd doc a vs ns G Y ho (fd_plain hd) hcd hmg hobj hints hlen hg) fun r s' hq => ?_)
  obtain ⟨rfl, h2, h3, h4⟩ := hq
  exact ⟨.inl ⟨.bool true, .bool true, [], rfl, fun _ => rfl, .bool true, post_true l _, fun _ => ⟨List.Pairwise.nil, fun _ hm => (nomatch hm)⟩⟩, h2, h3, h4⟩

/-! ### rules over ANY heap (no ledger) from facts about the written part K: the library's own take a ledger (News) for what they write -/
section
variable {prog : Program} {w : World} {A : Around} {E : Value → Shared → Prop} {s : Shared} {K : Frag}

/-! the whole heap as the ledger: makes every rule that writes through a ledger a rule over any heap -/
def ledger (h : Heap) (L d : Addr) : List (Addr × Obj) := (List.range h.objs.size).filterMap fun a => if a = L ∨ a = d then none else (h.get? a).map fun o => (a, o)
end
end Att

namespace L2
open PySem PySem.Spec PyProof.Rows

theorem vals_ints : ∀ {vs : List Value} {ns : List Int}, IntsAre vs ns → Vals (ns.map V.int) vs
  | _, _, .nil => .nil
  | _, _, .cons n t h => .cons ⟨t, rfl⟩ (vals_ints h)

/-- nothing is tracked but the script, known to the object (or it is an object of the module) -/
def Only (H : Hp) : Prop := ∀ b, H b = none ∨ ∃ o xs, H b = some (.frz o (.lst xs))

/-- THE HEAD: the law's promise, at the heap behind the top. F, the promise of the law's def, may use that base is part of the heap (so K.In base, base.Ns mainGlobals mg stand in Mod) -/
theorem law_call {P : Program} {w : World} {K : PySem.W.Frag} {mg mb : Str → Option Value} {CX : CXT} {k : Nat} {fa a : Addr} {fd : FuncData} {x : Str} {sp : Sp} {s₁ : Shared} {vs : List Value} {ns : List Int}
    (KX : K.In s₁.heap) (hns : s₁.heap.Ns mainGlobals mg) (hb : s₁.heap.Ns builtinsNs mb) (hbb : ∀ x : Str, x ≠ "__name__" → mb x = bootBuiltins x) (hlim : s₁.heap.NoLimit) (hg : s₁.gens = #[])
    (ha : s₁.heap.get? a = some { cls := .type "list", data := .seq vs.toArray }) (hi : IntsAre vs ns) (hl : ns.length ≤ sizeLine) (hr : Room k callerA)
    (F : ∀ base : Heap, K.In base → base.Ns mainGlobals mg → FnOk P w K mg base CX k fa fd [x] sp) (hbind : ∀ (s : Shared) (u : Value), BindsTo s fd ⟨[u], []⟩ [(x, u)])
    (hsp : ∀ H : Hp, Only H → SqL K H a (ns.map V.int) → sp [.ref a] H (fun v _ => v = .bl true) fun _ _ _ => False)
    (hCX : ∀ H e s', CX [] H s₁ (fun _ _ _ => False) e s' → False) :
    codeAny (model P w) callerA (.call (.ref fa) ⟨[.ref a], []⟩) (fun r s' => r = .ok (.ret (.bool true)) ∧ OldK s₁.heap s'.heap ∧ s'.os = s₁.os ∧ AllBare s'.gens) s₁ := by
  have rv := vals_ints hi
  have lenV := hi.length
  -- from an abstract heap in which nothing but the script may be tracked
  have core : ∀ H : Hp, Only H → SqL K H a (ns.map V.int) → HOk P w H s₁.heap → (∀ b, H b ≠ none → b = a) → (H a ≠ none → K.lookup a = none) →
      codeAny (model P w) callerA (.call (.ref fa) ⟨[.ref a], []⟩) (fun r s' => r = .ok (.ret (.bool true)) ∧ OldK s₁.heap s'.heap ∧ s'.os = s₁.os ∧ AllBare s'.gens) s₁ := by
    intro H hO hS hok hA hK
    have base_of : ∀ {b : Addr} {o : Obj}, s₁.heap.get? b = some o → H b = none → (hidT s₁.heap H).get? b = some o := fun e n => hidT_get e n
    have noA : ∀ {b : Addr} {o : Obj} {es : Array DictEntry} {ep : Nat}, s₁.heap.get? b = some o → o.data = .dict es ep → H b = none := fun {b o es ep} e d => by
      cases q : H b with
      | none => rfl
      | some u =>
        have e' : b = a := hA b (by rw [q]; simp)
        subst e'
        rw [ha] at e; cases e
        have d' : Data.seq vs.toArray _ = Data.dict es ep := d
        cases d'
    have nsK : ∀ {b : Addr} {m : Str → Option Value}, s₁.heap.Ns b m → (hidT s₁.heap H).Ns b m := fun {b m} ⟨o, es, ep, e, d, r⟩ => ⟨o, es, ep, base_of e (noA e d), d, r⟩
    have hKb : K.In (hidT s₁.heap H) := fun b o e => base_of (KX b o e) (by
      cases q : H b with
      | none => rfl
      | some u =>
        have e' : b = a := hA b (by rw [q]; simp)
        subst e'
        rw [hK (by rw [q]; simp)] at e; cases e)
    have hM : Mod K mg (hidT s₁.heap H) := ⟨hKb, nsK hns, ⟨mb, nsK hb, hbb⟩, let ⟨mc, h1, h2⟩ := hlim; ⟨mc, nsK h1, h2⟩⟩
    have e0 : Env0 P w K mg (hidT s₁.heap H) callerA [] s₁ H := ⟨rfl, hM, fun b o e => of_hidT e, Nat.le_of_eq (hidT_size _ _), trivial, fun b hb => absurd (show b ∈ ([] : List Addr) from hb) (by simp), hok, .of_eq hg⟩
    refine codeAny_mono ((F _ hKb (nsK hns)).run callerA [] s₁ H ⟨[.ref a], []⟩ [.ref a] [.ref a] _ _ hr e0 (hbind s₁ (.ref a)) (.cons rfl .nil) (hsp H hO hS)) fun r s' h => ?_
    cases r with
    | error e => exact (hCX H e s' h).elim
    | ok fl =>
      cases fl with
      | next => exact False.elim h
      | brk => exact False.elim h
      | cont => exact False.elim h
      | ret u =>
        obtain ⟨v, H', os, bare, un, hok', r', q⟩ := h
        have q' : v = .bl true := q
        subst q'
        obtain rfl : u = Value.bool true := r'
        refine ⟨rfl, OldK.of_keep fun b o e => ?_, os, bare⟩
        cases q : H b with
        | none => exact un.keep b o e q (by intro z; exact absurd (show b ∈ ([] : List Addr) from z) (by simp)) (by simp)
        | some u =>
          rcases hO b with z | ⟨ob, xs, z⟩
          · rw [q] at z; cases z
          · have z2 := un.frzs b ob _ z
            obtain ⟨e1, _⟩ := hok b _ z
            obtain ⟨e2, _⟩ := hok' b _ z2
            rw [e] at e1; cases e1
            exact e2
  cases hk : K.lookup a with
  | some o =>
    -- the script is one of the module's own objects
    have e := KX a o hk
    rw [ha] at e
    cases e
    refine core (fun _ => none) (fun _ => .inl rfl) (.inr ⟨_, vs.toArray, _, hk, rfl, rfl, rfl, by rw [List.size_toArray, lenV]; exact hl, by simpa using rv⟩) (fun b u z => by have z' : (none : Option HO) = some u := z; cases z') (fun b z => absurd rfl z) fun z => absurd rfl z
  | none =>
    refine core (fun b => if b = a then some (.frz { cls := .type "list", data := .seq vs.toArray } (.lst (ns.map V.int))) else none) (fun b => ?_) (.inl (.inr ⟨{ cls := .type "list", data := .seq vs.toArray }, if_pos rfl⟩)) (fun b u z => ?_) (fun b z => ?_) fun _ => hk
    · by_cases hb : b = a
      · exact .inr ⟨_, _, if_pos hb⟩
      · exact .inl (if_neg hb)
    · by_cases hb : b = a
      · have z' := (if_pos hb).symm.trans z
        cases z'
        subst hb
        exact ⟨ha, by rw [List.length_map]; exact hl, vs, _, rv, ha⟩
      · have z' := (if_neg hb).symm.trans z
        cases z'
    · by_cases hb : b = a
      · exact hb
      · exact absurd (if_neg hb) z
end L2

namespace L2
open PySem PySem.Spec PyProof.Rows

/-- the goal that k_head leaves (case hc), from the law's promise. F gives the function object fd (K's own) once, then the promise over every base -/
theorem walk_of {l : PySem.W.OpenLaw} {n k : Nat} {q : Program} {loose : List Str} {XP : (Str → Option Value) → Heap → Prop} {YP : World → Heap → Prop} {d : DefRec} {K : Params → PySem.W.Frag} {CX : World → CXT} {sp : World → Sp} {x : Str}
    (hn : l.most = some n) (hn2 : n ≤ sizeLine) (hdf : d.params.defaults = []) (hr : Room k callerA)
    (hY : ∀ (w : World) (h : Heap), YP w h → (K w.params).In h)
    (F : ∀ (w : World) (mg : Str → Option Value) (fa : Addr) (h : Heap), (K w.params).In h → h.Ns mainGlobals mg → mg d.name = some (.ref fa) →
      ∃ fd : FuncData, (∀ (s : Shared) (u : Value), BindsTo s fd ⟨[u], []⟩ [(x, u)]) ∧
        ∀ base : Heap, (K w.params).In base → base.Ns mainGlobals mg → FnOk l.prog w (K w.params) mg base (CX w) k fa fd [x] (sp w))
    (hsp : ∀ (w : World) (H : Hp) (a : Addr) (ns : List Int), ns.length ≤ n → Only H → SqL (K w.params) H a (ns.map V.int) → sp w [.ref a] H (fun v _ => v = .bl true) fun _ _ _ => False)
    (hCX : ∀ (w : World) (H : Hp) (s : Shared) (e : Value) (s' : Shared), CX w [] H s (fun _ _ _ => False) e s' → False) :
    PySem.W.WalkO q loose XP YP l.row.toRowW d [] (fun f vs => PySem.call f vs) := by
  refine Att.attach_call hn hdf fun w s₀ s₁ mg mb fa o pm cd doc a vs ns G Y ho hd hcd hmg hobj hints hlen hg => ?_
  have KX := hY w _ Y
  obtain ⟨fd, hb, hF⟩ := F w mg fa _ KX G.T.g hmg
  exact law_call KX G.T.g G.T.b G.T.builtins G.T.nolimit hg hobj hints (Nat.le_trans hlen hn2) hr hF hb (fun H hO hS => hsp w H a ns hlen hO hS) fun H e s' => hCX w H s₁ e s'
end L2

/- THE LAST THEOREM (shape; LID, My.* are yours):
   My.Adr: a structure of the addresses that your layer names (classes, functions); My.Txt K t: a structure (Prop) of the equations over K;
   My.txt_mk : {K} {implicit addresses ..} (e1 : nsIn K mainGlobals "law" = some (some (.ref f))) (e2 : K.lookup f = some ⟨oc, od, .func (fnOf "law" "law" params body scope dV kV doc pm an cdv ct), sl⟩) (e3 : codeIn K cdv "law" = true) .. : ∃ t, My.Txt K t

set_option maxRecDepth 100000 in
set_option maxHeartbeats 0 in
(the tactic k_is has no namespace: write k_is) -/

/-! SHORT WORDS over the layer: a def of the text, its body, what a loop and a test want. -/
namespace L2
open PySem PySem.Spec PyProof.Rows

/-! ### the text by places -/
def defArgs (s : Stmt) : Arguments := match s with
  | .FunctionDef _ a _ _ _ _ _ _ _ _ => a
  | _ => { posonlyargs := [], args := [], vararg := none, kwonlyargs := [], kw_defaults := [], kwarg := none, defaults := [] }
def defBody (s : Stmt) : List Stmt := match s with
  | .FunctionDef _ _ b _ _ _ _ _ _ _ => b
  | _ => []
def defScope (s : Stmt) : Scope := match s with
  | .FunctionDef _ _ _ _ _ _ sc _ _ _ => sc
  | _ => { kind := .function, names := [], isGenerator := false, isCoroutine := false }

/-! ### no exception leaves a def -/
abbrev CX0 : CXT := fun _ _ _ _ _ _ => False
abbrev E0 : XK := fun _ _ _ => False
theorem pass0 {X : Cx} : Passes CX0 X E0 := fun _ _ _ _ _ _ _ h => h.elim

/-! ### a def (or method) of the text as it stands behind the top -/
structure Fun (K : PySem.W.Frag) (x qual : Str) (st : Stmt) (f : Addr) (fd : FuncData) : Prop where
  ex : ∃ (oc : Value) (od : Option Addr) (kV doc pm : Value) (an : Option Addr) (cdv ct : Value) (osl : Array (Option Value)),
    fd = PySem.W.fnOf x qual (defArgs st) (defBody st) (defScope st) .none kV doc pm an cdv ct ∧ K.lookup f = some ⟨oc, od, .func fd, osl⟩ ∧ PySem.W.codeIn K cdv qual = true
  kp : PySem.W.keepIn K (.ref f) = true
section
variable {P : Program} {w : World} {K : PySem.W.Frag} {mg : Str → Option Value} {base : Heap}
/-- THE RULE for a def: its body as a term of rules, and the reading of that term -/
theorem Fun.ok {x qual : Str} {st : Stmt} {f : Addr} {fd : FuncData} {N ps : List Str} {k : Nat} {sp : Sp} (F : Fun K x qual st f fd) (S : FnScope N ps (defScope st)) (len : ∀ vs H Q E, sp vs H Q E → vs.length = ps.length)
    (hbody : ∀ (cdv : Value) (A : Around) (outer : List Env) (s : Shared) (H : Hp) (vs : List V) (Q : VK) (E : XK), Room k (A.deeper (envOfC qual (defScope st) s.heap.objs.size f cdv)) → sp vs H Q E →
      ∃ t, PSs (cxOf CX0 P w K mg base N qual (defScope st) f cdv A outer s H E).nox (defBody st) t ∧ t { nx := fun _ H' => Q .non H', rt := Q } (start N vs) H) : FnOk P w K mg base CX0 (k + 1) f fd ps sp := by
  obtain ⟨oc, od, kV, doc, pm, an, cdv, ct, osl, rfl, lk, hcd⟩ := F.ex
  refine fn_of lk hcd S len fun A outer s H vs Q E hr hsp => ?_
  obtain ⟨t, h, q⟩ := hbody cdv A outer s H vs Q E hr hsp
  exact ⟨t, h.nox, q⟩
/-- how its arguments bind (no defaults): h is «fun _ _ _ _ _ _ us hl => match us, hl with | [_, _], _ => rfl», one _ a parameter -/
theorem Fun.binds {x qual : Str} {st : Stmt} {f : Addr} {fd : FuncData} {ps : List Str} (F : Fun K x qual st f fd)
    (h : ∀ (kV doc pm : Value) (an : Option Addr) (cdv ct : Value) (us : List Value), us.length = ps.length → bindArgs (PySem.W.fnOf x qual (defArgs st) (defBody st) (defScope st) .none kV doc pm an cdv ct) ⟨us, []⟩ = pure (ps.zip us)) : Binds K fd ps [] := by
  obtain ⟨oc, od, kV, doc, pm, an, cdv, ct, osl, rfl, lk, hcd⟩ := F.ex
  exact .all (h kV doc pm an cdv ct)
theorem fun_mk {x qual : Str} {st : Stmt} {f : Addr} {oc : Value} {od an : Option Addr} {osl : Array (Option Value)} {kV doc pm cdv ct : Value} (l : K.lookup f = some ⟨oc, od, .func (PySem.W.fnOf x qual (defArgs st) (defBody st) (defScope st) .none kV doc pm an cdv ct), osl⟩)
    (c : PySem.W.codeIn K cdv qual = true) (k : PySem.W.keepIn K (.ref f) = true) : Fun K x qual st f (PySem.W.fnOf x qual (defArgs st) (defBody st) (defScope st) .none kV doc pm an cdv ct) := ⟨⟨oc, od, kV, doc, pm, an, cdv, ct, osl, rfl, l, c⟩, k⟩
end
theorem hu_of {A : Around} {k : Nat} (hr : Room k A) : A.units + 1 < cLine := Nat.lt_of_le_of_lt (Nat.add_le_add_left (by decide : 1 ≤ 64) _) hr.units
theorem small1000 {n : Nat} (h : n ≤ 1000) : n < sizeLine := Nat.lt_of_le_of_lt h (by decide)

/-! ### expressions in short: the name that stands in the i-th slot -/
section
variable {X : Cx}
theorem pv (i : Nat) {x : Str} {pos : Pos} (hN : X.N[i]? = some x := by rfl) (hv : Vis X.env.scope x := by first | exact Or.inl rfl | exact Or.inr (Or.inl rfl) | exact Or.inr (Or.inr rfl)) (hd : (x == ("__debug__" : Str)) = false := by decide)
    (hcd : (x == ("__classdict__" : Str)) = false := by decide) : PE X (.Name x pos) (tVar i) := pe_var hN hv hd hcd
end

/-! ### tests -/
theorem iteF {A B : Prop} (h : B) : if false = true then A else B := by
  rw [if_neg Bool.false_ne_true]
  exact h
theorem iteT {A B : Prop} (h : A) : if true = true then A else B := by
  rw [if_pos rfl]
  exact h
theorem ite2 {c A B : Prop} [Decidable c] (h1 : c → A) (h2 : ¬ c → B) : if c then A else B := by
  by_cases h : c
  · rw [if_pos h]
    exact h1 h
  · rw [if_neg h]
    exact h2 h
/-! ### heaps -/
/-- all that was tracked is as it was -/
def Same (H H' : Hp) : Prop := ∀ b o, H b = some o → H' b = some o
theorem Same.refl (H : Hp) : Same H H := fun _ _ h => h
theorem Same.trans {H H1 H2 : Hp} (a : Same H H1) (b : Same H1 H2) : Same H H2 := fun c o h => b c o (a c o h)
theorem Same.free {H H' : Hp} (e : Same H H') {l : Addr} (h : H' l = Option.none) : H l = Option.none := by
  cases q : H l with
  | none => rfl
  | some o =>
    rw [e l o q] at h
    cases h
theorem Same.seq {K : PySem.W.Frag} {H H' : Hp} {a : Addr} {xs : List V} (e : Same H H') (h : SqL K H a xs) : SqL K H' a xs := by
  rcases h with (h | ⟨o, h⟩) | h
  · exact .inl (.inl (e _ _ h))
  · exact .inl (.inr ⟨o, e _ _ h⟩)
  · exact .inr h

end L2

set_option Elab.async false
set_option linter.all false
set_option maxRecDepth 100000
set_option maxHeartbeats 4000000
namespace L2
open PySem PySem.Spec PyProof.Rows

/-! ### a list comprehension of one clause -/
/-- the cells that a block takes over -/
def clFrom (env : Env) : List (Str × NameKind) → List (Str × Addr) → List (Str × Addr)
  | [], cs => cs
  | (n, k) :: r, cs => clFrom env r (if k == .free then (n, (env.cells.lookup n).getD 0) :: cs else cs)
abbrev clOf (scope : Scope) (env : Env) : List (Str × Addr) := clFrom env scope.names []
theorem closureFor_cl {env : Env} : ∀ (names : List (Str × NameKind)) (cs : List (Str × Addr)), (∀ x ∈ names, x.2 = .free → ∃ c, env.cells.lookup x.1 = some c) →
    (forIn names cs fun (x : Str × NameKind) r => do
      if x.2 == .free then
        let c ← cellOf env x.1
        pure (ForInStep.yield ((x.1, c) :: r))
      else pure (ForInStep.yield r) : Sem (List (Str × Addr))) = pure (clFrom env names cs)
  | [], cs, _ => rfl
  | (n, k) :: r, cs, h => by
    rw [List.forIn_cons]
    have ih := fun cs' => closureFor_cl (env := env) r cs' fun x hx => h x (List.mem_cons_of_mem _ hx)
    by_cases hk : k = .free
    · subst hk
      obtain ⟨c, hc⟩ := h (n, .free) List.mem_cons_self rfl
      have hc' : env.cells.lookup n = some c := hc
      have ec : cellOf env n = pure c := by unfold cellOf; rw [hc']
      dsimp only
      rw [if_pos (by rfl), ec]
      show (forIn r ((n, c) :: cs) _ : Sem _) = _
      rw [ih]
      conv => rhs; unfold clFrom
      rw [if_pos (by rfl), hc']
      rfl
    · have hb : (k == NameKind.free) = false := by simpa using hk
      dsimp only
      rw [if_neg (by rw [hb]; decide)]
      show (forIn r cs _ : Sem _) = _
      rw [ih]
      conv => rhs; unfold clFrom
      rw [if_neg (by rw [hb]; decide)]
theorem closure_cl {scope : Scope} {env : Env} (h : ∀ x ∈ scope.names, x.2 = .free → ∃ c, env.cells.lookup x.1 = some c) : closureFor scope env = pure (clOf scope env) := by
  unfold closureFor
  have e := closureFor_cl (env := env) scope.names [] h
  simp only [bind_pure]
  exact e
theorem cl_lookup {env : Env} {x : Str} {c : Addr} : ∀ (names : List (Str × NameKind)) (cs : List (Str × Addr)), (clFrom env names cs).lookup x = some c → ((x, NameKind.free) ∈ names ∧ c = (env.cells.lookup x).getD 0) ∨ cs.lookup x = some c
  | [], _, h => .inr h
  | (n, k) :: r, cs, h => by
    unfold clFrom at h
    rcases cl_lookup r _ h with ⟨h1, h2⟩ | h1
    · exact .inl ⟨List.mem_cons_of_mem _ h1, h2⟩
    · by_cases hk : k = .free
      · subst hk
        rw [if_pos (by rfl), List.lookup_cons] at h1
        cases e : x == n with
        | true =>
          rw [e] at h1
          have en : x = n := eq_of_beq e
          subst en
          exact .inl ⟨List.mem_cons_self, (Option.some.inj h1).symm⟩
        | false => rw [e] at h1; exact .inr h1
      · have hb : (k == NameKind.free) = false := by simpa using hk
        rw [if_neg (by rw [hb]; decide)] at h1
        exact .inr h1
theorem cl_mono {env : Env} {x : Str} : ∀ (names : List (Str × NameKind)) (cs : List (Str × Addr)), (∃ c, cs.lookup x = some c) → ∃ c, (clFrom env names cs).lookup x = some c
  | [], _, h => h
  | (n, k) :: r, cs, h => by
    unfold clFrom
    refine cl_mono r _ ?_
    split
    · rw [List.lookup_cons]
      split
      · exact ⟨_, rfl⟩
      · exact h
    · exact h
theorem cl_has {env : Env} {x : Str} : ∀ (names : List (Str × NameKind)) (cs : List (Str × Addr)), (x, NameKind.free) ∈ names → ∃ c, (clFrom env names cs).lookup x = some c
  | [], _, h => by simp at h
  | (n, k) :: r, cs, h => by
    unfold clFrom
    rcases List.mem_cons.mp h with e | h
    · cases e
      refine cl_mono r _ ?_
      rw [if_pos (by rfl), List.lookup_cons]
      exact ⟨(env.cells.lookup x).getD 0, by simp⟩
    · exact cl_has r _ h
theorem relabel_cf {scope : Scope} {env : Env} {x : Str} (hcell : ∀ y ∈ scope.names, y.2 ≠ .cell) (h : (relabel scope env).names.lookup x = some .cell ∨ (relabel scope env).names.lookup x = some .free) : (x, NameKind.free) ∈ scope.names := by
  have hm : ∃ k, (x, k) ∈ (relabel scope env).names ∧ (k = .cell ∨ k = .free) := by
    rcases h with h | h
    · exact ⟨_, PySem.mem_of_lookup h, .inl rfl⟩
    · exact ⟨_, PySem.mem_of_lookup h, .inr rfl⟩
  obtain ⟨k, hm, hk⟩ := hm
  obtain ⟨⟨n, k'⟩, h1, h2⟩ := List.mem_map.mp hm
  dsimp only at h2
  split at h2
  · rename_i hc
    have : k' = .free := by
      simp only [Bool.and_eq_true, beq_iff_eq] at hc
      exact hc.1.1
    cases h2
    subst this
    exact h1
  · cases h2
    rcases hk with rfl | rfl
    · exact absurd rfl (hcell _ h1)
    · exact h1
theorem relabel_free {env : Env} {x : Str} : ∀ {names : List (Str × NameKind)}, names.lookup x = some .free →
    (names.map fun (n, k) => if (k == NameKind.free && env.scope.kind == .function && env.kindOf n == some .cell) then (n, NameKind.cell) else (n, k)).lookup x = some .cell ∨
    (names.map fun (n, k) => if (k == NameKind.free && env.scope.kind == .function && env.kindOf n == some .cell) then (n, NameKind.cell) else (n, k)).lookup x = some .free
  | [], h => by simp at h
  | (n, k) :: r, h => by
    have ih := @relabel_free env x r
    rw [List.map_cons]
    dsimp only
    cases hx : x == n with
    | true =>
      simp only [List.lookup_cons, hx] at h
      cases h
      split
      · left; simp [List.lookup_cons, hx]
      · right; simp [List.lookup_cons, hx]
    | false =>
      simp only [List.lookup_cons, hx] at h
      split
      · simp only [List.lookup_cons, hx]; exact ih h
      · simp only [List.lookup_cons, hx]; exact ih h

section
variable {prog : Program} {w : World} {A : Around} {R : Result → Shared → Prop} {s : Shared}
theorem codeAny_compLoop_go {elt target iter : Expr} {ifs : List Expr} {scope : Scope} {pos : Pos} {it acc : Value} {env : Env} (I : Nat → Shared → Prop)
    (turn : ∀ n s, I n s → wpAny (model prog w) A (pyNext it) (fun r s₁ => match r with
      | none => R (.ok .next) s₁
      | some v => wpAny (model prog w) A (letOwnedTupleGo target it v) (fun _ s₁' => wpAny (model prog w) A (assign target env v) (fun _ s₂ =>
          wpAny (model prog w) A (forIn ifs true fun c r => if r = true then do let ok ← isTrue c env (eval c env); pure (ForInStep.yield ok) else pure (ForInStep.yield r)) (fun ok s₃ =>
            if ok = true then wpAny (model prog w) A (eval elt env) (fun x s₄ =>
              wpAny (model prog w) A (call (.builtin "list.append") [acc, x]) (fun _ s₅ => ∃ m, m < n ∧ I m s₅) (fun _ _ => False) s₄) (fun _ _ => False) s₃
            else ∃ m, m < n ∧ I m s₃) (fun _ _ => False) s₂) (fun _ _ => False) s₁') (fun _ _ => False) s₁) (fun _ _ => False) s)
    (n : Nat) (h : I n s) :
    codeAny (model prog w) A (.compLoop (.ListComp elt [⟨target, iter, ifs, 0⟩] scope pos) 0 it acc env) R s := by
  refine codeAny_loop rfl I (fun n s hI => ?_) n h
  show wpAny _ A ((compTurn (.ListComp elt [⟨target, iter, ifs, 0⟩] scope pos) 0 it acc env).onRaise (fun x => do noteFrame x env; theTreesLotGoes x)) _ _ s
  refine wpAny_noted ?_
  rw [compTurn_list]
  refine wpAny_bind (wpAny_standAt (wpAny_bind (wpAny_mono (turn n s hI) (fun r s₁ h₁ => ?_) fun _ _ h' => h'.elim)))
  cases r with
  | none => exact wpAny_pure h₁
  | some v =>
    refine wpAny_bind (wpAny_mono h₁ (fun _ s₁' h₁ => ?_) fun _ _ h' => h'.elim)
    refine wpAny_bind (wpAny_mono h₁ (fun _ s₂ h₂ => wpAny_bind (wpAny_mono h₂ (fun ok s₃ h₃ => ?_) fun _ _ h' => h'.elim)) fun _ _ h' => h'.elim)
    cases ok with
    | false => exact wpAny_pure ⟨rfl, h₃⟩
    | true =>
      exact wpAny_bind (wpAny_bind (wpAny_mono h₃ (fun x s₄ h₄ => wpAny_bind (wpAny_mono h₄ (fun _ s₅ h₅ => wpAny_pure (wpAny_pure ⟨rfl, h₅⟩)) fun _ _ h' => h'.elim)) fun _ _ h' => h'.elim))
end

/-- the tests of a clause -/
def PTs (X : Cx) (ifs : List Expr) (t : TT) : Prop :=
  ∀ (pins : List (Addr × Obj)) (s : Shared) (σ : St) (H : Hp) (Q : Bool → Hp → Prop), Inv X pins σ H s → t σ H Q →
    wpAny (model X.prog X.w) X.A (forIn ifs true fun c r => if r = true then do let ok ← isTrue c X.env (eval c X.env); pure (ForInStep.yield ok) else pure (ForInStep.yield r)) (TP X pins σ Q) X.xe s
def tTrue : TT := fun _ H Q => Q true H
theorem pts_nil {X : Cx} : PTs X [] tTrue := fun _ _ _ H _ I h => wpAny_tests_nil ⟨H, I, h⟩
theorem pts_one {X : Cx} {c : Expr} {t : TT} (h : PT X c t) : PTs X [c] t := fun pins s σ H Q I q => wpAny_tests_one (h pins s σ H Q I q)

/-- the context of a comprehension's block -/
def Cx.blk (X : Cx) (scope : Scope) (own : List Str) (js : List Nat) (s₂ : Shared) (H₂ : Hp) (C : Addr) (fp : List Addr) (pins : List (Addr × Obj)) : Cx where
  prog := X.prog
  w := X.w
  K := X.K
  mg := X.mg
  base := X.base
  A := X.A
  N := own ++ js.map fun j => X.N.getD j Str.empty
  s₀ := s₂
  H₀ := H₂
  env := compEnvC scope (clOf scope X.env) C X.env
  outer := X.stack
  stack := X.stack
  ex := fp
  fn := fun _ => false
  calm := X.calm
  pn := X.pn ++ pins
  xe := fun _ _ => False
def blkσ (own : List Str) (js : List Nat) (σ : St) : St := own.map (fun _ => none) ++ js.map fun j => (σ[j]?).join

section
variable {X : Cx} {pins : List (Addr × Obj)} {σ : St} {H H' : Hp} {s s' : Shared} {scope : Scope} {own : List Str} {js : List Nat} {C : Addr} {fp : List Addr}
/-- what the text of a comprehension must have -/
structure CompOk (X : Cx) (scope : Scope) (own : List Str) (js : List Nat) : Prop where
  kind : scope.kind = .function
  cell : ∀ y ∈ scope.names, y.2 ≠ .cell
  free : ∀ y ∈ scope.names, y.2 = .free → X.env.kindOf y.1 = some .cell ∨ X.env.kindOf y.1 = some .free
  names : ∀ y ∈ scope.names, y.2 = .local → scope.names.lookup y.1 = some .local
  out : ∀ j ∈ js, ∃ x, X.N[j]? = some x ∧ scope.names.lookup x = some .free
theorem CompOk.cl (c : CompOk X scope own js) (I : Inv X pins σ H s) : ∀ x ∈ scope.names, x.2 = .free → ∃ c, X.env.cells.lookup x.1 = some c := fun x hx hf => I.ok.has x.1 (c.free x hx hf)
theorem CompOk.look (c : CompOk X scope own js) (I : Inv X pins σ H s) {x : Str} {a : Addr} (h : (clOf scope X.env).lookup x = some a) : X.env.cells.lookup x = some a := by
  rcases cl_lookup _ _ h with ⟨h1, h2⟩ | h1
  · obtain ⟨c', e⟩ := c.cl I (x, .free) h1 rfl
    have e' : X.env.cells.lookup x = some c' := e
    rw [e'] at h2 ⊢
    subst h2
    rfl
  · simp at h1
theorem blk_ok (c : CompOk X scope own js) (I : Inv X pins σ H s) (hC : s.heap.objs.size ≤ C) (hf : ∀ b ∈ fp, FpOk X pins H b) (ho : ∀ b ∈ fp, ∃ o, s.heap.get? b = some o) : (X.blk scope own js s H C fp pins).Ok where
  mod := I.ok.mod
  kind := c.kind
  glob := I.ok.glob
  blt := I.ok.blt
  above := hC
  inj := fun x y a h1 h2 => I.ok.inj x y a (c.look I h1) (c.look I h2)
  has := fun x hx => cl_has _ _ (relabel_cf c.cell hx)
  cab := fun x a h => by cases h
  hd := I.ok.hd
  frames := I.ok.frames
  stk := .inl rfl
  exf := fun b hb => by
    obtain ⟨o, e⟩ := ho b hb
    exact ⟨Nat.ne_of_lt (Nat.lt_of_lt_of_le (Heap.lt_size e) hC), fun x a h => (hf b hb).2.2.2.2.1 x a (c.look I h)⟩
  bs := I.bs
  bsz := Nat.le_trans I.ok.bsz I.sz
  noex := fun b o e hb => by
    rcases (hf b hb).2.2.2.1 with z | z
    · exact I.ok.noex b o e z
    · exact absurd (Nat.lt_of_lt_of_le (Heap.lt_size e) (Nat.le_trans I.ok.bsz z)) (Nat.lt_irrefl _)
  exfs := fun b hb hm => by
    rcases List.mem_cons.mp (I.stkSub b hm) with z | z
    · exact (hf b hb).2.1 z
    · exact (hf b hb).2.2.1 z
  funs := I.stack
  frf := I.stkFree
theorem blk_len (own : List Str) (js : List Nat) (σ : St) (X : Cx) : (blkσ own js σ).length = (own ++ js.map fun j => X.N.getD j Str.empty).length := by
  unfold blkσ
  simp
/-- the block's state at its start -/
theorem blk_start {acc : Addr} {m : Str → Option Value} {tk : Nat} {h' : Heap} (c : CompOk X scope own js) (I : Inv X pins σ H s) (hC : s.heap.objs.size ≤ C) (hf : ∀ b ∈ fp, FpOk X pins H b) (ho : ∀ b ∈ fp, ∃ o, s.heap.get? b = some o)
    (hn : h'.Ns C m) (k : ∀ b u, s.heap.get? b = some u → h'.get? b = some u) (hacc : s.heap.objs.size ≤ acc) (haC : acc ≠ C) (hl : h'.get? acc = some { cls := .type "list", data := .seq ([] : List Value).toArray 0 }) :
    Inv (X.blk scope own js s H C fp pins) [] (blkσ own js σ) (upd H acc (.lst [])) { s with heap := h', toks := tk } := by
  have ok := blk_ok c I hC hf ho
  have fresh : ∀ {a : Addr}, s.heap.objs.size ≤ a → H a = none := fun h => I.hok.fresh h
  have neA : ∀ b o, s.heap.get? b = some o → b ≠ acc := fun b o e => Nat.ne_of_lt (Nat.lt_of_lt_of_le (Heap.lt_size e) hacc)
  refine ⟨ok, rfl, I.bare, Un.laid k hacc (fresh hacc), ⟨m, hn, fun i x v e1 e2 e3 => ?_⟩, fun x a e => ?_, ?_, fun x a e => ?_, fun p hp => ?_, I.hok.laid k hacc ⟨Nat.zero_le _, [], 0, .nil, hl⟩, blk_len own js σ X⟩
  · -- an outer name
    have hi : own.length ≤ i := by
      refine Nat.le_of_not_lt fun hi => ?_
      unfold blkσ at e2
      rw [List.getElem?_append_left (by simpa using hi), List.getElem?_map] at e2
      cases q : own[i]? with
      | none => rw [q] at e2; cases e2
      | some z => rw [q] at e2; cases e2
    have e1' : (js.map fun j => X.N.getD j Str.empty)[i - own.length]? = some x := by
      have e1 : (own ++ js.map fun j => X.N.getD j Str.empty)[i]? = some x := e1
      rwa [List.getElem?_append_right hi] at e1
    have e2' : (js.map fun j => (σ[j]?).join)[i - own.length]? = some (some v) := by
      unfold blkσ at e2
      rw [List.getElem?_append_right (by simpa using hi)] at e2
      simpa using e2
    rw [List.getElem?_map] at e1' e2'
    cases q : js[i - own.length]? with
    | none => rw [q] at e1'; cases e1'
    | some j =>
      rw [q] at e1' e2'
      obtain ⟨x', hx', hfree⟩ := c.out j (List.mem_of_getElem? q)
      have ex : x' = x := by
        have : X.N.getD j Str.empty = x := Option.some.inj e1'
        rw [List.getD_eq_getElem?_getD, hx'] at this
        exact this
      subst ex
      have eσ : σ[j]? = some (some v) := by
        have e2'' : (σ[j]?).join = some v := Option.some.inj e2'
        cases r : σ[j]? with
        | none => rw [r] at e2''; cases e2''
        | some z => rw [r] at e2''; cases z with
          | none => cases e2''
          | some y => cases e2''; rfl
      have hmem : (x', NameKind.free) ∈ scope.names := PySem.mem_of_lookup hfree
      have hkX := c.free _ hmem rfl
      have vis : Vis X.env.scope x' := by
        rcases hkX with z | z
        · exact .inr (.inl z)
        · exact .inr (.inr z)
      obtain ⟨m0, hn0, hl0⟩ := I.loc
      obtain ⟨u, r, l⟩ := hl0 j x' v hx' eσ vis
      refine ⟨u, r, .inr ⟨relabel_free hfree, ?_⟩⟩
      obtain ⟨a, ha⟩ := cl_has (env := X.env) scope.names [] hmem
      refine ⟨a, ha, ?_⟩
      have haX := c.look I ha
      rcases l with ⟨z, _⟩ | ⟨_, a', ha', ⟨o, ho', hd⟩⟩
      · have z : X.env.kindOf x' = some .local := z
        rcases hkX with y | y
        · have y : X.env.kindOf x' = some .cell := y
          rw [z] at y; cases y
        · have y : X.env.kindOf x' = some .free := y
          rw [z] at y; cases y
      · rw [haX] at ha'; cases ha'
        exact ⟨o, k _ o ho', hd⟩
  · obtain ⟨v, o, ho', hd⟩ := I.cell x a (c.look I e)
    exact ⟨v, o, k _ o ho', hd⟩
  · show upd H acc (.lst []) C = none
    rw [upd_ne (Ne.symm haC)]
    exact fresh hC
  · have e' := c.look I e
    obtain ⟨v, o, ho', hd⟩ := I.cell x a e'
    rw [upd_ne (neA a o ho')]
    exact I.freeC x a e'
  · have hp : p ∈ X.pn ++ pins := by simpa [Cx.blk] using hp
    obtain ⟨e, n, ne, nf, d⟩ := I.pin p hp
    refine ⟨k _ _ e, by rw [upd_ne (neA _ _ e)]; exact n, Nat.ne_of_lt (Nat.lt_of_lt_of_le (Heap.lt_size e) hC), fun z => ?_, d⟩
    rcases List.mem_cons.mp (I.stkSub _ z) with q | q
    · exact ne q
    · exact nf q
/-- behind the block -/
theorem blk_end {τ : St} {pl : List (Addr × Obj)} (I : Inv X pins σ H s) (hf : ∀ b ∈ fp, FpOk X pins H b) (J : Inv (X.blk scope own js s H C fp pins) pl τ H' s') : Inv X pins σ H' s' :=
  I.call' J.os J.base J.hok J.bare fun b hb => ⟨(hf b hb).2.2.2.1, (hf b hb).2.1, (hf b hb).2.2.2.2.1, (hf b hb).2.2.2.2.2⟩
/-- an untracked object of the block's changes -/
theorem Inv.other {h' : Heap} (I : Inv X pins σ H s) (hs : Heap.SameBut C s.heap h') (hn : H C = none) (hL : C ≠ X.env.locals) (h1 : X.s₀.heap.objs.size ≤ C) (h2 : ∀ x c, X.env.cells.lookup x = some c → c ≠ C) (h3 : ∀ p ∈ X.pn ++ pins, p.1 ≠ C) :
    Inv X pins σ H { s with heap := h' } :=
  I.turned (t' := s.toks) (fun b o hb e => (hs.2 b hb).trans e) hn hL (.inr h1) h2 h3
end

/-- a target keeps the outer names -/
def GKeep (own : List Str) (g : TG) : Prop := ∀ (js : List Nat) (σ : St) (x : V) (H : Hp) (Q : St → Hp → Prop), g x (blkσ own js σ) H Q →
  g x (blkσ own js σ) H fun τ H' => (∀ (j : Nat) v, (blkσ own js σ)[j]? = some (some v) → τ[j]? = some (some v)) ∧ Q τ H'
theorem blkσ_own {own : List Str} {js : List Nat} {σ : St} {i : Nat} {v : V} (hi : i < own.length) : (blkσ own js σ)[i]? ≠ some (some v) := by
  unfold blkσ
  rw [List.getElem?_append_left (by simpa using hi), List.getElem?_map]
  cases own[i]? with
  | none => intro h; cases h
  | some z => intro h; cases h
theorem gkeep_name {own : List Str} {i : Nat} (hi : i < own.length := by decide) : GKeep own (gName i) := fun js σ x H Q h => ⟨fun j v e => by
  have hj : j ≠ i := by rintro rfl; exact blkσ_own hi e
  rw [List.getElem?_set_ne (Ne.symm hj)]
  exact e, h⟩
theorem gkeep_two {K : PySem.W.Frag} {own : List Str} {i k : Nat} (hi : i < own.length := by decide) (hk : k < own.length := by decide) : GKeep own (gTup K 2 (gCons (gName i) (gCons (gName k) gNil))) := fun js σ x H Q h => by
  obtain ⟨a, xs, rfl, hq, hl, v, r, rfl, w, r', rfl, e, h⟩ := h
  refine ⟨a, _, rfl, hq, hl, v, _, rfl, w, r', rfl, e, fun j z e => ?_, h⟩
  have hj : j ≠ i := by rintro rfl; exact blkσ_own hi e
  have hj' : j ≠ k := by rintro rfl; exact blkσ_own hk e
  rw [List.getElem?_set_ne (Ne.symm hj'), List.getElem?_set_ne (Ne.symm hj)]
  exact e
/-- [elt for target in iter if ..]: W the invariant by the turn and the heap, in which acc is the list so far; n: no more turns -/
def tCompW (own : List Str) (js : List Nat) (g : TG) (tt : TT) (te : TE) (σ : St) (J : It) (H1 : Hp) (Q : VK) : Prop :=
  ∀ acc, H1 acc = none → ∃ (W : Nat → Hp → Prop) (n : Nat), W 0 (upd H1 acc (.lst [])) ∧ ∀ i H2, W i H2 →
    (J.stop i H2 ∧ Q (.ref acc) H2) ∨ (i < n ∧ J.go i H2 ∧ ∀ x H3, J.yld i H2 x H3 → g x (blkσ own js σ) H3 fun τ H4 => tt τ H4 fun c H5 =>
      if c = true then te τ H5 fun y H6 => ∃ ys, H6 acc = some (.lst ys) ∧ ys.length < sizeLine ∧ W (i + 1) (upd H6 acc (.lst (ys ++ [y]))) else W (i + 1) H5)
def tComp (own : List Str) (js : List Nat) (wi : TI) (g : TG) (tt : TT) (te : TE) : TE := fun σ H Q => wi σ H fun J H1 => tCompW own js g tt te σ J H1 Q

section
variable {X : Cx} {scope : Scope} {own : List Str} {js : List Nat} {elt iter target : Expr} {ifs : List Expr} {wi : TI} {g : TG} {tt : TT} {te : TE} {pos : Pos}
/-- the block runs -/
theorem blk_run {pins : List (Addr × Obj)} {σ : St} {H2 : Hp} {s₂ : Shared} {it : Addr} {fp : List Addr} {tn : Nat → Heap → Prop} {J : It} {Q : VK} {E : Value → Shared → Prop} {RR : Value → Addr → Result → Shared → Prop}
    (c : CompOk X scope own js) (hc : X.calm = true) (hgk : GKeep own g)
    (hg : ∀ s H C fp pins, PG (X.blk scope own js s H C fp pins) target g) (ht : ∀ s H C fp pins, PTs (X.blk scope own js s H C fp pins) ifs tt) (he : ∀ s H C fp pins, PE (X.blk scope own js s H C fp pins) elt te)
    (I : Inv X pins σ H2 s₂) (T : Turn X.prog X.w X.K target J fp it tn) (st : tn 0 s₂.heap) (hf : ∀ b ∈ fp, FpOk X pins H2 b) (h : tCompW own js g tt te σ J H2 Q)
    (hRR : ∀ acc C H' s' m, s₂.heap.objs.size ≤ C → H' C = none → Inv X pins σ H' s' → s'.heap.Ns C m → Q (.ref acc) H' → RR (.ref acc) C (.ok .next) s') :
    wpAny (model X.prog X.w) X.A (newList []) (fun acc s₃ => wpAny (model X.prog X.w) X.A (newFunctionEnv scope X.env.globals (clOf scope X.env) [] X.env.qual none .none (some X.env)) (fun cenv s₄ =>
      codeAny (model X.prog X.w) X.A (.compStart (.ListComp elt [⟨target, iter, ifs, 0⟩] scope pos) 0 (.ref it) acc { cenv with scope := relabel scope X.env }) (RR acc cenv.locals) s₄) E s₃) E s₂ := by
  refine wpAny_newObj_type (wpAny_newFunctionEnv c.cell (by intro y hy; simp at hy) (fun h₁ hns₁ hsb₁ => ?_) c.kind)
  dsimp only at hns₁ hsb₁ ⊢
  generalize hH2 : s₂.heap.push { cls := .type "list", dict := none, data := .seq ([] : List Value).toArray } = G2 at hns₁ hsb₁ ⊢
  have hC : G2.objs.size = s₂.heap.objs.size + 1 := by rw [← hH2, Heap.size_push]
  have hDC : s₂.heap.objs.size ≠ G2.objs.size := by rw [hC]; exact Nat.ne_of_lt (Nat.lt_succ_self _)
  have hCle : s₂.heap.objs.size ≤ G2.objs.size := by rw [hC]; exact Nat.le_succ _
  have old : ∀ b o, s₂.heap.get? b = some o → h₁.get? b = some o := fun b o e => hsb₁.extBut b o (Nat.ne_of_lt (Nat.lt_of_lt_of_le (Heap.lt_size e) hCle)) (Heap.get?_push_of_some _ (hH2 ▸ Heap.get?_push_of_some _ e))
  have hacc : h₁.get? s₂.heap.objs.size = some { cls := .type "list", data := .seq ([] : List Value).toArray 0 } := hsb₁.extBut _ _ hDC (Heap.get?_push_of_some _ (hH2 ▸ Heap.get?_push_size _ rfl))
  have ho2 : ∀ b ∈ fp, ∃ o, s₂.heap.get? b = some o := fun b hb => let ⟨o, e, _⟩ := T.obj 0 _ st b hb; ⟨o, e⟩
  have I0 : ∀ tk, Inv (X.blk scope own js s₂ H2 G2.objs.size fp pins) [] (blkσ own js σ) (upd H2 s₂.heap.objs.size (.lst [])) { s₂ with heap := h₁, toks := tk } := fun tk =>
    blk_start c I hCle hf ho2 hns₁ old (Nat.le_refl _) hDC hacc
  obtain ⟨W, nn, w0, turn⟩ := h s₂.heap.objs.size (I.hok.fresh (Nat.le_refl _))
  generalize hacc' : s₂.heap.objs.size = acc at *
  generalize hGC : G2.objs.size = C at *
  have st1 : tn 0 h₁ := T.keep 0 _ _ st fun b _ o e => old b o e
  have fOk : ∀ {H' : Hp}, (∀ b ∈ fp, H' b = none) → ∀ b ∈ fp, FpOk (X.blk scope own js s₂ H2 C fp pins) [] H' b := fun hn b hb => by
    obtain ⟨f0, f1, f2, f3, f4, f5⟩ := hf b hb
    obtain ⟨o, e⟩ := ho2 b hb
    refine ⟨hn b hb, Nat.ne_of_lt (Nat.lt_of_lt_of_le (Heap.lt_size e) (by rw [← hacc'] at hCle; exact hCle)), fun z => ?_, .inl hb, fun x a h => f4 x a (c.look I h), fun p hp => f5 p (by simpa [Cx.blk] using hp)⟩
    rcases List.mem_cons.mp (I.stkSub b z) with q | q
    · exact f1 q
    · exact f2 q
  have loop : ∀ s₃ : Shared, s₃ = { s₂ with heap := h₁, toks := s₂.toks + ([] : List (Str × Value)).length } →
      codeAny (model X.prog X.w) X.A (.compLoop (.ListComp elt [⟨target, iter, ifs, 0⟩] scope pos) 0 (.ref it) (.ref acc) (compEnvC scope (clOf scope X.env) C X.env)) (RR (.ref acc) C) s₃ := by
    rintro s₃ rfl
    refine codeAny_compLoop_go (fun n s' => ∃ i H', n = nn - i ∧ Inv (X.blk scope own js s₂ H2 C fp pins) [] (blkσ own js σ) H' s' ∧ tn i s'.heap ∧ (∀ b ∈ fp, H' b = none) ∧ W i H') ?_ nn ⟨0, _, rfl, I0 _, st1, fun b hb => ?_, w0⟩
    · rintro n s3 ⟨i, H3, en, I3, st3, fr3, w3⟩
      rcases turn i H3 w3 with ⟨stop, qn⟩ | ⟨hin, go, step⟩
      · refine thn (T.done (X.blk scope own js s₂ H2 C fp pins) rfl rfl rfl hc i [] s3 _ H3 (fun _ _ => False) I3 (fOk fr3) st3 stop) fun r s4 ⟨hr, I4⟩ => ?_
        subst hr
        obtain ⟨m, hn, _⟩ := I4.loc
        exact hRR acc C H3 s4 m hCle I4.free (blk_end I hf I4) hn qn
      · refine thn (T.item (X.blk scope own js s₂ H2 C fp pins) rfl rfl rfl hc i [] s3 _ H3 (fun _ _ => False) I3 (fOk fr3) st3 go) fun r s4 ⟨u, hr, h4⟩ => ?_
        subst hr
        refine thn h4 fun _ s5 ⟨x, H5, I5, r5, y5, st5, fr5⟩ => ?_
        have I5' := I5.pinned (fOk fr5) (T.obj _ _ st5)
        have again : ∀ {σ7 : St} {H7 : Hp} {s7 : Shared}, Inv (X.blk scope own js s₂ H2 C fp pins) ([] ++ pinsAt fp s5.heap) σ7 H7 s7 → (∀ (j : Nat) v, (blkσ own js σ)[j]? = some (some v) → σ7[j]? = some (some v)) → W (i + 1) H7 →
            ∃ m, m < n ∧ ∃ i H', m = nn - i ∧ Inv (X.blk scope own js s₂ H2 C fp pins) [] (blkσ own js σ) H' s7 ∧ tn i s7.heap ∧ (∀ b ∈ fp, H' b = none) ∧ W i H' := fun {σ7 H7 s7} I7 hw w7 => by
          refine ⟨nn - (i + 1), by omega, i + 1, H7, rfl, (I7.unpinned).weak ((blk_len own js σ X).trans I7.len.symm) hw, T.keep _ _ _ st5 fun b hb o e => (I7.pin (b, o) (List.mem_append_right _ (List.mem_append_right _ (mem_pinsAt hb e)))).1, fun b hb => ?_, w7⟩
          obtain ⟨o, e, d⟩ := T.obj _ _ st5 b hb
          exact (I7.pin (b, o) (List.mem_append_right _ (List.mem_append_right _ (mem_pinsAt hb e)))).2.1
        refine thn (hg s₂ H2 C fp pins _ s5 _ H5 x u _ I5' r5 (hgk _ _ _ _ _ (step x H5 y5))) fun _ s6 ⟨σ6, H6, I6, kp, q6⟩ => ?_
        refine thn (ht s₂ H2 C fp pins _ s6 σ6 H6 _ I6 q6) fun ok s7 ⟨H7, I7, q7⟩ => ?_
        cases ok with
        | false =>
          exact again I7 kp q7
        | true =>
          refine thn (he s₂ H2 C fp pins _ s7 σ6 H7 _ I7 q7) fun y s8 ⟨v, H8, I8, r8, ys, hl, hz, w8⟩ => ?_
          refine thn (mt_append (X := X.blk scope own js s₂ H2 C fp pins) _ s8 σ6 H8 (.ref acc) [v] (.ref acc) [y] (fun _ H9 => W (i + 1) H9) I8 rfl (.cons r8 .nil) ⟨acc, ys, v, rfl, rfl, hl, hz, w8⟩) fun _ s9 ⟨_, H9, I9, _, w9⟩ => ?_
          exact again I9 kp w9
    · rw [upd_ne ?_]
      · exact (hf b hb).1
      · obtain ⟨o, e⟩ := ho2 b hb
        rw [← hacc']
        exact Nat.ne_of_lt (Heap.lt_size e)
  exact codeAny_compStart_list (loop _ rfl) (T.self _ 0 _ _ _ st1 (loop _ rfl))
/-- the comprehension as a value -/
theorem pe_comp (c : CompOk X scope own js) (hc : X.calm = true) (hi : PI X target iter wi) (hgk : GKeep own g)
    (hg : ∀ s H C fp pins, PG (X.blk scope own js s H C fp pins) target g) (ht : ∀ s H C fp pins, PTs (X.blk scope own js s H C fp pins) ifs tt) (he : ∀ s H C fp pins, PE (X.blk scope own js s H C fp pins) elt te)
    (hs : ∀ x, foldedSetIterable iter X.env x = pure x := by intro _; rfl) : PE X (.ListComp elt [⟨target, iter, ifs, 0⟩] scope pos) (tComp own js wi g tt te) := by
  intro pins s σ H Q I h
  rw [eval_ListComp]
  refine wpAny_comprehension_free (use := none) rfl hs (closure_cl (c.cl I)) c.kind c.names (thn (hi pins s σ H _ I h) fun v s1 h1 => thn h1 fun itv s2 h2 => ?_)
  obtain ⟨it, fp, tn, J, H2, e, I2, T, st2, f2, hw⟩ := h2
  subst e
  refine blk_run (RR := fun acc C => compPost (model X.prog X.w) X.A X.xe none (EP X pins σ Q) acc C) c hc hgk hg ht he I2 T st2 f2 hw ?_
  intro acc C H' s' m hCs hCn I' hn q
  refine ⟨m, hn, fun h' hs' => ⟨.ref acc, H', I'.other hs' hCn ?_ ?_ ?_ ?_, rfl, q⟩⟩
  · exact Nat.ne_of_gt (Nat.lt_of_lt_of_le I2.lt hCs)
  · exact Nat.le_trans I2.sz hCs
  · intro x a e z
    obtain ⟨v, q⟩ := I2.cell x a e
    exact absurd (Nat.lt_of_lt_of_le q.lt (by rw [z]; exact hCs)) (Nat.lt_irrefl _)
  · intro p hp z
    exact absurd (Nat.lt_of_lt_of_le (Heap.lt_size (I2.pin p hp).1) (by rw [z]; exact hCs)) (Nat.lt_irrefl _)
/-- name = [..], the name a plain local -/
theorem ps_comp {i : Nat} {y : Str} {py spos : Pos} (hN : X.N.Nodup) (hy : X.N[i]? = some y) (hyl : X.env.scope.names.lookup y = some .local) (c : CompOk X scope own js) (hc : X.calm = true) (hi : PI X target iter wi) (hgk : GKeep own g)
    (hg : ∀ s H C fp pins, PG (X.blk scope own js s H C fp pins) target g) (ht : ∀ s H C fp pins, PTs (X.blk scope own js s H C fp pins) ifs tt) (he : ∀ s H C fp pins, PE (X.blk scope own js s H C fp pins) elt te)
    (hsw : swapsWith (.ListComp elt [⟨target, iter, ifs, 0⟩] scope pos) (some (.Name y py)) spos.line X.env = pure true := by rfl)
    (hs : ∀ x, foldedSetIterable iter X.env x = pure x := by intro _; rfl) : PS X (.Assign [.Name y py] (.ListComp elt [⟨target, iter, ifs, 0⟩] scope pos) spos) (tAsg (tComp own js wi g tt te) (gName i)) := by
  intro pins s σ H D I h
  rw [exec_Assign_Name_used _ _ _ _ hsw]
  refine wpAny_bind (wpAny_standAt (wpAny_bind ?_))
  show wpAny _ X.A (do let _ ← comprehension (.ListComp elt [⟨target, iter, ifs, 0⟩] scope pos) scope X.env _ (newList []) false (eval iter X.env) (some (assign (.Name y py) X.env))) _ _ s
  refine wpAny_bind (wpAny_mono (wpAny_comprehension_free (use := some (assign (.Name y py) X.env)) (Q := fun _ s' => SP X pins D .next s') rfl hs (closure_cl (c.cl I)) c.kind c.names
    (thn (hi pins s σ H _ I h) fun v s1 h1 => thn h1 fun itv s2 h2 => ?_)) (fun _ s' hq => wpAny_pure (wpAny_pure hq)) fun _ _ e => e)
  obtain ⟨it, fp, tn, J, H2, e, I2, T, st2, f2, hw⟩ := h2
  subst e
  refine blk_run (Q := fun x H1 => gName i x σ H1 D.nx) (RR := fun acc C => compPost (model X.prog X.w) X.A X.xe (some (assign (.Name y py) X.env)) (fun _ s' => SP X pins D .next s') acc C) c hc hgk hg ht he I2 T st2 f2 hw ?_
  intro acc C H' s' m hCs hCn I' hn q
  have hL : C ≠ X.env.locals := Nat.ne_of_gt (Nat.lt_of_lt_of_le I2.lt hCs)
  have hcell : ∀ x a, X.env.cells.lookup x = some a → a ≠ C := by
    intro x a e z
    obtain ⟨v, q⟩ := I2.cell x a e
    exact absurd (Nat.lt_of_lt_of_le q.lt (by rw [z]; exact hCs)) (Nat.lt_irrefl _)
  refine wpAny_assign_Name (store_ok2 I' hN hy (.inl hyl) (v := .ref acc) rfl (fun s2 I'' hch => ?_) (.inr hyl))
  obtain ⟨a, sb, ha⟩ := hch
  have hCa : C ≠ a := by
    rcases ha with rfl | ha
    · exact hL
    · exact Ne.symm (hcell _ _ ha)
  refine ⟨m, hn.sameBut sb hCa, fun h' hs' => ⟨_, H', I''.other hs' hCn hL (Nat.le_trans I2.sz hCs) hcell ?_, q⟩⟩
  intro p hp z
  exact absurd (Nat.lt_of_lt_of_le (Heap.lt_size (I2.pin p hp).1) (by rw [z]; exact hCs)) (Nat.lt_irrefl _)
end
/-! ### the forms one uses -/
section
variable {K : PySem.W.Frag} {own : List Str} {js : List Nat} {g : TG} {tt : TT} {te : TE} {σ : St} {H1 : Hp} {Q : VK}
/-- over a list that the block leaves as it is -/
theorem comp_list {a : Addr} {xs : List V} (Pv : Addr → Nat → Hp → Prop) (h0 : ∀ acc, H1 acc = none → Pv acc 0 (upd H1 acc (.lst []))) (hl : ∀ acc i H, H1 acc = none → i ≤ xs.length → Pv acc i H → SqL K H a xs)
    (hs : ∀ acc i x H, H1 acc = none → xs[i]? = some x → Pv acc i H → g x (blkσ own js σ) H fun τ H4 => tt τ H4 fun c H5 =>
      if c = true then te τ H5 fun y H6 => ∃ ys, H6 acc = some (.lst ys) ∧ ys.length < sizeLine ∧ (i + 1 ≤ xs.length ∧ Pv acc (i + 1) (upd H6 acc (.lst (ys ++ [y])))) else (i + 1 ≤ xs.length ∧ Pv acc (i + 1) H5))
    (hd : ∀ acc H, H1 acc = none → Pv acc xs.length H → Q (.ref acc) H) : tCompW own js g tt te σ (Itl K a) H1 Q := by
  intro acc hacc
  refine ⟨fun i H => i ≤ xs.length ∧ Pv acc i H, xs.length, ⟨Nat.zero_le _, h0 acc hacc⟩, ?_⟩
  rintro i H ⟨hi, p⟩
  have q := hl acc i H hacc hi p
  by_cases hlt : i < xs.length
  · refine .inr ⟨hlt, ⟨xs, xs[i], q, by simp [hlt]⟩, fun x H' y => ?_⟩
    obtain ⟨e, y⟩ := y
    subst e
    exact hs acc i x _ hacc (y xs q) p
  · have e : i = xs.length := by omega
    subst e
    exact .inl ⟨⟨xs, q, Nat.le_refl _⟩, hd acc H hacc p⟩
/-- over a range -/
theorem comp_range {lo : Int} {n : Nat} (Pv : Addr → Nat → Hp → Prop) (h0 : ∀ acc, H1 acc = none → Pv acc 0 (upd H1 acc (.lst [])))
    (hs : ∀ acc i H, H1 acc = none → i < n → Pv acc i H → g (.int (lo + i)) (blkσ own js σ) H fun τ H4 => tt τ H4 fun c H5 =>
      if c = true then te τ H5 fun y H6 => ∃ ys, H6 acc = some (.lst ys) ∧ ys.length < sizeLine ∧ (i + 1 ≤ n ∧ Pv acc (i + 1) (upd H6 acc (.lst (ys ++ [y])))) else (i + 1 ≤ n ∧ Pv acc (i + 1) H5))
    (hd : ∀ acc H, H1 acc = none → Pv acc n H → Q (.ref acc) H) : tCompW own js g tt te σ (Itr lo n) H1 Q := by
  intro acc hacc
  refine ⟨fun i H => i ≤ n ∧ Pv acc i H, n, ⟨Nat.zero_le _, h0 acc hacc⟩, ?_⟩
  rintro i H ⟨hi, p⟩
  by_cases hlt : i < n
  · refine .inr ⟨hlt, hlt, fun x H' y => ?_⟩
    obtain ⟨e, y⟩ := y
    subst e y
    exact hs acc i _ hacc hlt p
  · have e : i = n := by omega
    subst e
    exact .inl ⟨Nat.le_refl _, hd acc H hacc p⟩
end
/-- a comprehension's scope against its def's, by reckoning -/
def compChk (scope sc : Scope) (js : List Nat) (N : List Str) : Bool :=
  (scope.kind == .function) && (scope.names.all fun y => (y.2 != .cell) && ((y.2 != .free) || (sc.names.lookup y.1 == some .cell) || (sc.names.lookup y.1 == some .free)) && ((y.2 != .local) || (scope.names.lookup y.1 == some .local))) &&
  (js.all fun j => match N[j]? with | some x => scope.names.lookup x == some .free | none => false)
theorem CompOk.by {X : Cx} {scope sc : Scope} {own N : List Str} {js : List Nat} (hX : X.env.scope = sc) (hN : X.N = N) (h : compChk scope sc js N = true) : CompOk X scope own js := by
  unfold compChk at h
  simp only [Bool.and_eq_true, beq_iff_eq, List.all_eq_true, Bool.or_eq_true, bne_iff_ne, ne_eq] at h
  obtain ⟨⟨h1, h2⟩, h3⟩ := h
  refine ⟨h1, fun y hy => (h2 y hy).1.1, fun y hy hf => ?_, fun y hy hl => ?_, fun j hj => ?_⟩
  · show X.env.scope.names.lookup y.1 = _ ∨ X.env.scope.names.lookup y.1 = _
    rw [hX]
    rcases (h2 y hy).1.2 with (z | z) | z
    · exact absurd hf z
    · exact .inl z
    · exact .inr z
  · rcases (h2 y hy).2 with z | z
    · exact absurd hl z
    · exact z
  · have := h3 j hj
    rw [hN]
    cases e : N[j]? with
    | none => rw [e] at this; cases this
    | some x => rw [e] at this; exact ⟨x, rfl, by simpa using this⟩
end L2

set_option Elab.async false
set_option linter.all false
set_option maxRecDepth 100000
set_option maxHeartbeats 4000000
namespace L2
open PySem PySem.Spec PyProof.Rows PySem.SeqAt

section
variable {X : Cx}
theorem Vals.bl_get {bs : List Bool} {us : List Value} (r : Vals (bs.map V.bl) us) {i : Nat} {v : Value} (e : us[i]? = some v) : ∃ b, bs[i]? = some b ∧ v = .bool b := by
  cases q : (bs.map V.bl)[i]? with
  | none =>
    have := r.none_of q
    rw [e] at this; cases this
  | some x =>
    obtain ⟨u, h1, h2⟩ := r.get q
    rw [e] at h1; cases h1
    rw [List.getElem?_map] at q
    cases z : bs[i]? with
    | none => rw [z] at q; cases q
    | some b => rw [z] at q; cases q; exact ⟨b, rfl, h2⟩
theorem range_all {bs : List Bool} : (List.range bs.length).all (fun i => bs.getD i true) = bs.all id := by
  rw [Bool.eq_iff_iff, List.all_eq_true, List.all_eq_true]
  constructor
  · intro h b hb
    obtain ⟨i, hi, e⟩ := List.getElem_of_mem hb
    have := h i (List.mem_range.mpr hi)
    simpa [List.getD_eq_getElem?_getD, hi, e] using this
  · intro h i hi
    have hi' := List.mem_range.mp hi
    have := h bs[i] (List.getElem_mem hi')
    simpa [List.getD_eq_getElem?_getD, hi'] using this
/-- all(..) of a list of bools -/
theorem call_all (hc : X.calm = true) : CallR X (.builtin "all") (fun xs H Q => ∃ (a : Addr) (bs : List Bool), xs = [.ref a] ∧ SqL X.K H a (bs.map V.bl) ∧ Q (.bl (bs.all id)) H) := by
  intro pins s σ H xs us Q I r h
  obtain ⟨a, bs, rfl, hq, q⟩ := h
  obtain ⟨u, rfl, r1⟩ := vals1 r
  cases r1
  obtain ⟨its, rv, p, hz⟩ := I.list hq
  refine call_all_walk (wpAny_pyIter_list p.isList ?_)
  have hlt := (let ⟨o, n, e, _⟩ := p; Heap.lt_size e : a < s.heap.objs.size)
  have hne : a ≠ s.heap.objs.size := Nat.ne_of_lt hlt
  have hlen : its.toArray.size = bs.length := by rw [List.size_toArray, ← rv.length, List.length_map]
  refine ⟨s.heap.objs.size, _, _, _, _, _, fun i => bs.getD i true, rfl, Walks.list (A := X.A.in1) (I.ok.hd hc) _ a hne its.toArray, ⟨⟨_, Heap.get?_push_size _ rfl, rfl, rfl⟩, ?_⟩, ?_, ?_⟩
  · obtain ⟨o, n, e, c, _, d⟩ := p
    exact ⟨o, Heap.get?_push_of_some _ e, c, n, d⟩
  · intro i v s' Q' E' hP hQ
    have hP' : its[i]? = some v := by simpa using hP
    obtain ⟨b, hb, rfl⟩ := rv.bl_get hP'
    refine wpAny_truthy_bool ?_
    dsimp only at hQ
    rw [List.getD_eq_getElem?_getD, hb] at hQ
    exact hQ
  · intro h' tk k
    rw [hlen, range_all]
    refine ⟨.bl (bs.all id), H, I.kept (h' := h') (t' := tk) fun b o e => k b o ?_ (Heap.get?_push_of_some _ e), rfl, q⟩
    intro hm
    have : b = s.heap.objs.size := by simpa using hm
    rw [this] at e
    exact absurd (Heap.lt_size e) (Nat.lt_irrefl _)

/-! ### list.remove of an int -/
theorem Vals.int_at {ns : List Int} {us : List Value} (r : Vals (ns.map V.int) us) {i : Nat} (h : i < ns.length) : ∃ t, us[i]? = some (.int ns[i] t) := by
  have q : (ns.map V.int)[i]? = some (V.int ns[i]) := by rw [List.getElem?_map, List.getElem?_eq_getElem h]; rfl
  obtain ⟨u, h1, t, rfl⟩ := r.get q
  exact ⟨t, h1⟩
/-! ### lists of ints compared -/
theorem ints_at {ns : List Int} {its : List Value} (r : Vals (ns.map V.int) its) {j : Nat} (h : j < its.toArray.size) : ∃ t, its.toArray[j] = .int (ns.getD j 0) t := by
  have hj : j < ns.length := by rw [List.size_toArray, ← r.length, List.length_map] at h; exact h
  obtain ⟨t, q⟩ := r.int_at hj
  obtain ⟨_, q'⟩ := List.getElem?_eq_some_iff.mp q
  exact ⟨t, by simpa [List.getD_eq_getElem?_getD, hj] using q'⟩
end
end L2

set_option Elab.async false
set_option linter.all false
set_option maxRecDepth 100000
set_option maxHeartbeats 4000000
namespace L2
open PySem PySem.Spec PyProof.Rows PySem.SeqAt

/-! ### min of a list whose items are compared in the heap -/
section
variable {prog : Program} {w : World} {A : Around} {R : Result → Shared → Prop} {I : Addr} {fp wr : List Addr} {n : Nat} {P : Nat → Value → Prop} {St : Nat → Heap → Prop}
end
section
variable {X : Cx}
end
end L2

set_option Elab.async false
set_option linter.all false
set_option maxRecDepth 100000
set_option maxHeartbeats 4000000
namespace L2
open PySem PySem.Spec PyProof.Rows PySem.SeqAt

/-! ### enumerate of a list -/
/-- at turn i a new pair (i, the i-th thing) -/
def Ite (K : PySem.W.Frag) (a : Addr) : It :=
  ⟨fun i H => ∃ xs x, SqL K H a xs ∧ xs[i]? = some x, fun i H y H' => ∃ p x, H p = none ∧ y = .ref p ∧ H' = upd H p (.tup [.int i, x]) ∧ ∀ xs, SqL K H a xs → xs[i]? = some x, fun i H => ∃ xs, SqL K H a xs ∧ xs.length ≤ i⟩
theorem turn_enum {P : Program} {w : World} {K : PySem.W.Frag} {es : List Expr} {x1} {pos : Pos} (a it e : Addr) (hne : e ≠ it) : Turn P w K (.Tuple es x1 pos) (Ite K a) [e, it] e (fun i h => (∃ old, IsEnum h e it (i : Nat) old) ∧ h.IsListIter it a i) where
  mem := by simp
  obj := fun i h st b hb => by
    obtain ⟨⟨old, s1⟩, s2⟩ := st
    rcases List.mem_cons.mp hb with z | z
    · subst z
      exact ⟨_, s1, fun v z => nomatch z⟩
    · have z : b = it := by simpa using z
      subst z
      obtain ⟨o, e, c, d⟩ := s2
      exact ⟨o, e, fun v z => by rw [d] at z; cases z⟩
  keep := fun i h h' st k => by
    obtain ⟨⟨old, s1⟩, s2⟩ := st
    exact ⟨⟨old, k e (by simp) _ s1⟩, s2.at fun o q => k it (by simp) o q⟩
  item := by
    intro X hP hw hK hc i pins s σ H E I hf st hg
    subst hP hw hK
    obtain ⟨xs, x, hq, hx⟩ := hg
    obtain ⟨its, rv, p, hz⟩ := I.list hq
    obtain ⟨u, hu, ru⟩ := rv.get hx
    obtain ⟨⟨old, s1⟩, s2⟩ := st
    refine wpAny_pyNext_enum_item s1 s2 p.isList (x := u) (by simpa using hu) hne fun h' ho hit ht hsz hk => ?_
    refine ⟨_, rfl, ?_⟩
    refine wpAny_letOwnedTupleGo_enum ho fun h'' he hs => ?_
    have fresh : H s.heap.objs.size = none := I.hok.fresh (Nat.le_refl _)
    have k : ∀ b o, b ∉ [e, it] → s.heap.get? b = some o → h''.get? b = some o := fun b o hb q => by
      have hb' : b ≠ e ∧ b ≠ it := by simpa using hb
      exact (hs.2 b hb'.1).trans (hk b o hb'.1 hb'.2 q)
    have nE : ∀ b ∈ [e, it], H b = none := fun b hb => (hf b hb).1
    have nit : ∀ b u, H b = some u → b ∉ [e, it] := fun b u q z => by rw [nE b z] at q; cases q
    have hpe : s.heap.objs.size ≠ e := Nat.ne_of_gt (Heap.lt_size s1)
    have htup : h''.get? s.heap.objs.size = some { cls := .type "tuple", data := .seq #[.int i s.toks, u] } := (hs.2 _ hpe).trans ht
    have newOk : ObjOk X.prog X.w (upd H s.heap.objs.size (.tup [.int i, x])) h'' s.heap.objs.size (.tup [.int i, x]) := by
      refine ⟨?_, [.int i s.toks, u], .cons ⟨_, rfl⟩ (.cons ru .nil), ⟨_, htup, rfl, rfl, 0, rfl⟩⟩
      show 2 ≤ sizeLine
      decide
    have I1 : Inv X pins σ (upd H s.heap.objs.size (.tup [.int i, x])) { s with heap := h'', toks := s.toks + 1 } := by
      refine I.step (g' := s.gens) (d' := s.drawn) (ch := [e, it]) (fun b hb => ?_) (fun b o _ _ hc q _ => k b o hc q) (fun b o _ _ hc q _ => ⟨o.slots, k b o hc q⟩) (fun b o _ q n => ?_) (fun b o hc q => ⟨o, k b o hc q⟩)
        (fun b xs q => by rw [upd_ne (ne_of_none q fresh)]; exact q) (fun b o xs q => by rw [upd_ne (ne_of_none q fresh)]; exact q) (fun b ps q => ⟨#[], by rw [upd_ne (ne_of_none q fresh), q]; simp⟩) (fun m hm => ?_) (fun b ob q => ?_) I.bare
      · obtain ⟨f0, f1, f2, f3, f4, f5⟩ := hf b hb
        exact ⟨f3, f1, f4, f5⟩
      · rw [upd_ne (Nat.ne_of_lt (Heap.lt_size q))]
        exact n
      · obtain ⟨o, es, ep, ho, r⟩ := hm
        refine ⟨o, es, ep, k _ o (fun z => ?_) ho, r⟩
        exact (hf _ z).2.1 rfl
      · by_cases hb : b = s.heap.objs.size
        · subst hb
          rw [upd_same] at q; cases q
          exact newOk
        · rw [upd_ne hb] at q
          refine (I.hok b ob q).stay (fun c v hc r => k c v ?_ r) (fun c r => by rw [upd_ne (ne_of_none r fresh)]; exact r) fun c xs r => by rw [upd_ne (ne_of_none r fresh)]; exact r
          rcases hc with z | z
          · rw [z]; exact nit b ob q
          · exact nit c _ z
    refine ⟨.ref s.heap.objs.size, _, I1, rfl, ⟨s.heap.objs.size, x, fresh, rfl, rfl, fun ys hy => by rw [I.list_inj hy hq]; exact hx⟩, ⟨⟨u, ?_⟩, ?_⟩, fun b hb => ?_⟩
    · have he : IsEnum h'' e it ((i : Int) + 1) u := he
      show IsEnum h'' e it ((i + 1 : Nat) : Int) u
      rw [show ((i + 1 : Nat) : Int) = (i : Int) + 1 by omega]
      exact he
    · exact hit.extBut hs.extBut (Ne.symm hne)
    · have lt : b < s.heap.objs.size := by
        rcases List.mem_cons.mp hb with z | z
        · rw [z]; exact Heap.lt_size s1
        · have z : b = it := by simpa using z
          rw [z]
          obtain ⟨o, q, _⟩ := s2
          exact Heap.lt_size q
      rw [upd_ne (Nat.ne_of_lt lt)]
      exact nE b hb
  done := by
    intro X hP hw hK hc i pins s σ H E I hf st hg
    subst hP hw hK
    obtain ⟨xs, hq, hx⟩ := hg
    obtain ⟨its, rv, p, hz⟩ := I.list hq
    obtain ⟨⟨old, s1⟩, s2⟩ := st
    obtain ⟨f0, f1, f2, f3, f4, f5⟩ := hf it (by simp)
    have hl := rv.length
    exact wpAny_pyNext_enum_end (I.ok.hd hc) s1 s2 p.isList (by simp; omega) fun h' eb => ⟨rfl, I.turned (t' := s.toks) (fun b o hb q => eb b o hb q) f0 f1 f3 f4 f5⟩
  self := fun _ _ _ _ _ st h => by
    obtain ⟨⟨old, s1⟩, _⟩ := st
    exact wpAny_pyIter_enum s1 h
section
variable {X : Cx}
/-- isinstance(x, T) for a built-in type -/
theorem call_isinst : CallR X (.builtin "isinstance") (fun xs H Q => ∃ x T t b, xs = [x, .ty T] ∧ TyOf X.K H x t ∧ PySem.W.kitOne X.K t (.type T) = some b ∧ Q (.bl b) H) := by
  intro pins s σ H xs us Q I r h
  obtain ⟨x, T, t, b, rfl, ty, e, q⟩ := h
  obtain ⟨u, u2, rfl, r1, r2⟩ := vals2 r
  cases r2
  exact isinst_ok I r1 ty e fun tk => ⟨.bl b, H, I.tok _, rfl, q⟩
end
end L2

set_option Elab.async false
set_option linter.all false
set_option maxRecDepth 100000
set_option maxHeartbeats 4000000
namespace L2
open PySem PySem.Spec PyProof.Rows

/-! ### lists of pairs as tables -/
section
variable {κ : Type} [DecidableEq κ]
def valV (kvs : List (κ × V)) (k : κ) : Option V := (kvs.find? fun kv => decide (kv.1 = k)).map (·.2)
/-- in its place, or at the end -/
def putK (kvs : List (κ × V)) (k : κ) (v : V) : List (κ × V) :=
  if (kvs.any fun kv => decide (kv.1 = k)) = true then kvs.map (fun kv => if kv.1 = k then (kv.1, v) else kv) else kvs ++ [(k, v)]
theorem valV_pos {p : κ × V} {r : List (κ × V)} {k : κ} (e : p.1 = k) : valV (p :: r) k = some p.2 := by simp [valV, List.find?_cons, e]
theorem valV_neg {p : κ × V} {r : List (κ × V)} {k : κ} (e : ¬ p.1 = k) : valV (p :: r) k = valV r k := by simp [valV, List.find?_cons, e]
theorem valV_any (k : κ) : ∀ kvs : List (κ × V), (kvs.any fun kv => decide (kv.1 = k)) = (valV kvs k).isSome
  | [] => rfl
  | p :: r => by
    rw [List.any_cons]
    by_cases e : p.1 = k
    · simp only [valV_pos e, decide_eq_true e, Bool.true_or, Option.isSome_some]
    · rw [valV_neg e, decide_eq_false e, Bool.false_or]; exact valV_any k r
theorem valV_map (k j : κ) (y : V) : ∀ kvs : List (κ × V), valV (kvs.map fun kv => if kv.1 = k then (kv.1, y) else kv) j = (valV kvs j).map fun x => if j = k then y else x
  | [] => rfl
  | p :: r => by
    have ih := valV_map k j y r
    rw [List.map_cons]
    by_cases h : p.1 = k
    · rw [if_pos h]
      by_cases e : p.1 = j
      · rw [valV_pos (p := (p.1, y)) e, valV_pos e, Option.map_some, if_pos (e.symm.trans h)]
      · rw [valV_neg (p := (p.1, y)) e, valV_neg e, ih]
    · rw [if_neg h]
      by_cases e : p.1 = j
      · rw [valV_pos (p := p) e, valV_pos e, Option.map_some, if_neg (fun z => h (e.trans z))]
      · rw [valV_neg (p := p) e, valV_neg e, ih]
theorem valV_snoc (k j : κ) (y : V) : ∀ kvs : List (κ × V), valV kvs k = none → valV (kvs ++ [(k, y)]) j = if j = k then some y else valV kvs j
  | [], _ => by
    by_cases e : k = j
    · rw [if_pos e.symm]; exact valV_pos (p := (k, y)) e
    · rw [if_neg (fun z => e z.symm)]; exact valV_neg (p := (k, y)) e
  | p :: r, hn => by
    rw [List.cons_append]
    have hk : ¬ p.1 = k := fun z => by rw [valV_pos z] at hn; cases hn
    rw [valV_neg hk] at hn
    have ih := valV_snoc k j y r hn
    by_cases e : p.1 = j
    · rw [valV_pos e, valV_pos e, if_neg (fun z => hk (e.trans z))]
    · rw [valV_neg e, valV_neg e, ih]
theorem valV_put (kvs : List (κ × V)) (k j : κ) (y : V) : valV (putK kvs k y) j = if j = k then some y else valV kvs j := by
  unfold putK
  by_cases a : (kvs.any fun kv => decide (kv.1 = k)) = true
  · rw [if_pos a, valV_map]
    rw [valV_any] at a
    by_cases e : j = k
    · obtain ⟨x, hx⟩ := Option.isSome_iff_exists.mp a
      rw [if_pos e, e, hx, Option.map_some, if_pos rfl]
    · rw [if_neg e]
      cases valV kvs j with
      | none => rfl
      | some x => rw [Option.map_some, if_neg e]
  · rw [if_neg a]
    refine valV_snoc k j y kvs ?_
    rw [valV_any] at a
    cases q : valV kvs k with
    | none => rfl
    | some x => rw [q] at a; exact (a rfl).elim
theorem length_putK (kvs : List (κ × V)) (k : κ) (v : V) : (putK kvs k v).length ≤ kvs.length + 1 := by
  unfold putK
  split
  · rw [List.length_map]; omega
  · rw [List.length_append, List.length_cons, List.length_nil]; omega
theorem RelO.isSome_eq {o : Option V} {u : Option Value} (r : RelO o u) : o.isSome = u.isSome := by
  cases o with
  | none => cases u with
    | none => rfl
    | some _ => exact (show False from r).elim
  | some _ => cases u with
    | none => exact (show False from r).elim
    | some _ => rfl
theorem RelO.getD {o : Option V} {u : Option Value} {d : V} {d' : Value} (r : RelO o u) (rd : RelV d d') : RelV (o.getD d) (u.getD d') := by
  cases o with
  | none => cases u with
    | none => exact rd
    | some _ => exact (show False from r).elim
  | some _ => cases u with
    | none => exact (show False from r).elim
    | some _ => exact r

/-- raw tables of the same keys -/
theorem KV.val {kvs : List (κ × V)} {vs : List (κ × Value)} (r : KV kvs vs) (k : κ) : RelO (valV kvs k) (valueAt vs k) := by
  unfold KV at r
  induction r with
  | nil => exact True.intro
  | @cons p q ps qs h t ih =>
    obtain ⟨h1, h2⟩ := h
    by_cases e : p.1 = k
    · have e' : q.1 = k := h1.symm.trans e
      have b : valueAt (q :: qs) k = some q.2 := by simp [valueAt, List.find?_cons, e']
      rw [valV_pos e, b]; exact h2
    · have e' : ¬ q.1 = k := fun z => e (h1.trans z)
      have b : valueAt (q :: qs) k = valueAt qs k := by simp [valueAt, List.find?_cons, e']
      rw [valV_neg e, b]; exact ih
theorem KV.any {kvs : List (κ × V)} {vs : List (κ × Value)} (r : KV kvs vs) (k : κ) : (kvs.any fun kv => decide (kv.1 = k)) = vs.any fun kv => decide (kv.1 = k) := by
  unfold KV at r
  induction r with
  | nil => rfl
  | cons h t ih => rw [List.any_cons, List.any_cons, ih, h.1]
theorem KV.repl {kvs : List (κ × V)} {vs : List (κ × Value)} (r : KV kvs vs) (k : κ) {y : V} {u : Value} (ry : RelV y u) :
    KV (kvs.map fun kv => if kv.1 = k then (kv.1, y) else kv) (vs.map fun kv => if kv.1 = k then (kv.1, u) else kv) := by
  unfold KV at r ⊢
  induction r with
  | nil => exact .nil
  | @cons p q ps qs h t ih =>
    rw [List.map_cons, List.map_cons]
    refine .cons ?_ ih
    obtain ⟨h1, h2⟩ := h
    by_cases e : p.1 = k
    · rw [if_pos e, if_pos (h1.symm.trans e)]; exact ⟨h1, ry⟩
    · rw [if_neg e, if_neg (fun z => e (h1.trans z))]; exact ⟨h1, h2⟩
theorem KV.put {kvs : List (κ × V)} {vs : List (κ × Value)} (r : KV kvs vs) (k : κ) {y : V} {u : Value} (ry : RelV y u) : KV (putK kvs k y) (stored vs k u) := by
  unfold putK stored
  rw [r.any k]
  by_cases e : (vs.any fun kv => decide (kv.1 = k)) = true
  · rw [if_pos e, if_pos e]; exact r.repl k ry
  · rw [if_neg e, if_neg e]; exact Paired.snoc r ⟨rfl, ry⟩
theorem KV.length {kvs : List (κ × V)} {vs : List (κ × Value)} (r : KV kvs vs) : kvs.length = vs.length := Paired.length r
end


/-! ### a tracked dict, its keys ints and texts or tuples of these -/
theorem kV_is {P : Program} {w : World} {k : Key} {u : Value} (r : RelV (kV k) u) : (mixKind P w).is k u = true := by
  cases k with
  | inl i => obtain ⟨t, e⟩ := (show ∃ t, u = Value.int i t from r); subst e; exact mixKind_int P w i t
  | inr x => obtain ⟨t, e⟩ := (show ∃ t, u = Value.str x t from r); subst e; exact mixKind_str P w x t
theorem items_are {P : Program} {w : World} : ∀ {ks : List Key} {us : List Value}, Vals (ks.map kV) us → ItemsAre (mixKind P w) ks us
  | [], _, r => by rw [List.map_nil] at r; cases r; exact .nil
  | k :: ks, _, r => by
    rw [List.map_cons] at r
    cases r with
    | cons h t => exact .cons (kV_is h) (items_are t)

/-- raw entries of a dict with tuple keys -/
abbrev KT (H : Hp) : List (List Key × V) → List (List Key × Addr × Value) → Prop := Paired fun p q => p.1 = q.1 ∧ H q.2.1 = some (.tup (p.1.map kV)) ∧ RelV p.2 q.2.2
theorem KT.val {H : Hp} {kvs : List (List Key × V)} {xs : List (List Key × Addr × Value)} (r : KT H kvs xs) (k : List Key) : RelO (valV kvs k) ((atKey xs k).map (·.2)) := by
  induction r with
  | nil => exact True.intro
  | @cons p q ps qs h t ih =>
    obtain ⟨h1, _, h2⟩ := h
    by_cases e : p.1 = k
    · have e' : q.1 = k := h1.symm.trans e
      have b : atKey (q :: qs) k = some q.2 := by simp [atKey, List.find?_cons, e']
      rw [valV_pos e, b]; exact h2
    · have e' : ¬ q.1 = k := fun z => e (h1.trans z)
      have b : atKey (q :: qs) k = atKey qs k := by simp [atKey, List.find?_cons, e']
      rw [valV_neg e, b]; exact ih
theorem KT.repl {H : Hp} {kvs : List (List Key × V)} {xs : List (List Key × Addr × Value)} (r : KT H kvs xs) (k : List Key) {y : V} {u : Value} (ry : RelV y u) :
    KT H (kvs.map fun kv => if kv.1 = k then (kv.1, y) else kv) (xs.map (putAt k u)) := by
  induction r with
  | nil => exact .nil
  | @cons p q ps qs h t ih =>
    rw [List.map_cons, List.map_cons]
    refine .cons ?_ ih
    obtain ⟨h1, h2, h3⟩ := h
    unfold putAt
    by_cases e : p.1 = k
    · rw [if_pos e, if_pos (h1.symm.trans e)]; exact ⟨h1, h2, ry⟩
    · rw [if_neg e, if_neg (fun z => e (h1.trans z))]; exact ⟨h1, h2, h3⟩
theorem KT.put {H : Hp} {kvs : List (List Key × V)} {xs : List (List Key × Addr × Value)} (r : KT H kvs xs) (k : List Key) {b : Addr} {y : V} {u : Value} (hb : H b = some (.tup (k.map kV))) (ry : RelV y u) :
    KT H (putK kvs k y) (storedH xs k b u) := by
  have e : (kvs.any fun kv => decide (kv.1 = k)) = (atKey xs k).isSome := by
    rw [valV_any, (r.val k).isSome_eq, Option.isSome_map]
  unfold putK storedH
  rw [e]
  by_cases q : (atKey xs k).isSome = true
  · rw [if_pos q, if_pos q]; exact r.repl k ry
  · rw [if_neg q, if_neg q]; exact Paired.snoc r ⟨rfl, hb, ry⟩
theorem KT.keeps {H H' : Hp} {kvs : List (List Key × V)} {xs : List (List Key × Addr × Value)} (r : KT H kvs xs) (ht : ∀ b ys, H b = some (.tup ys) → H' b = some (.tup ys)) : KT H' kvs xs :=
  Paired.mapP r fun _ _ z => ⟨z.1, ht _ _ z.2.1, z.2.2⟩

section
variable {P : Program} {w : World} {H : Hp} {h : Heap} {a : Addr}
theorem rd_of {u : HO} (ok : HOk P w H h) (e : Rd H a u) : ObjOk P w H h a u := e.ok ok
theorem dk_rd {kvs : List (Key × V)} (ok : HOk P w H h) (e : Rd H a (.dK kvs)) : kvs.length ≤ sizeLine ∧ (a == sysModules) = false ∧ ∃ vs, KV kvs vs ∧ h.DictOf (mixKind P w) a vs :=
  show ObjOk P w H h a (.dK kvs) from rd_of ok e
theorem dk_of {kvs : List (Key × V)} (ok : HOk P w H h) (e : H a = some (.dK kvs)) : kvs.length ≤ sizeLine ∧ (a == sysModules) = false ∧ ∃ vs, KV kvs vs ∧ h.DictOf (mixKind P w) a vs := dk_rd ok (.inl e)
/-- a tracked tuple of ints and texts is a key -/
theorem key_of {ks : List Key} (ok : HOk P w H h) (e : H a = some (.tup (ks.map kV))) : (tupleKind (mixKind P w)).is h ks a := by
  obtain ⟨_, its, r, o, h1, h2, _, n, h3⟩ := (show ObjOk P w H h a (.tup (ks.map kV)) from ok a _ e)
  exact ⟨o, its.toArray, n, h1, h2, h3, by simpa using items_are r⟩
theorem dt_rd {kvs : List (List Key × V)} (ok : HOk P w H h) (e : Rd H a (.dT kvs)) : kvs.length ≤ sizeLine ∧ (a == sysModules) = false ∧
    ∃ xs, KT H kvs xs ∧ h.DictOfH (tupleKind (mixKind P w)) a xs := by
  obtain ⟨z, y, xs, r, o, es, ep, h1, h2, h3, h4, h5⟩ := (show ObjOk P w H h a (.dT kvs) from rd_of ok e)
  refine ⟨z, y, xs, r, o, es, ep, h1, h2, h3, h4, fun x hx => ?_, h5⟩
  have all : ∀ {l : List (List Key × V)} {m : List (List Key × Addr × Value)}, KT H l m → ∀ x ∈ m, (tupleKind (mixKind P w)).is h x.1 x.2.1 := by
    intro l m q
    induction q with
    | nil => intro x hx; exact nomatch hx
    | @cons p q ps qs hq t ih =>
      intro x hx
      rcases List.mem_cons.mp hx with e | hx
      · subst e
        exact key_of ok (by rw [← hq.1]; exact hq.2.1)
      · exact ih x hx
  exact all r x hx
theorem dt_of {kvs : List (List Key × V)} (ok : HOk P w H h) (e : H a = some (.dT kvs)) : kvs.length ≤ sizeLine ∧ (a == sysModules) = false ∧
    ∃ xs, KT H kvs xs ∧ h.DictOfH (tupleKind (mixKind P w)) a xs := dt_rd ok (.inl e)
end

/-- what the dict at a holds at the key y -/
def DGet (H : Hp) (a : Addr) (y : V) (r : Option V) : Prop :=
  (∃ kvs k, Rd H a (.dK kvs) ∧ y = kV k ∧ r = valV kvs k) ∨ ∃ kvs k b, Rd H a (.dT kvs) ∧ y = .ref b ∧ H b = some (.tup (k.map kV)) ∧ r = valV kvs k
/-- the heap behind a[y] = v -/
def DPut (H : Hp) (a : Addr) (y v : V) (H' : Hp) : Prop :=
  (∃ kvs k, H a = some (.dK kvs) ∧ y = kV k ∧ kvs.length < sizeLine ∧ H' = upd H a (.dK (putK kvs k v))) ∨
  ∃ kvs k b, H a = some (.dT kvs) ∧ y = .ref b ∧ H b = some (.tup (k.map kV)) ∧ kvs.length < sizeLine ∧ H' = upd H a (.dT (putK kvs k v))
theorem DGet.k {H : Hp} {a : Addr} {kvs : List (Key × V)} {k : Key} (e : H a = some (.dK kvs)) : DGet H a (kV k) (valV kvs k) := .inl ⟨kvs, k, .inl e, rfl, rfl⟩
theorem DPut.k {H : Hp} {a : Addr} {kvs : List (Key × V)} {k : Key} {v : V} (e : H a = some (.dK kvs)) (hl : kvs.length < sizeLine) : DPut H a (kV k) v (upd H a (.dK (putK kvs k v))) := .inl ⟨kvs, k, e, rfl, hl, rfl⟩
section
variable {X : Cx} {pins : List (Addr × Obj)} {σ : St} {H : Hp} {s : Shared} {a : Addr} {y v : V} {u r : Value} {o : Option V} {A : Around} {E : Value → Shared → Prop}

theorem Inv.big (I : Inv X pins σ H s) : sysModules < s.heap.objs.size := by
  have h : mainGlobals < s.heap.objs.size := (I.mod.glob.keeps I.bk).lt
  exact Nat.lt_trans (by decide) h

/-- a dict's object is replaced -/
theorem d_write {h' : Heap} {t' : Nat} {ob : HO} (I : Inv X pins σ H s) (mu : Mut (H a)) (hs : Heap.SameBut a s.heap h') (he : ∃ q, h'.get? a = some q) (new : ObjOk X.prog X.w (upd H a ob) h' a ob) :
    Inv X pins σ (upd H a ob) { s with heap := h', toks := t' } :=
  I.write (x := a) (e := a) mu (.inl rfl) (fun b q hb z => (hs.2 b hb).trans z) he new
theorem dk_new {P : Program} {w : World} {H' : Hp} {h' : Heap} {kvs : List (Key × V)} {vs : List (Key × Value)} (z : kvs.length ≤ sizeLine) (hd : (a == sysModules) = false) (rel : KV kvs vs) (dd : h'.DictOf (mixKind P w) a vs) :
    ObjOk P w H' h' a (.dK kvs) := ⟨z, hd, vs, rel, dd⟩
/-- d[y] = v -/
theorem d_setItem {H' : Hp} {Q : Unit → Shared → Prop} (hu : A.units + 1 < cLine) (I : Inv X pins σ H s) (g : DPut H a y v H') (ry : RelV y u) (rv : RelV v r) (h : ∀ s', Inv X pins σ H' s' → Q () s') :
    wpAny (model X.prog X.w) A (setItem (.ref a) u r) Q E s := by
  rcases g with ⟨kvs, k, e, ey, l, eH⟩ | ⟨kvs, k, b, e, ey, eb, l, eH⟩
  · subst ey eH
    obtain ⟨z, hd, vs, rel, dd⟩ := dk_of I.hok e
    have hz : vs.length ≤ sizeLine := by rw [← rel.length]; exact z
    have hl : (putK kvs k v).length ≤ sizeLine := by have := length_putK kvs k v; omega
    refine wpAny_setItem_pairs (hsz := hz) (kV_is ry) dd fun h' dd' hs => h _ ?_
    have he : ∃ q, h'.get? a = some q := let ⟨q, _, _, hq, _⟩ := dd'; ⟨q, hq⟩
    exact d_write I (by rw [e]; exact True.intro) hs he (dk_new hl hd (rel.put k rv) dd')
  · subst ey eH
    cases (show u = Value.ref b from ry)
    obtain ⟨z, hd, xs, rel, dd⟩ := dt_of I.hok e
    have hz : xs.length ≤ sizeLine := by rw [← Paired.length rel]; exact z
    have hl : (putK kvs k v).length ≤ sizeLine := by have := length_putK kvs k v; omega
    refine wpAny_setItem_heap (hsz := hz) (tupleKind_room_in1 hu) (key_of I.hok eb) dd fun h' dd' hs => h _ ?_
    obtain ⟨q, es, ep, hq, h2, h3, h4, _, h5⟩ := dd'
    refine d_write I (by rw [e]; exact True.intro) hs ⟨q, hq⟩ ⟨hl, hd, _, (rel.put k eb rv).keeps fun c ys ec => ?_, q, es, ep, hq, h2, h3, h4, h5⟩
    rw [upd_ne (ne_of ec e (fun z => nomatch z))]
    exact ec
end

section
variable {X : Cx} {pins : List (Addr × Obj)} {σ : St} {H : Hp} {s : Shared} {a : Addr} {kvs : List (Key × V)} {k : Key} {u : Value} {A : Around} {E : Value → Shared → Prop}
end


/-! ### readings and rules -/
/-- d[y] = v -/
def sDPut (td ty tv : TE) : TS := fun D σ H => tv σ H fun v H1 => td σ H1 fun x H2 => ty σ H2 fun y H3 => ∃ a H4, x = .ref a ∧ DPut H3 a y v H4 ∧ D.nx σ H4
section
variable {X : Cx} {o i e value : Expr} {pos pos' tpos : Pos} {td ty tv : TE}
theorem ps_dput (hu : X.A.units + 1 < cLine) (ho : PE X o td) (hi : PE X i ty) (hv : PE X value tv) (hs : swapsWith value (some (.Subscript o i pos')) pos.line X.env = pure false) :
    PS X (.Assign [.Subscript o i pos'] value pos) (sDPut td ty tv) := by
  intro pins s σ H D I h
  refine wpAny_Assign_Subscript (thn (hv pins s σ H _ I h) fun r s1 ⟨v, H1, I1, rv, q1⟩ => thn (ho pins s1 σ H1 _ I1 q1) fun u s2 ⟨x, H2, I2, rx, q2⟩ => thn (hi pins s2 σ H2 _ I2 q2) fun iv s3 ⟨y, H3, I3, ry, a, H4, ex, g, q3⟩ => ?_) hs
  subst ex
  obtain rfl : u = Value.ref a := rx
  exact d_setItem hu I3 g ry rv fun s4 I4 => ⟨σ, H4, I4, q3⟩
end


/-! ### displays -/
theorem dk_empty {P : Program} {w : World} {H : Hp} (h : Heap) (hb : sysModules < h.objs.size) : ObjOk P w H (h.push { cls := .type "dict", data := .dict #[] }) h.objs.size (.dK []) :=
  ⟨Nat.zero_le _, beq_eq_false_iff_ne.mpr (Ne.symm (Nat.ne_of_lt hb)), [], .nil, Heap.DictOf.new h⟩
/-- {}, to be a dict of the kind that is wanted -/
def tDNewK : TE := fun _ H Q => ∀ p, H p = none → Q (.ref p) (upd H p (.dK []))
section
variable {X : Cx} {pos : Pos}
theorem pe_dnewK : PE X (.Dict [] [] pos) tDNewK := fun pins s σ H Q I h =>
  wpAny_Dict_empty ⟨.ref s.heap.objs.size, _, I.laid (a := s.heap.objs.size) (o := .dK []) (t' := s.toks) (fun _ _ q => Heap.get?_push_of_some _ q) (Nat.le_refl _) (dk_empty s.heap I.big), rfl, h _ (I.hok.fresh (Nat.le_refl _))⟩
end

/-- the pairs of a display, from the left -/
def tPairs : List (TE × TE) → St → Hp → (List (V × V) → Hp → Prop) → Prop
  | [], _, H, Q => Q [] H
  | (tk, tv) :: r, σ, H, Q => tk σ H fun x H1 => tv σ H1 fun y H2 => tPairs r σ H2 fun ps H3 => Q ((x, y) :: ps) H3
abbrev VV : List (V × V) → List (Value × Value) → Prop := Paired fun p q => RelV p.1 q.1 ∧ RelV p.2 q.2
def PPs (X : Cx) (pos : Pos) (keys : List (Option Expr)) (values : List Expr) (trs : List (TE × TE)) : Prop :=
  ∀ (pins : List (Addr × Obj)) (s : Shared) (σ : St) (H : Hp) (Q : List (V × V) → Hp → Prop), Inv X pins σ H s → tPairs trs σ H Q →
    wpAny (model X.prog X.w) X.A (evalPairs (pairTrees keys values X.env pos)) (fun vs s' => ∃ ps H', Inv X pins σ H' s' ∧ VV ps vs ∧ Q ps H') X.xe s
theorem pps_nil {X : Cx} {pos : Pos} : PPs X pos [] [] [] := fun pins s σ H Q I h => pairTrees_nil_walk ⟨[], H, I, .nil, h⟩
theorem pps_cons {X : Cx} {pos : Pos} {k v : Expr} {ks : List (Option Expr)} {vs : List Expr} {tk tv : TE} {trs : List (TE × TE)} (hk : PE X k tk) (hv : PE X v tv) (hr : PPs X pos ks vs trs) :
    PPs X pos (some k :: ks) (v :: vs) ((tk, tv) :: trs) := fun pins s σ H Q I h =>
  pairTrees_cons_walk (thn (hk pins s σ H _ I h) fun u s1 ⟨x, H1, I1, rx, q1⟩ => thn (hv pins s1 σ H1 _ I1 q1) fun w2 s2 ⟨y, H2, I2, ry, q2⟩ =>
    thn (hr pins s2 σ H2 _ I2 q2) fun ws s3 ⟨ps, H3, I3, rel, q3⟩ => ⟨(x, y) :: ps, H3, I3, .cons ⟨rx, ry⟩ rel, q3⟩)

def mergeK (kvs more : List (Key × V)) : List (Key × V) := more.foldl (fun acc kv => putK acc kv.1 kv.2) kvs
theorem KV.merge : ∀ {more : List (Key × V)} {rs : List (Key × Value)} {kvs : List (Key × V)} {vs : List (Key × Value)}, KV more rs → KV kvs vs → KV (mergeK kvs more) (merged vs rs) := by
  intro more rs kvs vs r
  unfold KV at r
  induction r generalizing kvs vs with
  | nil => intro q; exact q
  | @cons p q ps qs h t ih =>
    intro r0
    have e : KV (putK kvs p.1 p.2) (stored vs q.1 q.2) := by
      have := r0.put p.1 h.2
      rw [← h.1]; exact this
    exact ih e
theorem length_mergeK : ∀ (more kvs : List (Key × V)), (mergeK kvs more).length ≤ kvs.length + more.length
  | [], kvs => by show kvs.length ≤ kvs.length + 0; omega
  | p :: r, kvs => by
    have h1 := length_mergeK r (putK kvs p.1 p.2)
    have h2 := length_putK kvs p.1 p.2
    show (mergeK (putK kvs p.1 p.2) r).length ≤ _
    rw [List.length_cons]; omega
theorem carries_of {P : Program} {w : World} : ∀ {kvs : List (Key × V)} {ws : List (Value × Value)}, VV (kvs.map fun kv => (kV kv.1, kv.2)) ws → ∃ rs, Carries (mixKind P w) ws rs ∧ KV kvs rs
  | [], _, r => by rw [List.map_nil] at r; cases r; exact ⟨[], True.intro, .nil⟩
  | p :: kvs, _, r => by
    rw [List.map_cons] at r
    cases r with
    | @cons a b as bs h t =>
      obtain ⟨rs, c, q⟩ := carries_of (P := P) (w := w) t
      obtain ⟨b1, b2⟩ := b
      exact ⟨(p.1, b2) :: rs, ⟨kV_is h.1, rfl, c⟩, .cons ⟨rfl, h.2⟩ q⟩
/-- {k: v, ..} with keys ints and texts; the new dict stands empty while the pairs are made -/
def tDisp (trs : List (TE × TE)) : TE := fun σ H Q => ∀ p, H p = none → tPairs trs σ (upd H p (.dK [])) fun ps H2 => H2 p = some (.dK []) ∧ ∃ kvs : List (Key × V), ps = kvs.map (fun kv => (kV kv.1, kv.2)) ∧ kvs.length ≤ 15 ∧ Q (.ref p) (upd H2 p (.dK (mergeK [] kvs)))
theorem pe_disp {X : Cx} {pos : Pos} {keys : List (Option Expr)} {values : List Expr} {trs : List (TE × TE)} (h : PPs X pos keys values trs) (hall : keys.all (·.isSome) = true) (hl : keys.length = values.length) (h0 : keys ≠ [])
    (h15 : keys.length ≤ 15) : PE X (.Dict keys values pos) (tDisp trs) := by
  intro pins s σ H Q I q
  have hn := I.hok.fresh (Nat.le_refl s.heap.objs.size)
  have I1 := I.laid (a := s.heap.objs.size) (o := .dK []) (h' := s.heap.push { cls := .type "dict", data := .dict #[] }) (t' := s.toks) (fun _ _ q => Heap.get?_push_of_some _ q) (Nat.le_refl _) (dk_empty s.heap I.big)
  refine wpAny_Dict_walk (knd := mixKind X.prog X.w) hall hl h0 h15 (thn (h pins _ σ _ _ I1 (q _ hn)) fun ws s2 ⟨ps, H2, I2, rel, e, kvs, ep, lk, q2⟩ => ?_)
  subst ep
  obtain ⟨rs, c, rk⟩ := carries_of (P := X.prog) (w := X.w) rel
  obtain ⟨z, hd, vs0, r0, dd⟩ := dk_of I2.hok e
  cases r0
  refine ⟨rs, c, dd, fun h' dd' hs => ⟨.ref s.heap.objs.size, _, ?_, rfl, q2⟩⟩
  have hz : (mergeK [] kvs).length ≤ sizeLine := by
    have h1 := length_mergeK kvs []
    rw [List.length_nil] at h1
    rw [sizeLine_eq]; omega
  have he : ∃ q, h'.get? s.heap.objs.size = some q := let ⟨q, _, _, hq, _⟩ := dd'; ⟨q, hq⟩
  exact d_write I2 (by rw [e]; exact True.intro) hs he (dk_new hz hd (rk.merge .nil) dd')


/-! ### methods -/
/-- a method call o.m(e) of a built-in, with one argument: what must be seen of the text -/
structure M1 (X : Cx) (o : Expr) (m : Str) (apos : Pos) (e : Expr) (cpos : Pos) : Prop where
  base : attributeBase o m X.env (eval o X.env) = eval o X.env
  few : ((backTo cpos (starEach [e] X.env)).all (fun x => !x.1) && (backToKw cpos (keywordEach [] X.env)).all (fun x => x.1.isSome)
    && decide (([e] : List Expr).length + ([] : List Keyword).length + (if ([] : List Keyword).isEmpty then 0 else 1) < 30)) = true
  line : (apos.endLine == cpos.line) = true
  trees : backTo cpos (starEach [e] X.env) = [(false, eval e X.env)]
structure M2 (X : Cx) (o : Expr) (m : Str) (apos : Pos) (e f : Expr) (cpos : Pos) : Prop where
  base : attributeBase o m X.env (eval o X.env) = eval o X.env
  few : ((backTo cpos (starEach [e, f] X.env)).all (fun x => !x.1) && (backToKw cpos (keywordEach [] X.env)).all (fun x => x.1.isSome)
    && decide (([e, f] : List Expr).length + ([] : List Keyword).length + (if ([] : List Keyword).isEmpty then 0 else 1) < 30)) = true
  line : (apos.endLine == cpos.line) = true
  trees : backTo cpos (starEach [e, f] X.env) = [(false, eval e X.env), (false, eval f X.env)]

/-- a is a dict, whatever its keys -/
def IsD (H : Hp) (a : Addr) : Prop := (∃ kvs, Rd H a (.dK kvs)) ∨ ∃ kvs, Rd H a (.dT kvs)
theorem isD_at {X : Cx} {pins : List (Addr × Obj)} {σ : St} {H : Hp} {s : Shared} {a : Addr} (I : Inv X pins σ H s) (d : IsD H a) :
    s.TypeIs (.ref a) "dict" ∧ (∀ b, Value.ref a = .ref b → ∃ ob, s.heap.get? b = some ob ∧ ob.dict = none) ∧ (a == sysModules) = false := by
  rcases d with ⟨kvs, e⟩ | ⟨kvs, e⟩
  · obtain ⟨_, hd, vs, _, dd⟩ := dk_rd I.hok e
    refine ⟨dd.typeIs, fun b q => ?_, hd⟩
    cases q
    obtain ⟨ob, _, _, h1, h2, _⟩ := dd
    exact ⟨ob, h1, h2.2.1⟩
  · obtain ⟨_, hd, xs, _, dd⟩ := dt_rd I.hok e
    refine ⟨dd.typeIs, fun b q => ?_, hd⟩
    cases q
    obtain ⟨ob, _, _, h1, h2, _⟩ := dd
    exact ⟨ob, h1, h2.2.1⟩

section
variable {X : Cx} {pins : List (Addr × Obj)} {σ : St} {H : Hp} {s : Shared} {a : Addr} {y d : V} {u r : Value} {o : Option V} {A : Around} {E : Value → Shared → Prop}
/-- d.get(y, x) -/
theorem d_get2 {Q : Value → Shared → Prop} (hu : A.units + 1 < cLine) (I : Inv X pins σ H s) (g : DGet H a y o) (ry : RelV y u) (rd : RelV d r) (h : ∀ w' s', Inv X pins σ H s' → RelV (o.getD d) w' → Q w' s') :
    wpAny (model X.prog X.w) A (call (.builtin "dict.get") [.ref a, u, r]) Q E s := by
  rcases g with ⟨kvs, k, e, ey, l⟩ | ⟨kvs, k, b, e, ey, eb, l⟩
  · subst ey
    obtain ⟨z, hd, vs, rel, dd⟩ := dk_rd I.hok e
    refine call_meetsIn PySem.F.slot_dict_get dd.typeIs PySem.F.entry_dict_get (PySem.F.args_dict_get_3 _ _ _) (meets_dict_get_default (mixKind X.prog X.w) a (kV_is ry) hd r) ⟨_, dd.mapOf, h _ _ (I.tok _) ?_⟩
    rw [l]
    exact (rel.val k).getD rd
  · subst ey
    cases (show u = Value.ref b from ry)
    obtain ⟨z, hd, xs, rel, dd⟩ := dt_rd I.hok e
    refine call_meetsIn PySem.F.slot_dict_get dd.typeIs PySem.F.entry_dict_get (PySem.F.args_dict_get_3 _ _ _) (meetsH_dict_get_default (tupleKind (mixKind X.prog X.w)) a b hd r) ⟨tupleKind_room_in1 hu, k, xs, key_of I.hok eb, dd, h _ _ (I.tok _) ?_⟩
    rw [l]
    exact (rel.val k).getD rd
end

def tDGet2 (td ty tx : TE) : TE := fun σ H Q => td σ H fun x H1 => ∃ a, x = .ref a ∧ IsD H1 a ∧ ty σ H1 fun y H2 => tx σ H2 fun z H3 => ∃ o, DGet H3 a y o ∧ Q (o.getD z) H3
section
variable {X : Cx} {o e f : Expr} {apos cpos : Pos} {td ty tx : TE}
theorem pe_dget2 (hu : X.A.units + 1 < cLine) (ho : PE X o td) (he : PE X e ty) (hf : PE X f tx) (m : M2 X o "get" apos e f cpos) : PE X (.Call (.Attribute o "get" apos) [e, f] [] cpos) (tDGet2 td ty tx) := by
  intro pins s σ H Q I h
  refine wpAny_Call_method m.base m.few m.line PySem.F.plainAttrs_dict PySem.F.slot_dict_get PySem.F.type_dict_get (thn (ho pins s σ H _ I h) fun u s1 ⟨x, H1, I1, rx, a, ex, d, q1⟩ => ?_)
  subst ex
  obtain rfl : u = Value.ref a := rx
  obtain ⟨t1, t2, _⟩ := isD_at I1 d
  refine ⟨t1, t2, ?_⟩
  rw [m.trees]
  refine Calls.callWith_builtin rfl (Calls.evalArgs_plain (Calls.spliced_cons (thn (he pins s1 σ H1 _ I1 q1) fun iv s2 ⟨y, H2, I2, ry, q2⟩ =>
    Calls.spliced_cons (thn (hf pins s2 σ H2 _ I2 q2) fun fv s3 ⟨z, H3, I3, rz, ov, g, q3⟩ => Calls.spliced_nil ?_))))
  exact d_get2 hu I3 g ry rz fun w' s4 I4 rw' => ⟨_, H3, I4, rw', q3⟩
end

/-! ### dict(d): a copy -/
section
variable {X : Cx} {pins : List (Addr × Obj)} {σ : St} {H : Hp} {s : Shared} {a : Addr} {kvs : List (Key × V)} {A : Around} {E : Value → Shared → Prop}
theorem d_copyOf {Q : Value → Shared → Prop} (I : Inv X pins σ H s) (e : Rd H a (.dK kvs)) (h : ∀ p s', H p = none → Inv X pins σ (upd H p (.dK kvs)) s' → Q (.ref p) s') : wpAny (model X.prog X.w) A (call (.type "dict") [.ref a]) Q E s := by
  obtain ⟨z, hd, vs, rel, dd⟩ := dk_rd I.hok e
  refine kt_call_dict hd dd (by rw [← rel.length]; exact z) fun h' dd' hs => ?_
  refine h _ _ (I.hok.fresh (Nat.le_refl _)) (I.laid (a := s.heap.objs.size) (o := .dK kvs) (t' := s.toks) (fun b q hq => ?_) (Nat.le_refl _) (dk_new z (beq_eq_false_iff_ne.mpr (Ne.symm (Nat.ne_of_lt I.big))) rel dd'))
  exact (hs.2 b (Nat.ne_of_lt (Heap.lt_size hq))).trans (Heap.get?_push_of_some _ hq)
end


section
variable {X : Cx} {pins : List (Addr × Obj)} {σ : St} {H : Hp} {s : Shared} {a : Addr} {y : V} {u : Value} {A : Around} {E : Value → Shared → Prop}
end
end L2
namespace L2
open PySem PySem.Spec PyProof.Rows
/-! ### a dict's pairs: keys that differ -/
section
variable {κ : Type} [DecidableEq κ]
theorem valV_not {kvs : List (κ × V)} {k : κ} (h : valV kvs k = none) : ¬ k ∈ kvs.map (·.1) := by
  intro m
  obtain ⟨p, hp, e⟩ := List.mem_map.mp m
  have q : (kvs.any fun kv => decide (kv.1 = k)) = true := List.any_eq_true.mpr ⟨p, hp, decide_eq_true e⟩
  rw [valV_any, h] at q
  exact absurd q (by simp)
theorem valV_in {kvs : List (κ × V)} {k : κ} {v : V} (h : valV kvs k = some v) : k ∈ kvs.map (·.1) := by
  have q : (kvs.any fun kv => decide (kv.1 = k)) = true := by
    rw [valV_any, h]
    all_goals rfl
  obtain ⟨p, hp, e⟩ := List.any_eq_true.mp q
  exact List.mem_map.mpr ⟨p, hp, of_decide_eq_true e⟩
theorem nd_snoc : ∀ {l : List κ} {k : κ}, l.Nodup → ¬ k ∈ l → (l ++ [k]).Nodup
  | [], k, _, _ => by simp
  | a :: r, k, h, hk => by
    obtain ⟨h1, h2⟩ := List.nodup_cons.mp h
    show (a :: (r ++ [k])).Nodup
    refine List.nodup_cons.mpr ⟨fun m => ?_, nd_snoc h2 fun m => hk (List.mem_cons.mpr (Or.inr m))⟩
    rcases List.mem_append.mp m with q | q
    · exact h1 q
    · exact hk (List.mem_cons.mpr (Or.inl (List.mem_singleton.mp q).symm))
end
end L2

set_option Elab.async false
set_option linter.all false
set_option maxRecDepth 100000
set_option maxHeartbeats 4000000
namespace L2
open PySem PySem.Spec PyProof.Rows PySem.SeqAt
/-! ### enumerate of a tuple -/
section
variable {prog : Program} {w : World} {A : Around} {E : Value → Shared → Prop} {s : Shared}
theorem nextOf_tup {it t : Addr} {i : Nat} {items : Array Value} {x : Value} {Q : Value → Shared → Prop} (hit : s.heap.IsTupleIter it t i) (ht : s.heap.IsTuple t items) (hx : items[i]? = some x)
    (hQ : ∀ h', h'.IsTupleIter it t (i + 1) → Heap.SameBut it s.heap h' → Q x { s with heap := h' }) : wpAny (model prog w) A (Builtin.SmallTypes.nextOf (.ref it)) Q E s := by
  obtain ⟨o, ho, hc, hd⟩ := id hit
  obtain ⟨ol, hol, _, nl, hdl⟩ := ht
  unfold Builtin.SmallTypes.nextOf
  refine wpAny_bind (wpAny_callSpecial?_slot (name := Str.ofString "__next__") hit.typeIs F.slot_tuple_iterator_next (wpAny_call_entry F.slot_tuple_iterator_next hit.typeIs F.entry_tuple_iterator_next ?_ (F.args_tuple_iterator_next_1 _)))
  show wpAny _ _ (field (.ref it) 0 >>= _) _ _ s
  refine wpAny_bind (wpAny_field ho hd (x := .ref t) rfl ?_)
  show wpAny _ _ (if (Value.ref t == Value.none) = true then _ else _) _ _ s
  rw [if_neg (show ¬ ((Value.ref t == Value.none) = true) from Bool.false_ne_true)]
  show wpAny _ _ (field (.ref it) 1 >>= _) _ _ s
  refine wpAny_bind (wpAny_field ho hd (x := .int i 0) rfl ?_)
  show wpAny _ _ (seqItems? (.ref t) >>= _) _ _ s
  refine wpAny_bind (wpAny_seqItems hol hdl ?_)
  simp only [Int.toNat_natCast, hx]
  refine wpAny_bind (wpAny_setField ho hd (by simp) (wpAny_pure ⟨x, rfl, wpAny_pure (hQ _ ?_ (Heap.SameBut.update ..))⟩))
  exact ⟨_, Heap.get?_update_self _ ho (Obj.isFreed_of_fields (Obj.data_mapFields hd _)), (Obj.cls_mapFields ..).trans hc, by rw [Obj.data_mapFields hd]; simp [rawInt]⟩
theorem nextOf_tup_end {it t : Addr} {i : Nat} {items : Array Value} {Q : Value → Shared → Prop} (hh : A.handled = none) (hit : s.heap.IsTupleIter it t i) (ht : s.heap.IsTuple t items) (hx : items[i]? = none)
    (hE : ∀ h' e, Heap.ExtBut it s.heap h' → (∃ o, h'.get? e = some o ∧ o.cls = .type "StopIteration") → E (.ref e) { s with heap := h' }) : wpAny (model prog w) A (Builtin.SmallTypes.nextOf (.ref it)) Q E s := by
  obtain ⟨o, ho, hc, hd⟩ := id hit
  obtain ⟨ol, hol, _, nl, hdl⟩ := ht
  unfold Builtin.SmallTypes.nextOf
  refine wpAny_bind (wpAny_callSpecial?_slot (name := Str.ofString "__next__") hit.typeIs F.slot_tuple_iterator_next (wpAny_call_entry F.slot_tuple_iterator_next hit.typeIs F.entry_tuple_iterator_next ?_ (F.args_tuple_iterator_next_1 _)))
  show wpAny _ _ (field (.ref it) 0 >>= _) _ _ s
  refine wpAny_bind (wpAny_field ho hd (x := .ref t) rfl ?_)
  show wpAny _ _ (if (Value.ref t == Value.none) = true then _ else _) _ _ s
  rw [if_neg (show ¬ ((Value.ref t == Value.none) = true) from Bool.false_ne_true)]
  show wpAny _ _ (field (.ref it) 1 >>= _) _ _ s
  refine wpAny_bind (wpAny_field ho hd (x := .int i 0) rfl ?_)
  show wpAny _ _ (seqItems? (.ref t) >>= _) _ _ s
  refine wpAny_bind (wpAny_seqItems hol hdl ?_)
  simp only [Int.toNat_natCast, hx]
  refine wpAny_bind (wpAny_rule (wpAny_bind (wpAny_setField ho hd (by simp) ?_)))
  show wpAny _ _ (newExc (.type "StopIteration") [] >>= _) _ _ _
  refine wpAny_bind ?_
  simp only [newExc, newTuple]
  refine wpAny_bind (wpAny_newObj_type ?_ (by size_fits))
  refine wpAny_bind (m := firstArgMember _ _) (wpAny_of_eq (a := Value.none) (by first | rfl | (simp only [firstArgMember]; rfl)) ?_)
  refine wpAny_newObj_type ?_ (by size_fits)
  simp only [raiseNew]
  refine wpAny_bind (wpAny_handled ?_)
  first | rw [show A.in1.handled = none from hh] | rw [hh]
  refine wpAny_bind (wpAny_pure (wpAny_throw ?_))
  exact hE _ _ (((Heap.SameBut.update ..).extBut.push _).push _) ⟨_, Heap.get?_push_size _ rfl, rfl⟩
theorem draws_tup (hh : A.handled = none) (it l : Addr) (hne : l ≠ it) (items : Array Value) : Draws prog w A it [it, l] items.size (fun i v => items[i]? = some v) (fun i h => h.IsTupleIter it l i ∧ h.IsTuple l items) where
  live := fun _ _ st => let ⟨o, ho, _⟩ := st.1; ⟨o, ho⟩
  frame := fun _ _ _ st hk => ⟨st.1.at fun o e => hk it (by simp) o e, let ⟨o, e, c⟩ := st.2; ⟨o, hk l (by simp) o e, c⟩⟩
  item := fun i s Q E hi st hQ => by
    refine nextOf_tup st.1 st.2 (x := items[i]) (by simp [hi]) fun h' hit' hs' => ?_
    exact hQ _ h' s.toks (by simp [hi]) ⟨hit', let ⟨o, e, c⟩ := st.2; ⟨o, (hs'.2 l hne).trans e, c⟩⟩ hs'
  done := fun s Q E st hE => nextOf_tup_end hh st.1 st.2 (by simp) hE
end
theorem enum_new_tup (l : Addr) (items : Array Value) (n : Nat) (dct : Option Addr) (sl : Array (Option Value)) :
    Meets (Builtin.«enumerate.__new__» ⟨[.type "enumerate", .ref l], []⟩) (fun _ R s => s.heap.get? l = some { cls := .type "tuple", dict := dct, data := .seq items n, slots := sl } ∧
      R (.ok (.ret (.ref (s.heap.push { cls := .type "tuple_iterator", data := .fields #[.ref l, .int 0 0] }).objs.size)))
        { s with heap := (s.heap.push { cls := .type "tuple_iterator", data := .fields #[.ref l, .int 0 0] }).push { cls := .type "enumerate", data := .fields #[.none, .bool false, .ref s.heap.objs.size, rawInt 0, .none, .none] } }) :=
  .of_wp fun prog w A R s h => by
    obtain ⟨hp, g, d, tk, os⟩ := s; obtain ⟨hl, h⟩ := h
    have hsub := sub_enumerate
    have hL : Heap.IsTuple (Shared.heap ⟨hp, g, d, tk, os⟩) l items := ⟨_, hl, rfl, n, rfl⟩
    wp_walk using AutoSeq1.wpAny_loadPart' hl
    refine wpAny_stack_any fun st => wpAny_pure ?_
    split
    · rename_i c _ _ _ _ _
      cases (c == Value.type "enumerate")
      · wp_walk using AutoSeq1.wpAny_loadPart' hl, wpAny_pyIter_tuple hL
        exact ⟨_, rfl, h⟩
      · wp_walk using AutoSeq1.wpAny_loadPart' hl, wpAny_pyIter_tuple hL
        exact ⟨_, rfl, h⟩
    · wp_walk using AutoSeq1.wpAny_loadPart' hl, wpAny_pyIter_tuple hL
      exact ⟨_, rfl, h⟩

section
variable {prog : Program} {w : World} {A : Around} {E : Value → Shared → Prop} {s : Shared}
theorem enum_tup_end {e it l : Addr} {i : Nat} {items : Array Value} {old : Value} {Q : Option Value → Shared → Prop} (hh : A.handled = none) (he : IsEnum s.heap e it i old) (hit : s.heap.IsTupleIter it l i) (hl : s.heap.IsTuple l items) (hx : items[i]? = none)
    (hQ : ∀ h', Heap.ExtBut it s.heap h' → Q none { s with heap := h' }) : wpAny (model prog w) A (pyNext (.ref e)) Q E s := by
  have hT : s.TypeIs (.ref e) "enumerate" := ⟨_, he, rfl⟩
  unfold pyNext
  refine wpAny_bind (wpAny_attempt (wpAny_callSpecial?_slot (name := Str.ofString "__next__") hT F.slot_enumerate_next (wpAny_call_entry F.slot_enumerate_next hT F.entry_enumerate_next ?_ (F.args_enumerate_next_1 _))))
  show wpAny _ _ (field (.ref e) 2 >>= _) _ _ _
  refine wpAny_bind (wpAny_field he rfl (x := .ref it) rfl ?_)
  refine wpAny_bind (nextOf_tup_end hh hit hl hx fun h' x he' hx' => ?_)
  obtain ⟨o, ho, hc⟩ := hx'
  refine wpAny_bind (wpAny_isInstance (T := "StopIteration") (b := true) ⟨o, ho, hc⟩ isSubtype_stop ?_)
  exact wpAny_pure (hQ _ he')
theorem call_enum_tup {l : Addr} {items : Array Value} {Q : Value → Shared → Prop} (hL : s.heap.IsTuple l items)
    (h : ∀ h', IsEnum h' (s.heap.objs.size + 1) s.heap.objs.size 0 .none → h'.IsTupleIter s.heap.objs.size l 0 → (∀ b o, s.heap.get? b = some o → h'.get? b = some o) → Q (.ref (s.heap.objs.size + 1)) { s with heap := h' }) :
    wpAny (model prog w) A (call (.type "enumerate") [.ref l]) Q E s := by
  obtain ⟨⟨c, dct, dt, sl⟩, hl, hc, n, hd⟩ := hL
  replace hc : c = .type "tuple" := hc
  replace hd : dt = .seq items n := hd
  subst hc hd
  refine callType_new F.called_enumerate (by decide) (F.typeCall_enumerate_1 _) (F.newCall_enumerate_1 _) (fun obj => F.args_object_init_2 obj _) F.entry_enumerate_new (enum_new_tup l items n dct sl) ⟨hl, ?_⟩
  have hz : (s.heap.push { cls := .type "tuple_iterator", data := .fields #[.ref l, .int 0 0] }).objs.size = s.heap.objs.size + 1 := Heap.size_push ..
  show _ ∧ _
  rw [hz]
  have he : IsEnum ((s.heap.push { cls := .type "tuple_iterator", data := .fields #[.ref l, .int 0 0] }).push { cls := .type "enumerate", data := .fields #[.none, .bool false, .ref s.heap.objs.size, rawInt 0, .none, .none] }) (s.heap.objs.size + 1) s.heap.objs.size 0 .none := by
    have := Heap.get?_push_size (s.heap.push { cls := .type "tuple_iterator", data := .fields #[.ref l, .int 0 0] }) (o := { cls := .type "enumerate", data := .fields #[.none, .bool false, .ref s.heap.objs.size, rawInt 0, .none, .none] }) rfl
    rw [hz] at this
    exact this
  exact ⟨⟨_, he, rfl⟩, h _ he ⟨_, Heap.get?_push_of_some _ (Heap.get?_push_size _ rfl), rfl, rfl⟩ fun b o x => Heap.get?_push_of_some _ (Heap.get?_push_of_some _ x)⟩
end
/-- at turn i a new pair (i, the i-th thing of the tuple) -/
def IteT (K : PySem.W.Frag) (a : Addr) : It :=
  ⟨fun i H => ∃ xs x, SqT K H a xs ∧ xs[i]? = some x, fun i H y H' => ∃ p x, H p = none ∧ y = .ref p ∧ H' = upd H p (.tup [.int i, x]) ∧ ∀ xs, SqT K H a xs → xs[i]? = some x, fun i H => ∃ xs, SqT K H a xs ∧ xs.length ≤ i⟩
theorem turn_enumT {P : Program} {w : World} {K : PySem.W.Frag} {es : List Expr} {x1} {pos : Pos} (a it e : Addr) (hne : e ≠ it) : Turn P w K (.Tuple es x1 pos) (IteT K a) [e, it] e (fun i h => (∃ old, IsEnum h e it (i : Nat) old) ∧ h.IsTupleIter it a i) where
  mem := by simp
  obj := fun i h st b hb => by
    obtain ⟨⟨old, s1⟩, s2⟩ := st
    rcases List.mem_cons.mp hb with z | z
    · subst z
      exact ⟨_, s1, fun v z => nomatch z⟩
    · have z : b = it := by simpa using z
      subst z
      obtain ⟨o, e, c, d⟩ := s2
      exact ⟨o, e, fun v z => by rw [d] at z; cases z⟩
  keep := fun i h h' st k => by
    obtain ⟨⟨old, s1⟩, s2⟩ := st
    exact ⟨⟨old, k e (by simp) _ s1⟩, s2.at fun o q => k it (by simp) o q⟩
  item := by
    intro X hP hw hK hc i pins s σ H E I hf st hg
    subst hP hw hK
    obtain ⟨xs, x, hq, hx⟩ := hg
    obtain ⟨its, rv, p, hz⟩ := I.tuple hq
    obtain ⟨u, hu, ru⟩ := rv.get hx
    obtain ⟨⟨old, s1⟩, s2⟩ := st
    have hlt : (i : Nat) < its.toArray.size := by
      have := (List.getElem?_eq_some_iff.mp hu).1
      simpa using this
    have nea : a ≠ it := by
      rintro rfl
      obtain ⟨o1, q1, c1, _⟩ := p
      obtain ⟨o2, q2, c2, _⟩ := id s2
      rw [q1] at q2; cases q2
      rw [c1] at c2
      injection c2 with z
      exact absurd z (by decide)
    have nee : a ≠ e := by
      rintro rfl
      obtain ⟨o1, q1, c1, _⟩ := p
      have s1' : s.heap.get? a = some _ := s1
      rw [q1] at s1'
      cases s1'
      injection c1 with z
      exact absurd z (by decide)
    have it2 : s.heap.IsTuple a its.toArray := p
    refine wpAny_pyNext_enum_itemD (draws_tup (A := X.A.in1) (I.ok.hd hc) it a nea its.toArray) s1 ⟨s2, it2⟩ hlt hne (by simp [hne, Ne.symm nee]) fun u' h' tk' hu' ho hst ht hsz hk => ?_
    have eu : u' = u := by
      have : its.toArray[i]? = some u := by simpa using hu
      rw [this] at hu'
      exact (Option.some.inj hu').symm
    subst eu
    have hit := hst.1
    refine ⟨_, rfl, ?_⟩
    refine wpAny_letOwnedTupleGo_enum ho fun h'' he hs => ?_
    have fresh : H s.heap.objs.size = none := I.hok.fresh (Nat.le_refl _)
    have k : ∀ b o, b ∉ [e, it] → s.heap.get? b = some o → h''.get? b = some o := fun b o hb q => by
      have hb' : b ≠ e ∧ b ≠ it := by simpa using hb
      exact (hs.2 b hb'.1).trans (hk b o hb'.1 hb'.2 q)
    have nE : ∀ b ∈ [e, it], H b = none := fun b hb => (hf b hb).1
    have nit : ∀ b u, H b = some u → b ∉ [e, it] := fun b u q z => by rw [nE b z] at q; cases q
    have hpe : s.heap.objs.size ≠ e := Nat.ne_of_gt (Heap.lt_size s1)
    have htup : h''.get? s.heap.objs.size = some { cls := .type "tuple", data := .seq #[.int i tk', u'] } := (hs.2 _ hpe).trans ht
    have newOk : ObjOk X.prog X.w (upd H s.heap.objs.size (.tup [.int i, x])) h'' s.heap.objs.size (.tup [.int i, x]) := by
      refine ⟨?_, [.int i tk', u'], .cons ⟨_, rfl⟩ (.cons ru .nil), ⟨_, htup, rfl, rfl, 0, rfl⟩⟩
      show 2 ≤ sizeLine
      decide
    have I1 : Inv X pins σ (upd H s.heap.objs.size (.tup [.int i, x])) { s with heap := h'', toks := tk' + 1 } := by
      refine I.step (g' := s.gens) (d' := s.drawn) (ch := [e, it]) (fun b hb => ?_) (fun b o _ _ hc q _ => k b o hc q) (fun b o _ _ hc q _ => ⟨o.slots, k b o hc q⟩) (fun b o _ q n => ?_) (fun b o hc q => ⟨o, k b o hc q⟩)
        (fun b xs q => by rw [upd_ne (ne_of_none q fresh)]; exact q) (fun b o xs q => by rw [upd_ne (ne_of_none q fresh)]; exact q) (fun b ps q => ⟨#[], by rw [upd_ne (ne_of_none q fresh), q]; simp⟩) (fun m hm => ?_) (fun b ob q => ?_) I.bare
      · obtain ⟨f0, f1, f2, f3, f4, f5⟩ := hf b hb
        exact ⟨f3, f1, f4, f5⟩
      · rw [upd_ne (Nat.ne_of_lt (Heap.lt_size q))]
        exact n
      · obtain ⟨o, es, ep, ho, r⟩ := hm
        refine ⟨o, es, ep, k _ o (fun z => ?_) ho, r⟩
        exact (hf _ z).2.1 rfl
      · by_cases hb : b = s.heap.objs.size
        · subst hb
          rw [upd_same] at q; cases q
          exact newOk
        · rw [upd_ne hb] at q
          refine (I.hok b ob q).stay (fun c v hc r => k c v ?_ r) (fun c r => by rw [upd_ne (ne_of_none r fresh)]; exact r) fun c xs r => by rw [upd_ne (ne_of_none r fresh)]; exact r
          rcases hc with z | z
          · rw [z]; exact nit b ob q
          · exact nit c _ z
    refine ⟨.ref s.heap.objs.size, _, I1, rfl, ⟨s.heap.objs.size, x, fresh, rfl, rfl, fun ys hy => by rw [I.tuple_inj hy hq]; exact hx⟩, ⟨⟨u', ?_⟩, ?_⟩, fun b hb => ?_⟩
    · have he : IsEnum h'' e it ((i : Int) + 1) u' := he
      show IsEnum h'' e it ((i + 1 : Nat) : Int) u'
      rw [show ((i + 1 : Nat) : Int) = (i : Int) + 1 by omega]
      exact he
    · exact hit.extBut hs.extBut (Ne.symm hne)
    · have lt : b < s.heap.objs.size := by
        rcases List.mem_cons.mp hb with z | z
        · rw [z]; exact Heap.lt_size s1
        · have z : b = it := by simpa using z
          rw [z]
          obtain ⟨o, q, _⟩ := s2
          exact Heap.lt_size q
      rw [upd_ne (Nat.ne_of_lt lt)]
      exact nE b hb
  done := by
    intro X hP hw hK hc i pins s σ H E I hf st hg
    subst hP hw hK
    obtain ⟨xs, hq, hx⟩ := hg
    obtain ⟨its, rv, p, hz⟩ := I.tuple hq
    obtain ⟨⟨old, s1⟩, s2⟩ := st
    obtain ⟨f0, f1, f2, f3, f4, f5⟩ := hf it (by simp)
    have hl := rv.length
    exact enum_tup_end (I.ok.hd hc) s1 s2 (show s.heap.IsTuple a its.toArray from p) (by simp; omega) fun h' eb => ⟨rfl, I.turned (t' := s.toks) (fun b o hb q => eb b o hb q) f0 f1 f3 f4 f5⟩
  self := fun _ _ _ _ _ st h => by
    obtain ⟨⟨old, s1⟩, _⟩ := st
    exact wpAny_pyIter_enum s1 h

def SqB (b : Bool) (K : PySem.W.Frag) (H : Hp) (a : Addr) (xs : List V) : Prop := match b with | true => SqL K H a xs | false => SqT K H a xs
def IteB (b : Bool) (K : PySem.W.Frag) (a : Addr) : It := match b with | true => Ite K a | false => IteT K a
/-- enumerate of a list or a tuple -/
def iEnumB (K : PySem.W.Frag) (ta : TA) : TI := fun σ H R => ta σ H fun vs H1 => ∃ a b, vs = [.ref a] ∧ (∃ xs, SqB b K H1 a xs) ∧ R (IteB b K a) H1
theorem pi_enumB {X : Cx} {es : List Expr} {x1} {tpos : Pos} {e : Expr} {ta : TA} {p pos : Pos} (hg : Gl X "enumerate") (hm : X.mg "enumerate" = none) (ha : PA X [e] ta) (hs : starEach [e] X.env = [(false, eval e X.env)] := by rfl) :
    PI X (.Tuple es x1 tpos) (.Call (.Name "enumerate" p) [e] [] pos) (iEnumB X.K ta) := by
  intro pins s σ H R I h
  refine Call_ (ld_blt I hg hm (show bootBuiltins "enumerate" = some (.type "enumerate") by decide +kernel) (PyProof.Rows.callWith_type1 (thn (ha pos pins s σ H _ I h) fun us s1 ⟨vs, H1, I1, r1, q1⟩ => ?_) hs rfl))
  obtain ⟨a, b, e1, ⟨xs, hq⟩, q⟩ := q1
  subst e1
  obtain ⟨u, rfl, r⟩ := vals1 r1
  cases r
  have fp : ∀ b ∈ [s1.heap.objs.size + 1, s1.heap.objs.size], FpOk X pins H1 b := fun b hb => by
    have ge : s1.heap.objs.size ≤ b := by
      rcases List.mem_cons.mp hb with z | z
      · rw [z]; exact Nat.le_succ _
      · have z : b = s1.heap.objs.size := by simpa using z
        rw [z]
        exact Nat.le_refl _
    exact I1.fpOk ge (I1.hok.fresh ge)
  cases b with
  | true =>
    obtain ⟨its, rv, pl, hz⟩ := I1.list hq
    refine call_enumerate_list pl.isList fun h' he hi hsz k => wpAny_pyIter_enum he ?_
    exact ⟨s1.heap.objs.size + 1, [s1.heap.objs.size + 1, s1.heap.objs.size], _, _, H1, rfl, I1.kept (t' := s1.toks) k, turn_enum a s1.heap.objs.size _ (Nat.ne_of_gt (Nat.lt_succ_self _)), ⟨⟨.none, he⟩, hi⟩, fp, q⟩
  | false =>
    obtain ⟨its, rv, pl, hz⟩ := I1.tuple hq
    refine call_enum_tup (show s1.heap.IsTuple a its.toArray from pl) fun h' he hi k => wpAny_pyIter_enum he ?_
    exact ⟨s1.heap.objs.size + 1, [s1.heap.objs.size + 1, s1.heap.objs.size], _, _, H1, rfl, I1.kept (t' := s1.toks) k, turn_enumT a s1.heap.objs.size _ (Nat.ne_of_gt (Nat.lt_succ_self _)), ⟨⟨.none, he⟩, hi⟩, fp, q⟩
/-- over enumerate of a list or tuple that the body leaves as it is -/
theorem for_enumB {b : Bool} {K : PySem.W.Frag} {a : Addr} {xs : List V} {g : TG} {tb : TS} {D : Ends} {σ : St} {H : Hp} (Pv : Nat → St → Hp → Prop) (h0 : Pv 0 σ H) (hl : ∀ i σ H, i ≤ xs.length → Pv i σ H → SqB b K H a xs)
    (hs : ∀ i x p σ H, xs[i]? = some x → Pv i σ H → H p = none → g (.ref p) σ (upd H p (.tup [.int i, x])) fun σ2 H2 => tb { D with nx := Pv (i + 1), ct := Pv (i + 1), bk := D.nx } σ2 H2) (hd : ∀ σ H, Pv xs.length σ H → D.nx σ H) :
    ∃ W : Nat → Nat → St → Hp → Prop, (∃ m, W 0 m σ H) ∧ ∀ i m σ H, W i m σ H →
      ((IteB b K a).stop i H ∧ D.nx σ H) ∨ ((IteB b K a).go i H ∧ ∃ N : St → Hp → Prop, (∀ σ' H', N σ' H' → ∃ m', m' < m ∧ W (i + 1) m' σ' H') ∧ ∀ x H', (IteB b K a).yld i H x H' → g x σ H' fun σ2 H2 => tb { D with nx := N, ct := N, bk := D.nx } σ2 H2) := by
  refine ⟨fun i m σ H => m = xs.length - i ∧ i ≤ xs.length ∧ Pv i σ H, ⟨xs.length, by simp, Nat.zero_le _, h0⟩, ?_⟩
  rintro i m σ H ⟨rfl, hi, p⟩
  have q := hl i σ H hi p
  by_cases hlt : i < xs.length
  · have gx : xs[i]? = some xs[i] := by simp [hlt]
    refine .inr ⟨by cases b <;> exact ⟨xs, xs[i], q, gx⟩, Pv (i + 1), fun σ' H' p' => ⟨xs.length - (i + 1), by omega, rfl, hlt, p'⟩, fun x H' y => ?_⟩
    have y : ∃ pa z, H pa = none ∧ x = .ref pa ∧ H' = upd H pa (.tup [.int i, z]) ∧ xs[i]? = some z := by
      cases b with
      | true => obtain ⟨pa, z, hp, e1, e2, y⟩ := y; exact ⟨pa, z, hp, e1, e2, y xs q⟩
      | false => obtain ⟨pa, z, hp, e1, e2, y⟩ := y; exact ⟨pa, z, hp, e1, e2, y xs q⟩
    obtain ⟨pa, z, hp, e1, e2, y'⟩ := y
    subst e1 e2
    exact hs i z pa σ H y' p hp
  · have e : i = xs.length := by omega
    subst e
    exact .inl ⟨by cases b <;> exact ⟨xs, q, Nat.le_refl _⟩, hd σ H p⟩
/-! ### list.insert -/
end L2

set_option Elab.async false
set_option linter.all false
set_option maxRecDepth 100000
set_option maxHeartbeats 4000000
namespace L2
open PySem PySem.Spec PyProof.Rows PySem.SeqAt
section
variable {X : Cx}
theorem range_any {bs : List Bool} : (List.range bs.length).any (fun i => bs.getD i true) = bs.any id := by
  rw [Bool.eq_iff_iff, List.any_eq_true, List.any_eq_true]
  constructor
  · rintro ⟨i, hi, h⟩
    have hi' := List.mem_range.mp hi
    exact ⟨bs[i], List.getElem_mem hi', by simpa [List.getD_eq_getElem?_getD, hi'] using h⟩
  · rintro ⟨b, hb, h⟩
    obtain ⟨i, hi, e⟩ := List.getElem_of_mem hb
    exact ⟨i, List.mem_range.mpr hi, by simpa [List.getD_eq_getElem?_getD, hi, e] using h⟩
/-- any(..) of a list of bools -/
theorem call_any (hc : X.calm = true) : CallR X (.builtin "any") (fun xs H Q => ∃ (a : Addr) (bs : List Bool), xs = [.ref a] ∧ SqL X.K H a (bs.map V.bl) ∧ Q (.bl (bs.any id)) H) := by
  intro pins s σ H xs us Q I r h
  obtain ⟨a, bs, rfl, hq, q⟩ := h
  obtain ⟨u, rfl, r1⟩ := vals1 r
  cases r1
  obtain ⟨its, rv, p, hz⟩ := I.list hq
  refine call_any_walk (wpAny_pyIter_list p.isList ?_)
  have hlt := (let ⟨o, n, e, _⟩ := p; Heap.lt_size e : a < s.heap.objs.size)
  have hne : a ≠ s.heap.objs.size := Nat.ne_of_lt hlt
  have hlen : its.toArray.size = bs.length := by rw [List.size_toArray, ← rv.length, List.length_map]
  refine ⟨s.heap.objs.size, _, _, _, _, _, fun i => bs.getD i true, rfl, Walks.list (A := X.A.in1) (I.ok.hd hc) _ a hne its.toArray, ⟨⟨_, Heap.get?_push_size _ rfl, rfl, rfl⟩, ?_⟩, ?_, ?_⟩
  · obtain ⟨o, n, e, c, _, d⟩ := p
    exact ⟨o, Heap.get?_push_of_some _ e, c, n, d⟩
  · intro i v s' Q' E' hP hQ
    have hP' : its[i]? = some v := by simpa using hP
    obtain ⟨b, hb, rfl⟩ := rv.bl_get hP'
    refine wpAny_truthy_bool ?_
    dsimp only at hQ
    rw [List.getD_eq_getElem?_getD, hb] at hQ
    exact hQ
  · intro h' tk k
    rw [hlen, range_any]
    refine ⟨.bl (bs.any id), H, I.kept (h' := h') (t' := tk) fun b o e => k b o ?_ (Heap.get?_push_of_some _ e), rfl, q⟩
    intro hm
    have : b = s.heap.objs.size := by simpa using hm
    rw [this] at e
    exact absurd (Heap.lt_size e) (Nat.lt_irrefl _)
theorem preSum_take (ns : List Int) : ∀ k, k ≤ ns.length → preSum (fun i => ns.getD i 0) k = (ns.take k).sum
  | 0, _ => by simp [preSum]
  | k + 1, h => by
    have hk : k < ns.length := by omega
    rw [List.take_succ_eq_append_getElem hk, List.sum_append, ← preSum_take ns k (by omega)]
    simp [preSum, List.getD_eq_getElem?_getD, hk]
/-- sum(..) of a list of ints -/
theorem call_sumI (hc : X.calm = true) : CallR X (.builtin "sum") (fun xs H Q => ∃ (a : Addr) (ns : List Int), xs = [.ref a] ∧ SqL X.K H a (ns.map V.int) ∧ Q (.int ns.sum) H) := by
  intro pins s σ H xs us Q I r h
  obtain ⟨a, ns, rfl, hq, q⟩ := h
  obtain ⟨u, rfl, r1⟩ := vals1 r
  cases r1
  obtain ⟨its, rv, p, hz⟩ := I.list hq
  refine call_sum_walkG (wpAny_pyIter_list p.isList ?_)
  have hlt := (let ⟨o, n, e, _⟩ := p; Heap.lt_size e : a < s.heap.objs.size)
  have hne : a ≠ s.heap.objs.size := Nat.ne_of_lt hlt
  have hlen : its.toArray.size = ns.length := by rw [List.size_toArray, ← rv.length, List.length_map]
  refine ⟨s.heap.objs.size, _, _, _, _, _, fun i => ns.getD i 0, rfl, Walks.list (A := X.A.in1) (I.ok.hd hc) _ a hne its.toArray, ⟨⟨_, Heap.get?_push_size _ rfl, rfl, rfl⟩, ?_⟩, ?_, ?_, ?_⟩
  · obtain ⟨o, n, e, c, _, d⟩ := p
    exact ⟨o, Heap.get?_push_of_some _ e, c, n, d⟩
  · intro b hb
    rcases List.mem_cons.mp hb with z | z
    · rw [z, Heap.size_push]; exact Nat.lt_succ_self _
    · have z : b = a := by simpa using z
      rw [z, Heap.size_push]
      exact Nat.lt_succ_of_lt hlt
  · intro i v e
    have hi : i < its.toArray.size := (Array.getElem?_eq_some_iff.mp e).1
    obtain ⟨t, q⟩ := ints_at rv hi
    rw [Array.getElem?_eq_getElem hi] at e
    have e' := Option.some.inj e
    rw [q] at e'
    exact ⟨t, e'.symm⟩
  · intro h' tk t' k
    refine ⟨.int ns.sum, H, I.kept (h' := h') (t' := tk) fun b o e => k b o ?_ (Heap.get?_push_of_some _ e), ⟨t', ?_⟩, q⟩
    · intro hm
      have : b = s.heap.objs.size := by simpa using hm
      rw [this] at e
      exact absurd (Heap.lt_size e) (Nat.lt_irrefl _)
    · rw [hlen, preSum_take ns _ (Nat.le_refl _), List.take_length]
end
end L2

set_option Elab.async false
set_option linter.all false
set_option maxRecDepth 100000
set_option maxHeartbeats 4000000
namespace L2
open PySem PySem.Spec PyProof.Rows PySem.SeqAt
section
variable {X : Cx}
theorem vals_of_ints {ns : List Int} : ∀ {us : List Value}, IntsAre us ns → Vals (ns.map V.int) us := by
  intro us h
  induction h with
  | nil => exact .nil
  | cons => rename_i ih; exact .cons ⟨_, rfl⟩ ih
end
end L2

set_option Elab.async false
set_option linter.all false
set_option maxRecDepth 100000
set_option maxHeartbeats 4000000
namespace L2
open PySem PySem.Spec PyProof.Rows PySem.SeqAt
/-- the records at fp have turned and a new pair lies behind all -/
theorem Inv.pairOut {X : Cx} {pins : List (Addr × Obj)} {σ : St} {H : Hp} {s : Shared} {h' : Heap} {fp : List Addr} {x y : V} {u v : Value} {tk : Nat} (I : Inv X pins σ H s) (hf : ∀ b ∈ fp, FpOk X pins H b)
    (k : ∀ b o, b ∉ fp → s.heap.get? b = some o → h'.get? b = some o) (ht : IsPair h' s.heap.objs.size u v) (hlf : ∀ b ∈ fp, b < s.heap.objs.size) (hth : ∀ b ∈ fp, ∃ o, h'.get? b = some o) (rx : RelV x u) (ry : RelV y v) :
    Inv X pins σ (upd H s.heap.objs.size (.tup [x, y])) { s with heap := h', toks := tk } := by
  have fresh : H s.heap.objs.size = none := I.hok.fresh (Nat.le_refl _)
  have nit : ∀ b o, H b = some o → b ∉ fp := fun b o q z => by rw [(hf b z).1] at q; cases q
  have newOk : ObjOk X.prog X.w (upd H s.heap.objs.size (.tup [x, y])) h' s.heap.objs.size (.tup [x, y]) := by
    refine ⟨?_, [u, v], .cons rx (.cons ry .nil), ⟨_, ht, rfl, rfl, 0, rfl⟩⟩
    show 2 ≤ sizeLine
    decide
  refine I.step (g' := s.gens) (d' := s.drawn) (ch := fp) (fun b hb => ?_) (fun b o _ _ hc q _ => k b o hc q) (fun b o _ _ hc q _ => ⟨o.slots, k b o hc q⟩) (fun b o _ q n => ?_) (fun b o hc q => ⟨o, k b o hc q⟩)
    (fun b xs q => by rw [upd_ne (ne_of_none q fresh)]; exact q) (fun b o xs q => by rw [upd_ne (ne_of_none q fresh)]; exact q) (fun b ps q => ⟨#[], by rw [upd_ne (ne_of_none q fresh), q]; simp⟩) (fun m hm => ?_) (fun b ob q => ?_) I.bare
  · obtain ⟨f0, f1, f2, f3, f4, f5⟩ := hf b hb
    exact ⟨f3, f1, f4, f5⟩
  · rw [upd_ne (Nat.ne_of_lt (Heap.lt_size q))]
    exact n
  · obtain ⟨o, es, ep, ho, r⟩ := hm
    exact ⟨o, es, ep, k _ o (fun z => (hf _ z).2.1 rfl) ho, r⟩
  · by_cases hb : b = s.heap.objs.size
    · subst hb
      rw [upd_same] at q; cases q
      exact newOk
    · rw [upd_ne hb] at q
      refine (I.hok b ob q).stay (fun c v hc r => k c v ?_ r) (fun c r => by rw [upd_ne (ne_of_none r fresh)]; exact r) fun c xs r => by rw [upd_ne (ne_of_none r fresh)]; exact r
      rcases hc with z | z
      · rw [z]; exact nit b ob q
      · exact nit c _ z
end L2

set_option Elab.async false
set_option linter.all false
set_option maxRecDepth 100000
set_option maxHeartbeats 4000000
namespace L2
open PySem PySem.Spec PyProof.Rows PySem.SeqAt
section
variable {X : Cx}
/-! ### ints of many bits -/
theorem op_mulB : OpR X (binaryOp .Mult) (rI (fun i j => ∃ m n, Builtin.Int.intBits i ≤ m ∧ Builtin.Int.intBits j ≤ n ∧ m + n ≤ 134217728) fun i j => .int (i * j)) :=
  opI fun _ _ _ _ _ _ _ hc q => mul_int q (by obtain ⟨m, n, h1, h2, h3⟩ := hc; exact IntMulOk.of_le h1 h2 h3)
theorem op_fdivB : OpR X (binaryOp .FloorDiv) (rI (fun _ j => 0 < j ∧ Builtin.Int.intBits j ≤ 8000) fun i j => .int (i / j)) := opI fun i j _ _ _ _ _ hc q => by
  have h1 : (0 : Int) < j := hc.1
  have h2 : j.natAbs < 2 ^ 8000 := intBits_le_iff.mp hc.2
  refine floordiv_int (by omega) (by rw [Int.fdiv_eq_ediv_of_nonneg i (by omega)]; exact q) (.inl (PyProof.noPylong_of_log2 ?_))
  have h3 : j.natAbs.log2 < 8000 := (Nat.log2_lt (by omega)).mpr h2
  omega
/-! ### tuples of ints compared -/
/-! ### sum(..) of a tuple of ints -/
/-! ### f(e, .., k = v), f a built-in function -/
end
section
variable {prog : Program} {w : World} {A : Around} {E : Value → Shared → Prop} {s : Shared}
end
section
variable {X : Cx}
end
/-! ### comprehensions over a tuple -/
end L2

set_option Elab.async false
set_option linter.all false
set_option maxRecDepth 100000
set_option maxHeartbeats 4000000
namespace Lv
open PySem L2
theorem pe_ty {X : Cx} {x : Str} {T : String} {pos : Pos} (hg : Gl X x) (hm : X.mg x = none) (hv : bootBuiltins x = some (.type T)) (hn : x ≠ "__name__" := by decide) (hd : (x == ("__debug__" : Str)) = false := by decide) : PE X (.Name x pos) (tC (.ty T)) :=
  pe_bltn hg hm hv rfl hn hd
theorem pe_gint {X : Cx} {x : Str} {i : Int} {t : Tok} {pos : Pos} (hg : Gl X x) (hm : X.mg x = some (.int i t)) (hd : (x == ("__debug__" : Str)) = false := by decide) : PE X (.Name x pos) (tC (.int i)) :=
  pe_glob hg hm ⟨t, rfl⟩ hd
/-- the names of the module that are none of the text's own -/
structure Txt (mg : Str → Option Value) : Prop where
  isinstance : mg "isinstance" = none
  int : mg "int" = none
  bool : mg "bool" = none
  list : mg "list" = none
  tuple : mg "tuple" = none
  min : mg "min" = none
  max : mg "max" = none
  len : mg "len" = none
  range : mg "range" = none
  all : mg "all" = none
  sum : mg "sum" = none
  sorted : mg "sorted" = none
  zip : mg "zip" = none
theorem b_isinstance : bootBuiltins "isinstance" = some (.builtin "isinstance") := by decide +kernel
theorem b_int : bootBuiltins "int" = some (.type "int") := by decide +kernel
theorem b_bool : bootBuiltins "bool" = some (.type "bool") := by decide +kernel
theorem b_tuple : bootBuiltins "tuple" = some (.type "tuple") := by decide +kernel
theorem b_min : bootBuiltins "min" = some (.builtin "min") := by decide +kernel
theorem b_max : bootBuiltins "max" = some (.builtin "max") := by decide +kernel
theorem b_all : bootBuiltins "all" = some (.builtin "all") := by decide +kernel
theorem b_sum : bootBuiltins "sum" = some (.builtin "sum") := by decide +kernel
theorem b_sorted : bootBuiltins "sorted" = some (.builtin "sorted") := by decide +kernel
theorem kit_int_int {K : PySem.W.Frag} : PySem.W.kitOne K (.type "int") (.type "int") = some true := by rfl
theorem kit_int_bool {K : PySem.W.Frag} : PySem.W.kitOne K (.type "int") (.type "bool") = some false := by with_unfolding_all rfl
theorem kit_tuple_tuple {K : PySem.W.Frag} : PySem.W.kitOne K (.type "tuple") (.type "tuple") = some true := by rfl
/-- a def of the text that is called by its name -/
structure Cal (P : Program) (w : World) (K : PySem.W.Frag) (mg : Str → Option Value) (base : Heap) (k : Nat) (x : Str) (ps : List Str) (sp : Sp) (f : Addr) (fd : FuncData) : Prop where
  ok : FnOk P w K mg base CX0 k f fd ps sp
  mg : mg x = some (.ref f)
  kp : PySem.W.keepIn K (.ref f) = true
  bd : Binds K fd ps []
theorem pe_cal {X : Cx} {k : Nat} {x : Str} {ps : List Str} {sp : Sp} {f : Addr} {fd : FuncData} {e : Expr} {es : List Expr} {t : TA} {p pos : Pos} (C : Cal X.prog X.w X.K X.mg X.base k x ps sp f fd) (hr : Room k X.A) (hg : Gl X x) (ha : PA X (e :: es) t)
    (hdb : (x == ("__debug__" : Str)) = false := by decide) (he : starEach (e :: es) X.env = (false, eval e X.env) :: starEach es X.env := by rfl) (hpl : (backTo pos (starEach es X.env)).any (·.1) = false := by rfl) :
    PE X (.Call (.Name x p) (e :: es) [] pos) (tCall sp [] E0 t) := pe_call C.ok hr hg C.mg C.kp C.bd .nil pass0 ha hdb he hpl
theorem ixK_list (K : PySem.W.Frag) {X : Cx} (hK : X.K = K := by rfl) : IxR X (rIxL K) := by subst hK; exact ix_list
theorem map_get {xs : List Int} {i : Nat} {x : V} (h : (xs.map V.int)[i]? = some x) : ∃ p, xs[i]? = some p ∧ x = .int p := by
  rw [List.getElem?_map] at h
  cases e : xs[i]? with
  | none => rw [e] at h; cases h
  | some p => rw [e] at h; exact ⟨p, rfl, (Option.some.inj h).symm⟩
theorem _root_.L2.Same.new {q : Addr} {H : Hp} {o : HO} (h : H q = none) : Same H (upd H q o) := fun b u e => by rw [upd_ne (ne_of_none e h)]; exact e
theorem _root_.L2.Same.put {q : Addr} {H H' : Hp} {o : HO} (s : Same H H') (h : H q = none) : Same H (upd H' q o) := fun b u e => by rw [upd_ne (ne_of_none e h)]; exact s b u e
theorem _root_.L2.Same.tup {K : PySem.W.Frag} {H H' : Hp} {a : Addr} {xs : List V} (e : Same H H') (h : SqT K H a xs) : SqT K H' a xs := by
  rcases h with (h | ⟨o, h⟩) | h
  · exact .inl (.inl (e _ _ h))
  · exact .inl (.inr ⟨o, e _ _ h⟩)
  · exact .inr h
theorem ixN_of {n : Nat} {x : Int} (h0 : 0 ≤ x) (h1 : x < n) : ixN n x = some x.toNat := by
  unfold ixN
  rw [if_pos h0, if_pos h1]
theorem atI_int {fs : List Int} {x : Int} (h0 : 0 ≤ x) (h1 : x < fs.length) : atI (fs.map V.int) x = some (.int (fs.getD x.toNat 0)) := by
  unfold atI
  have hx : x.toNat < fs.length := by omega
  rw [List.length_map, ixN_of h0 h1]
  show (fs.map V.int)[x.toNat]? = _
  rw [List.getElem?_map, List.getElem?_eq_getElem hx, List.getD_eq_getElem?_getD, List.getElem?_eq_getElem hx]
  rfl
theorem atI_head {c0 : Int} {cr : List Int} : atI ((c0 :: cr).map V.int) 0 = some (.int c0) := atI_nat (j := 0) rfl
/-! ### a text cut in two -/
theorem cut2 {a b R : TS} {D : Ends} {σ : St} {H : Hp} (M : St → Hp → Prop) (h1 : ∀ R' : TS, (∀ σ' H', M σ' H' → R' D σ' H') → tSeq a (tSeq b R') D σ H) (h2 : ∀ σ' H', M σ' H' → R D σ' H') : tSeq a (tSeq b R) D σ H := h1 R h2
theorem cut1 {a R : TS} {D : Ends} {σ : St} {H : Hp} (M : St → Hp → Prop) (h1 : ∀ R' : TS, (∀ σ' H', M σ' H' → R' D σ' H') → tSeq a R' D σ H) (h2 : ∀ σ' H', M σ' H' → R D σ' H') : tSeq a R D σ H := h1 R h2
theorem cutG {i : Nat} {x : V} {a R : TS} {D : Ends} {σ : St} {H : Hp} (M : St → Hp → Prop) (h1 : ∀ R' : TS, (∀ σ' H', M σ' H' → R' D σ' H') → gName i x σ H (tSeq a R' D)) (h2 : ∀ σ' H', M σ' H' → R D σ' H') : gName i x σ H (tSeq a R D) := h1 R h2
/-! ### pools of two ints -/
/-- all but p as it was -/
def Sm (p : Addr) (H H' : Hp) : Prop := ∀ b o, H b = some o → b ≠ p → H' b = some o
theorem Sm.trans {p : Addr} {H H1 H2 : Hp} (a : Sm p H H1) (b : Sm p H1 H2) : Sm p H H2 := fun c o h n => b c o (a c o h n) n
theorem Sm.refl (p : Addr) (H : Hp) : Sm p H H := fun _ _ h _ => h
theorem Sm.new {p q : Addr} {H : Hp} {o : HO} (h : H q = none) : Sm p H (upd H q o) := fun b u e _ => by rw [upd_ne (ne_of_none e h)]; exact e
theorem Sm.put {p : Addr} {H : Hp} {o : HO} : Sm p H (upd H p o) := fun b u e n => by rw [upd_ne n]; exact e
theorem Sm.after {p : Addr} {H H1 H2 : Hp} (s : Same H H1) (m : Sm p H1 H2) (h : H p = none) : Same H H2 := fun b o e => m b o (s b o e) (ne_of_none e h)
def spWhole : Sp := fun vs H Q _ => ∃ i, vs = [.int i] ∧ Q (.bl true) H
theorem bits_small {m : Int} (h0 : 0 ≤ m) (h1 : m < 2 ^ 64) : Builtin.Int.intBits m ≤ 8000 := Nat.le_trans (intBits_le_64 (by omega) h1) (by decide)
/-! ### counts of levels, in plain Lean -/
def nextC (c : List Int) : List Int := (c.tail.map (c.getD 0 0 + ·)) ++ [c.getD 0 0]
def firstC (p : Nat) : List Int := 1 :: List.replicate (p - 1) 0
def cnt (p : Nat) : Nat → List Int
  | 0 => firstC p
  | n + 1 => nextC (cnt p n)
theorem nextC_len {c : List Int} (h : c ≠ []) : (nextC c).length = c.length := by
  cases c with
  | nil => exact absurd rfl h
  | cons x r => simp [nextC]
theorem cnt_len {p : Nat} (hp : 1 ≤ p) : ∀ n, (cnt p n).length = p
  | 0 => by simp [cnt, firstC]; omega
  | n + 1 => by
    have := cnt_len hp n
    show (nextC (cnt p n)).length = p
    rw [nextC_len (by intro z; rw [z] at this; simp at this; omega), this]
def Down (c : List Int) : Prop := c.Pairwise (· ≥ ·) ∧ ∀ x ∈ c, 0 ≤ x
theorem down_next {c : List Int} (h : Down c) : Down (nextC c) := by
  cases c with
  | nil => exact ⟨by simp [nextC], by intro x hx; simp [nextC] at hx; omega⟩
  | cons a r =>
    obtain ⟨h1, h2⟩ := h
    have h3 := List.pairwise_cons.mp h1
    have h0 : 0 ≤ a := h2 a (by simp)
    refine ⟨?_, ?_⟩
    · show ((r.map (a + ·)) ++ [a]).Pairwise (· ≥ ·)
      rw [List.pairwise_append]
      refine ⟨?_, by simp, ?_⟩
      · rw [List.pairwise_map]
        exact h3.2.imp fun h => by omega
      · intro x hx y hy
        obtain ⟨z, hz, rfl⟩ := List.mem_map.mp hx
        have := h2 z (by simp [hz])
        have : y = a := by simpa using hy
        omega
    · show ∀ x ∈ (r.map (a + ·)) ++ [a], 0 ≤ x
      intro x hx
      rcases List.mem_append.mp hx with hx | hx
      · obtain ⟨z, hz, rfl⟩ := List.mem_map.mp hx
        have := h2 z (by simp [hz])
        omega
      · have : x = a := by simpa using hx
        omega
theorem down_cnt (p : Nat) : ∀ n, Down (cnt p n)
  | 0 => by
    refine ⟨?_, ?_⟩
    · show (1 :: List.replicate (p - 1) (0 : Int)).Pairwise (· ≥ ·)
      rw [List.pairwise_cons]
      refine ⟨fun y hy => ?_, ?_⟩
      · have := (List.mem_replicate.mp hy).2
        omega
      · rw [List.pairwise_replicate]
        exact .inr (Int.le_refl _)
    · intro x hx
      rcases List.mem_cons.mp hx with rfl | hx
      · decide
      · have := (List.mem_replicate.mp hx).2
        omega
  | n + 1 => down_next (down_cnt p n)
def spWays : Sp := fun vs H Q _ => ∃ i, vs = [.int i] ∧ 2 ≤ i ∧ i ≤ 7 ∧ Q .non H
def spLCounts : Sp := fun vs H Q _ => ∃ p n : Nat, vs = [.int p, .int n] ∧ 2 ≤ p ∧ p ≤ 7 ∧ n ≤ 300 ∧ ∀ l H', H l = none → H' l = some (.lst ((cnt p n).map V.int)) → Same H H' → Q (.ref l) H'
def spLaw (K : PySem.W.Frag) : Sp := fun vs H Q _ => ∃ (a : Addr) (ns : List Int), vs = [.ref a] ∧ SqL K H a (ns.map V.int) ∧ ns.length ≤ 63 ∧ ∀ H', Q (.bl true) H'
end Lv

set_option Elab.async false
set_option linter.all false
set_option maxRecDepth 100000
set_option maxHeartbeats 4000000
namespace Lv
open PySem L2
def hd (p n : Nat) : Int := (cnt p n).getD 0 0
def tot (p n : Nat) : Int := (cnt p n).sum
theorem cnt_cons {p : Nat} (hp : 2 ≤ p) (n : Nat) : ∃ a b r, cnt p n = a :: b :: r ∧ r.length = p - 2 := by
  have h := cnt_len (p := p) (by omega) n
  match hc : cnt p n with
  | [] => rw [hc] at h; simp at h; omega
  | [x] => rw [hc] at h; simp at h; omega
  | a :: b :: r => rw [hc] at h; exact ⟨a, b, r, rfl, by simp at h; omega⟩
theorem hd_pos {p : Nat} (hp : 2 ≤ p) : ∀ n, 1 ≤ hd p n
  | 0 => by simp [hd, cnt, firstC]
  | n + 1 => by
    obtain ⟨a, b, r, e, _⟩ := cnt_cons hp n
    have ih := hd_pos hp n
    have nn := (down_cnt p n).2 b (by rw [e]; simp)
    unfold hd at ih ⊢
    show 1 ≤ (nextC (cnt p n)).getD 0 0
    rw [e] at ih ⊢
    simp [nextC] at ih ⊢
    omega
theorem sum_add (c : Int) : ∀ r : List Int, (r.map (c + ·)).sum = r.length * c + r.sum
  | [] => by simp
  | x :: r => by
    rw [List.map_cons, List.sum_cons, sum_add c r, List.sum_cons, List.length_cons, Int.natCast_succ, Int.add_mul]
    omega
theorem sum_next (a : Int) (r : List Int) : (nextC (a :: r)).sum = (a :: r).sum + r.length * a := by
  show ((r.map (a + ·)) ++ [a]).sum = _
  rw [List.sum_append, sum_add, List.sum_cons, List.sum_cons, List.sum_nil]
  omega
theorem tot_succ {p : Nat} (hp : 2 ≤ p) (n : Nat) : tot p (n + 1) = tot p n + (p - 1 : Nat) * hd p n := by
  obtain ⟨a, b, r, e, hr⟩ := cnt_cons hp n
  unfold tot hd
  show (nextC (cnt p n)).sum = _
  rw [e, sum_next]
  have : (b :: r).length = p - 1 := by simp; omega
  rw [this]
  rfl
theorem tot_lt {p : Nat} (hp : 2 ≤ p) (n : Nat) : tot p n + 1 ≤ tot p (n + 1) := by
  rw [tot_succ hp]
  have h1 := hd_pos hp n
  have h2 : ((1 : Nat) : Int) * 1 ≤ ((p - 1 : Nat) : Int) * hd p n := Int.mul_le_mul (by omega) h1 (by decide) (by omega)
  omega
theorem tot_ge {p : Nat} (hp : 2 ≤ p) : ∀ n : Nat, (n : Int) + 1 ≤ tot p n
  | 0 => by
    have h : ∀ m : Nat, (List.replicate m (0 : Int)).sum = 0 := fun m => by
      induction m with
      | zero => rfl
      | succ m ih => rw [List.replicate_succ, List.sum_cons, ih]; rfl
    simp [tot, cnt, firstC, h]
  | n + 1 => by
    have := tot_ge hp n
    have := tot_lt hp n
    omega
theorem sum_ge {c : List Int} (h : ∀ x ∈ c, 0 ≤ x) : c.getD 0 0 ≤ c.sum := by
  cases c with
  | nil => simp
  | cons a r =>
    have : ∀ l : List Int, (∀ x ∈ l, 0 ≤ x) → 0 ≤ l.sum := by
      intro l
      induction l with
      | nil => intro _; simp
      | cons x y ih =>
        intro h
        rw [List.sum_cons]
        have := h x (by simp)
        have := ih fun z hz => h z (by simp [hz])
        omega
    have := this r fun x hx => h x (by simp [hx])
    rw [List.sum_cons]
    simp
    omega
theorem tot_le {p : Nat} (hp : 2 ≤ p) (h7 : p ≤ 7) : ∀ n : Nat, tot p n ≤ 7 ^ n
  | 0 => by
    have h : ∀ m : Nat, (List.replicate m (0 : Int)).sum = 0 := fun m => by
      induction m with
      | zero => rfl
      | succ m ih => rw [List.replicate_succ, List.sum_cons, ih]; rfl
    simp [tot, cnt, firstC, h]
  | n + 1 => by
    have ih := tot_le hp h7 n
    have h1 : hd p n ≤ tot p n := sum_ge (down_cnt p n).2
    have h0 := hd_pos hp n
    rw [tot_succ hp, Int.pow_succ]
    have h2 : ((p - 1 : Nat) : Int) * hd p n ≤ 6 * tot p n := Int.mul_le_mul (by omega) h1 (by omega) (by decide)
    omega
end Lv

set_option Elab.async false
set_option linter.all false
set_option maxRecDepth 100000
set_option maxHeartbeats 4000000
namespace L2
open PySem PySem.Spec PyProof.Rows PySem.SeqAt
/-! ### zip of lists and tuples, true a list, false a tuple -/
section
variable {prog : Program} {w : World} {A : Around} {E : Value → Shared → Prop} {s : Shared}
end
end L2

set_option Elab.async false
set_option linter.all false
set_option maxRecDepth 100000
set_option maxHeartbeats 4000000
namespace L2
open PySem PySem.Spec PyProof.Rows PySem.SeqAt
end L2

set_option Elab.async false
set_option linter.all false
set_option maxRecDepth 100000
set_option maxHeartbeats 4000000
namespace Lv
open PySem L2
theorem pgK_tup (K : PySem.W.Frag) {X : Cx} {es : List Expr} {k : Nat} {t : TGs} {n : Nat} {pos : Pos} (hc : X.calm = true) (h : PGs X es t) (hK : X.K = K := by rfl) (hn : (assignEach es X.env).length = n := by rfl) (hst : (assignEach es X.env).findIdx? (·.1) = none := by rfl) : PG X (.Tuple es k pos) (gTup K n t) := by
  subst hK; exact pg_tup hc h hn hst
end Lv

set_option Elab.async false
set_option linter.all false
set_option maxRecDepth 100000
set_option maxHeartbeats 4000000
namespace L2
open PySem PySem.Spec PyProof.Rows PySem.SeqAt
/-! ### rules with the fragment named: within a block -/
theorem callK_len (K : PySem.W.Frag) {X : Cx} (hK : X.K = K := by rfl) : CallR X (.builtin "len") (fun xs H Q => ∃ p ys, xs = [.ref p] ∧ (SqL K H p ys ∨ SqT K H p ys) ∧ Q (.int ys.length) H) := by subst hK; exact call_len_seq
/-- a comprehension that takes no name of the text's own -/
theorem CompOk.bare {X : Cx} {scope : Scope} {own : List Str} (h : ((scope.kind == .function) && scope.names.all fun y => (y.2 != .cell) && (y.2 != .free) && ((y.2 != .local) || (scope.names.lookup y.1 == some .local))) = true) : CompOk X scope own [] := by
  simp only [Bool.and_eq_true, beq_iff_eq, List.all_eq_true, Bool.or_eq_true, bne_iff_ne, ne_eq] at h
  obtain ⟨h1, h2⟩ := h
  refine ⟨h1, fun y hy => (h2 y hy).1.1, fun y hy hf => absurd hf (h2 y hy).1.2, fun y hy hl => ?_, fun j hj => by cases hj⟩
  rcases (h2 y hy).2 with z | z
  · exact absurd hl z
  · exact z
section
variable {X : Cx}
/-! ### lists of lists, tuples of tuples -/
/-- a list of refs, each to a list of ints -/
def LLs (H : Hp) (rs : List Addr) (N : List (List Int)) : Prop := rs.length = N.length ∧ ∀ (j : Nat) r xs, rs[j]? = some r → N[j]? = some xs → H r = some (.lst (xs.map V.int))
def TTs (H : Hp) (rs : List Addr) (N : List (List Int)) : Prop := rs.length = N.length ∧ ∀ (j : Nat) r xs, rs[j]? = some r → N[j]? = some xs → H r = some (.tup (xs.map V.int))
theorem LLs.same {H H' : Hp} {rs : List Addr} {N : List (List Int)} (h : LLs H rs N) (s : Same H H') : LLs H' rs N := ⟨h.1, fun j r xs a b => s _ _ (h.2 j r xs a b)⟩
theorem TTs.same {H H' : Hp} {rs : List Addr} {N : List (List Int)} (h : TTs H rs N) (s : Same H H') : TTs H' rs N := ⟨h.1, fun j r xs a b => s _ _ (h.2 j r xs a b)⟩
theorem snoc_get {α : Type} {xs : List α} {x y : α} {j : Nat} (h : (xs ++ [x])[j]? = some y) : xs[j]? = some y ∨ (j = xs.length ∧ y = x) := by
  by_cases hj : j < xs.length
  · rw [List.getElem?_append_left hj] at h; exact .inl h
  · rw [List.getElem?_append_right (by omega)] at h
    have : j - xs.length = 0 := by
      cases e : j - xs.length with
      | zero => rfl
      | succ m => rw [e] at h; simp at h
    rw [this] at h
    exact .inr ⟨by omega, by simpa using h.symm⟩
theorem LLs.snoc {H : Hp} {rs : List Addr} {N : List (List Int)} {r : Addr} {x : List Int} (h : LLs H rs N) (e : H r = some (.lst (x.map V.int))) : LLs H (rs ++ [r]) (N ++ [x]) := ⟨by simp [h.1], fun j r' xs a b => by
  rcases snoc_get a with a | ⟨a, rfl⟩
  · rcases snoc_get b with b | ⟨b, _⟩
    · exact h.2 j r' xs a b
    · have := (List.getElem?_eq_some_iff.mp a).1; have := h.1; omega
  · rcases snoc_get b with b | ⟨_, rfl⟩
    · have := (List.getElem?_eq_some_iff.mp b).1; have := h.1; omega
    · exact e⟩
theorem all_range (n : Nat) : ((List.range n).all fun _ => true) = true := by simp
end
end L2

set_option Elab.async false
set_option linter.all false
set_option maxRecDepth 100000
set_option maxHeartbeats 4000000
namespace Lv
open PySem L2
/-! ### numbers of levels, in plain Lean -/
def fstN (N : List (List Int)) : List Int := (N.headD []).map (· + 1)
def nextN (N : List (List Int)) : List (List Int) := (N.tail.map (fstN N ++ ·)) ++ [fstN N]
def num0 (p : Nat) : List (List Int) := [0] :: List.replicate (p - 1) []
def num (p : Nat) : Nat → List (List Int)
  | 0 => num0 p
  | n + 1 => nextN (num p n)
def lens (N : List (List Int)) : List Int := N.map fun l => (l.length : Int)
theorem lens_next (N : List (List Int)) : lens (nextN N) = nextC (lens N) := by
  cases N with
  | nil => simp [lens, nextN, nextC, fstN]
  | cons a r =>
    simp [lens, nextN, nextC, fstN, Function.comp_def]
theorem lens_num (p : Nat) : ∀ n, lens (num p n) = cnt p n
  | 0 => by simp [lens, num, num0, cnt, firstC]
  | n + 1 => by
    show lens (nextN (num p n)) = nextC (cnt p n)
    rw [lens_next, lens_num p n]
theorem num_len {p : Nat} (hp : 1 ≤ p) (n : Nat) : (num p n).length = p := by
  have := congrArg List.length (lens_num p n)
  rw [cnt_len hp] at this
  simpa [lens] using this
theorem num_cons {p : Nat} (hp : 2 ≤ p) (n : Nat) : ∃ a r, num p n = a :: r ∧ a ≠ [] ∧ r.length = p - 1 := by
  have h := num_len (p := p) (by omega) n
  cases e : num p n with
  | nil => rw [e] at h; simp at h; omega
  | cons a r =>
    rw [e] at h
    refine ⟨a, r, rfl, ?_, by simp at h; omega⟩
    rintro rfl
    have h1 := hd_pos hp n
    unfold hd at h1
    rw [← lens_num p n, e] at h1
    simp [lens] at h1
theorem map_ref_get {rs : List Addr} {i : Nat} {x : V} (h : (rs.map V.ref)[i]? = some x) : ∃ r, rs[i]? = some r ∧ x = .ref r := by
  rw [List.getElem?_map] at h
  cases e : rs[i]? with
  | none => rw [e] at h; cases h
  | some p => rw [e] at h; exact ⟨p, rfl, (Option.some.inj h).symm⟩
end Lv

set_option Elab.async false
set_option linter.all false
set_option maxRecDepth 100000
set_option maxHeartbeats 4000000
namespace Lv
open PySem L2 PySem.Spec PyProof.Rows
/-- a def of the text with defaults, which lie in the tuple at da -/
structure FunD (K : PySem.W.Frag) (x qual : Str) (st : Stmt) (f da : Addr) (fd : FuncData) : Prop where
  ex : ∃ (oc : Value) (od : Option Addr) (kV doc pm : Value) (an : Option Addr) (cdv ct : Value) (osl : Array (Option Value)),
    fd = PySem.W.fnOf x qual (defArgs st) (defBody st) (defScope st) (.ref da) kV doc pm an cdv ct ∧ K.lookup f = some ⟨oc, od, .func fd, osl⟩ ∧ PySem.W.codeIn K cdv qual = true
  kp : PySem.W.keepIn K (.ref f) = true
section
variable {P : Program} {w : World} {K : PySem.W.Frag} {mg : Str → Option Value} {base : Heap}
end
/-- such a def, called with the last places left to their defaults dvs -/
structure CalD (P : Program) (w : World) (K : PySem.W.Frag) (mg : Str → Option Value) (base : Heap) (k : Nat) (x : Str) (ps : List Str) (dvs : List V) (sp : Sp) (f : Addr) (fd : FuncData) : Prop where
  ok : FnOk P w K mg base CX0 k f fd ps sp
  mg : mg x = some (.ref f)
  kp : PySem.W.keepIn K (.ref f) = true
  bd : ∃ ds, Binds K fd ps ds ∧ Vals dvs ds
/-- f(..) where f is a local name that holds a def of the text -/
def tCallV (j : Nat) (f : Addr) (t : TE) : TE := fun σ H Q => σ[j]? = some (some (.ref f)) ∧ t σ H Q
theorem pe_calV {X : Cx} {k : Nat} {x y : Str} {ps : List Str} {sp : Sp} {f : Addr} {fd : FuncData} {e : Expr} {es : List Expr} {t : TA} {p pos : Pos} (j : Nat) (C : Cal X.prog X.w X.K X.mg X.base k y ps sp f fd) (hr : Room k X.A) (ha : PA X (e :: es) t) (hN : X.N[j]? = some x := by rfl) (hv : Vis X.env.scope x := by first | exact Or.inl rfl | exact Or.inr (Or.inl rfl) | exact Or.inr (Or.inr rfl))
    (hdb : (x == ("__debug__" : Str)) = false := by decide) (hcd : (x == ("__classdict__" : Str)) = false := by decide) (he : starEach (e :: es) X.env = (false, eval e X.env) :: starEach es X.env := by rfl) (hpl : (backTo pos (starEach es X.env)).any (·.1) = false := by rfl) :
    PE X (.Call (.Name x p) (e :: es) [] pos) (tCallV j f (tCall sp [] E0 t)) := by
  intro pins s σ H Q I h
  obtain ⟨h0, h⟩ := h
  refine wpAny_Call_Name_kw ?_
  refine thn (pe_var hN hv hdb hcd pins s σ H (fun v H1 => v = .ref f ∧ t σ H1 fun vs H2 => sp (vs ++ []) H2 Q E0) I ⟨_, h0, rfl, h⟩) fun u s1 ⟨v, H1, I1, r, ev, q⟩ => ?_
  subst ev
  obtain rfl : u = Value.ref f := r
  refine PySem.W.callWith_K (h₀ := X.base) I.ok.mod.kin C.kp (thn (ha pos pins s1 σ H1 _ I1 q) fun us s2 ⟨vs, H2, I2, r2, q2⟩ => ⟨I2.kIn, ?_⟩) he hpl
  exact run_fn C.ok hr C.bd .nil pass0 I2 r2 q2
/-- a def of the text as a value -/
theorem pe_gfn {X : Cx} {k : Nat} {x : Str} {ps : List Str} {sp : Sp} {f : Addr} {fd : FuncData} {pos : Pos} (C : Cal X.prog X.w X.K X.mg X.base k x ps sp f fd) (hg : Gl X x) (hd : (x == ("__debug__" : Str)) = false := by decide) : PE X (.Name x pos) (tC (.ref f)) :=
  pe_glob hg C.mg rfl hd
end Lv

set_option Elab.async false
set_option linter.all false
set_option maxRecDepth 100000
set_option maxHeartbeats 4000000
namespace L2
open PySem PySem.Spec PyProof.Rows
/-! ### exceptions: how one lies in the heap while it flies -/
/-- the exception at ea of the class cls, its traceback at T: both new since h0, neither tracked -/
def Fly (H : Hp) (h0 h : Heap) (ea : Addr) (cls fl : Value) : Prop :=
  ∃ (a0 : Value) (T : Addr) (oe oT : Obj) (vs ts : Array Value), (H ea = none ∧ H T = none ∧ h0.get? ea = none ∧ h0.get? T = none) ∧
    h.get? ea = some oe ∧ (oe.cls = cls ∧ vs[0]? = some a0) ∧ oe.data = .fields vs ∧ vs[1]? = some (.ref T) ∧ T ≠ ea ∧ h.get? T = some oT ∧ oT.data = .fields ts ∧ ts[3]? = some fl
/-- behind a call that ends by an exception -/
def CX1 (P : Program) (w : World) : CXT := fun outer H s E e s' => ∃ (ea : Addr) (cls : Value) (H' : Hp), e = .ref ea ∧ s'.os = s.os ∧ AllBare s'.gens ∧ Un (frs outer) [] H H' s.heap s'.heap ∧ HOk P w H' s'.heap ∧ Fly H' s.heap s'.heap ea cls .none ∧ E cls none H'
/-! ### a def that lets exceptions leave -/
section
variable {P : Program} {w : World} {K : PySem.W.Frag} {mg : Str → Option Value} {base : Heap} {N : List Str} {qual : Str} {scope : Scope} {f : Addr} {cd : Value} {A : Around} {outer : List Env} {s : Shared} {H : Hp} {E : XK}
end
end L2

set_option Elab.async false
set_option linter.all false
set_option maxRecDepth 100000
set_option maxHeartbeats 4000000
namespace L2
open PySem PySem.Spec PyProof.Rows PySem.W
section
variable {prog : Program} {w : World} {A : Around} {E : Value → Shared → Prop} {s : Shared} {K : Frag} {x C D : Addr} {ox : Obj}
/-- what the text's own exception class is like -/
def excAll (K : Frag) (C : Addr) : Bool := excIn K C [.type "ValueError", .type "Exception", .type "BaseException", .type "object"] "ValueError.__new__" && (findIn K (.ref C) "__getattribute__" == some (some (.builtin "BaseException.__getattribute__")) && (findIn K (.ref C) "__getattr__" == some none &&
  (findIn K (.ref C) "__class__" == some (some (.builtin "object.__class__")) && (mroIn K C (.type "object") == some true && (mroIn K C (.type "BaseException") == some true && ((clsIn K C).isSome &&
  (specialIn K (.builtin "object.__class__") "__get__" == some (some (.builtin "getset_descriptor.__get__")) && takesIn K (.builtin "object.__class__") == some true)))))))
end
section
variable {X : Cx}
end
end L2

set_option Elab.async false
set_option linter.all false
set_option maxRecDepth 100000
set_option maxHeartbeats 4000000
namespace L2
open PySem PySem.Spec PyProof.Rows PySem.W
/-! ### defs that may raise -/
section
variable {P : Program} {w : World} {K : PySem.W.Frag} {mg : Str → Option Value} {base : Heap}
end
/-- a def of the text that may raise, called by its name -/
structure CalE (P : Program) (w : World) (K : PySem.W.Frag) (mg : Str → Option Value) (base : Heap) (k : Nat) (x : Str) (ps : List Str) (dvs : List V) (sp : Sp) (f : Addr) (fd : FuncData) : Prop where
  ok : FnOk P w K mg base (CX1 P w) k f fd ps sp
  mg : mg x = some (.ref f)
  kp : PySem.W.keepIn K (.ref f) = true
  bd : ∃ ds, Binds K fd ps ds ∧ Vals dvs ds
section
variable {X : Cx}
/-! ### f'..' of texts and ints: some text -/
inductive FParts (X : Cx) : List Expr → List TE → Prop
  | nil : FParts X [] []
  | con {x : Str} {j pos} {es : List Expr} {ts : List TE} (h : x.length ≤ 1000) (r : FParts X es ts) : FParts X (.Constant (.str x) j pos :: es) ts
  | val {v : Expr} {t : TE} {pos : Pos} {es : List Expr} {ts : List TE} (h : PE X v t) (r : FParts X es ts) : FParts X (.FormattedValue v (-1) none pos :: es) (t :: ts)
/-! ### raise -/
end
/-! ### try: .. except C as e: .. -/
section
variable {X : Cx} {pins : List (Addr × Obj)} {σ : St} {H : Hp} {s : Shared}
end
/-- the ends of a suite, the name gone behind it -/
def Ends.without (D : Ends) (i : Nat) : Ends := { nx := fun σ H => D.nx (σ.set i none) H, rt := D.rt, bk := fun σ H => D.bk (σ.set i none) H, ct := fun σ H => D.ct (σ.set i none) H }
section
variable {X : Cx}
end
end L2

set_option Elab.async false
set_option linter.all false
set_option maxRecDepth 100000
set_option maxHeartbeats 4000000
namespace L2
open PySem PySem.Spec PyProof.Rows
/-! ### closed words: what lies in them is not opened while a term is put together -/
def notStarW : Expr → Bool
  | .Starred .. => false
  | _ => true
theorem star_consW {e : Expr} {es : List Expr} {env : Env} (h : notStarW e = true) : starEach (e :: es) env = (false, eval e env) :: starEach es env := by
  cases e <;> first | rfl | (cases h)
structure WA (X : Cx) (es : List Expr) (t : TA) : Prop where
  out : PA X es t
structure WS (X : Cx) (st : Stmt) (t : TS) : Prop where
  out : PS X st t
structure WSs (X : Cx) (sts : List Stmt) (t : TS) : Prop where
  out : PSs X sts t
section
variable {X : Cx} {st : Stmt} {rest a b : List Stmt} {t u : TS} {c e : Expr} {tc : TT} {pos : Pos} {es : List Expr} {te : TE} {ta : TA}
theorem wss_cons (h1 : WS X st t) (h2 : WSs X rest u) : WSs X (st :: rest) (tSeq t u) := ⟨pss_cons h1.out h2.out⟩
theorem wss_one (h : WS X st t) : WSs X [st] t := ⟨pss_one h.out⟩
theorem wss_nil : WSs X [] tNext := ⟨pss_nil⟩
theorem wss {sts : List Stmt} (h : PSs X sts t) : WSs X sts t := ⟨h⟩
theorem ws_if (hc : PT X c tc) (ha : WSs X a t) (hb : WSs X b u) : WS X (.If c a b pos) (tIfS tc t u) := ⟨ps_if hc ha.out hb.out⟩
theorem ws (h : PS X st t) : WS X st t := ⟨h⟩
theorem wa_nil : WA X [] tNil := ⟨pa_nil⟩
theorem wa_cons (hn : notStarW e = true) (ha : PE X e te) (hr : WA X es ta) : WA X (e :: es) (tCons te ta) := ⟨pa_cons ha hr.out (star_consW hn)⟩
end
section
variable {P : Program} {w : World} {K : PySem.W.Frag} {mg : Str → Option Value} {base : Heap}
theorem okW {x qual : Str} {st : Stmt} {f : Addr} {fd : FuncData} {N ps : List Str} {k : Nat} {sp : Sp} (F : Fun K x qual st f fd) (S : FnScope N ps (defScope st)) (len : ∀ vs H Q E, sp vs H Q E → vs.length = ps.length)
    (hbody : ∀ (cdv : Value) (A : Around) (outer : List Env) (s : Shared) (H : Hp) (vs : List V) (Q : VK) (E : XK), Room k (A.deeper (envOfC qual (defScope st) s.heap.objs.size f cdv)) → sp vs H Q E →
      ∃ t, WSs (cxOf CX0 P w K mg base N qual (defScope st) f cdv A outer s H E).nox (defBody st) t ∧ t { nx := fun _ H' => Q .non H', rt := Q } (start N vs) H) : FnOk P w K mg base CX0 (k + 1) f fd ps sp :=
  F.ok S len fun cdv A outer s H vs Q E hr hsp => by
    obtain ⟨t, h, q⟩ := hbody cdv A outer s H vs Q E hr hsp
    exact ⟨t, h.out, q⟩
end
end L2

set_option Elab.async false
set_option linter.all false
set_option maxRecDepth 100000
set_option maxHeartbeats 4000000
namespace L2
open PySem PySem.Spec PyProof.Rows PySem.SeqAt
theorem is_kV {P : Program} {w : World} {k : Key} {u : Value} (h : (mixKind P w).is k u = true) : RelV (kV k) u := by
  rw [mixKind_is] at h
  rcases keyIs_shape h with ⟨i, t, rfl, rfl⟩ | ⟨x, t, rfl, rfl⟩
  · exact ⟨t, rfl⟩
  · exact ⟨t, rfl⟩
/-! ### a dict while a loop walks it -/
section
variable {X : Cx} {pins : List (Addr × Obj)} {σ : St} {H : Hp} {s : Shared} {a : Addr} {u v : HO} {kvs : List (Key × V)}
theorem Inv.refit (I : Inv X pins σ H s) (e : H a = some u) (h1 : ∀ xs, u ≠ .tup xs) (h2 : ∀ x, u ≠ .own x) (h3 : ∀ ps, u ≠ .tbl ps)
    (h4 : ∀ o u', X.H₀ a ≠ some (.frz o u')) (new : ObjOk X.prog X.w (upd H a v) s.heap a v) : Inv X pins σ (upd H a v) s := by
  have nn : ∀ b, H b = none → b ≠ a := fun b z q => by rw [q, e] at z; cases z
  refine ⟨I.ok, I.os, I.bare, ⟨I.base.keep, I.base.slot, fun b o q n hx => ?_, I.base.there, fun b xs q => ?_, fun b o u' q => ?_, fun b ps q => ?_⟩, I.loc, I.cell, ?_, fun x c q => ?_, fun p hp => ?_, fun b ob q => ?_, I.len⟩
  · have := I.base.free b o q n hx
    rw [upd_ne (nn b this)]; exact this
  · have z := I.base.tups b xs q
    rw [upd_ne (by rintro rfl; rw [e] at z; exact h1 xs (Option.some.inj z))]; exact z
  · have z := I.base.frzs b o u' q
    rw [upd_ne (by rintro rfl; exact h4 o u' q)]; exact z
  · obtain ⟨more, z⟩ := I.base.tbls b ps q
    exact ⟨more, by rw [upd_ne (by rintro rfl; rw [e] at z; exact h3 _ (Option.some.inj z))]; exact z⟩
  · rw [upd_ne (nn _ I.free)]; exact I.free
  · rw [upd_ne (nn _ (I.freeC x c q))]; exact I.freeC x c q
  · obtain ⟨z1, z2, z3⟩ := I.pin p hp
    exact ⟨z1, by rw [upd_ne (nn _ z2)]; exact z2, z3⟩
  · by_cases hb : b = a
    · subst hb; rw [upd_same] at q; cases q; exact new
    · rw [upd_ne hb] at q
      refine (I.hok b ob q).stay (fun _ _ _ z => z) (fun c z => ?_) fun c xs z => ?_
      · rw [upd_ne (by rintro rfl; rw [e] at z; exact h2 _ (Option.some.inj z))]; exact z
      · rw [upd_ne (by rintro rfl; rw [e] at z; exact h1 _ (Option.some.inj z))]; exact z
theorem Inv.freeze (I : Inv X pins σ H s) (e : H a = some (.dK kvs)) : ∃ o, (∀ o u', X.H₀ a ≠ some (.frz o u')) ∧ Inv X pins σ (upd H a (.frz o (.dK kvs))) s := by
  have q : ObjOk X.prog X.w H s.heap a (.dK kvs) := I.hok a _ e
  obtain ⟨z, hd, vs, r, o, es, ep, ho, rest⟩ := id q
  have hn : ∀ o u', X.H₀ a ≠ some (.frz o u') := fun o u' q => by
    have := I.base.frzs a o u' q
    rw [e] at this; cases this
  exact ⟨o, hn, I.refit e (fun _ z => nomatch z) (fun _ z => nomatch z) (fun _ z => nomatch z) hn ⟨ho, z, hd, vs, r, o, es, ep, ho, rest⟩⟩
theorem Inv.thaw {o : Obj} (I : Inv X pins σ H s) (e : H a = some (.frz o (.dK kvs))) (hn : ∀ o u', X.H₀ a ≠ some (.frz o u')) : Inv X pins σ (upd H a (.dK kvs)) s := by
  obtain ⟨_, z, hd, vs, r, q⟩ := (show ObjOk X.prog X.w H s.heap a (.frz o (.dK kvs)) from I.hok a _ e)
  exact I.refit e (fun _ z => nomatch z) (fun _ z => nomatch z) (fun _ z => nomatch z) hn ⟨z, hd, vs, r, q⟩
end
def thawD (a : Addr) (o : Obj) (kvs : List (Key × V)) (D : Ends) : Ends where
  nx := fun σ H => H a = some (.frz o (.dK kvs)) ∧ D.nx σ (upd H a (.dK kvs))
  rt := fun v H => H a = some (.frz o (.dK kvs)) ∧ D.rt v (upd H a (.dK kvs))
  bk := fun σ H => H a = some (.frz o (.dK kvs)) ∧ D.bk σ (upd H a (.dK kvs))
  ct := fun σ H => H a = some (.frz o (.dK kvs)) ∧ D.ct σ (upd H a (.dK kvs))
/-- a statement in which the dict at a stays as it is -/
def sFrz (t : TS) : TS := fun D σ H => (∃ a kvs, H a = some (.dK kvs) ∧ ∀ o, t (thawD a o kvs D) σ (upd H a (.frz o (.dK kvs)))) ∨ t D σ H
def tFrz (t : TE) : TE := fun σ H Q => (∃ a kvs, H a = some (.dK kvs) ∧ ∀ o, t σ (upd H a (.frz o (.dK kvs))) fun v H' => H' a = some (.frz o (.dK kvs)) ∧ Q v (upd H' a (.dK kvs))) ∨ t σ H Q
section
variable {X : Cx}
theorem ps_frz {st : Stmt} {t : TS} (h : PS X st t) : PS X st (sFrz t) := by
  intro pins s σ H D I q
  rcases q with ⟨a, kvs, e, q⟩ | q
  · obtain ⟨o, hn, I1⟩ := I.freeze e
    refine wpAny_mono (h pins s σ _ _ I1 (q o)) (fun f s' z => ?_) fun _ _ z => z
    cases f with
    | next => obtain ⟨σ', H', I', e', q'⟩ := z; exact ⟨σ', _, I'.thaw e' hn, q'⟩
    | brk => obtain ⟨σ', H', I', e', q'⟩ := z; exact ⟨σ', _, I'.thaw e' hn, q'⟩
    | cont => obtain ⟨σ', H', I', e', q'⟩ := z; exact ⟨σ', _, I'.thaw e' hn, q'⟩
    | ret u => obtain ⟨v, σ', H', I', r, e', q'⟩ := z; exact ⟨v, σ', _, I'.thaw e' hn, r, q'⟩
  · exact h pins s σ H D I q
theorem pe_frz {x : Expr} {t : TE} (h : PE X x t) : PE X x (tFrz t) := by
  intro pins s σ H Q I q
  rcases q with ⟨a, kvs, e, q⟩ | q
  · obtain ⟨o, hn, I1⟩ := I.freeze e
    refine wpAny_mono (h pins s σ _ _ I1 (q o)) (fun f s' z => ?_) fun _ _ z => z
    obtain ⟨v, H', I', r, e', q'⟩ := z
    exact ⟨v, _, I'.thaw e' hn, r, q'⟩
  · exact h pins s σ H Q I q
end
/-! ### d.items() -/
def VwI (v a : Addr) : HO := .ext fun h => h.IsItemsView v a
theorem vwI_ok {P : Program} {w : World} {H : Hp} {h : Heap} {v a : Addr} (x : h.IsItemsView v a) : ObjOk P w H h v (VwI v a) :=
  ⟨x, let ⟨o, e, _⟩ := x; ⟨o, e⟩, fun _ _ ⟨o, e, r⟩ k => ⟨o, k o e, r⟩⟩
theorem vwI_at {X : Cx} {pins : List (Addr × Obj)} {σ : St} {H : Hp} {s : Shared} {v a : Addr} (I : Inv X pins σ H s) (e : H v = some (VwI v a)) : s.heap.IsItemsView v a :=
  (show ObjOk X.prog X.w H s.heap v (VwI v a) from I.hok v _ e).1
def tItems (to : TE) : TE := fun σ H Q => to σ H fun x H1 => ∃ a kvs, x = .ref a ∧ Rd H1 a (.dK kvs) ∧ ∀ v, H1 v = none → Q (.ref v) (upd H1 v (VwI v a))
theorem pe_items {X : Cx} {o : Expr} {to : TE} {apos cpos : Pos} (ho : PE X o to) (hbase : attributeBase o "items" X.env (eval o X.env) = eval o X.env := by rfl) (hline : (apos.endLine == cpos.line) = true := by rfl) :
    PE X (.Call (.Attribute o "items" apos) [] [] cpos) (tItems to) := by
  intro pins s σ H Q I h
  refine wpAny_Call_method0_late hbase hline (thn (ho pins s σ H _ I h) fun v s1 ⟨x, H1, I1, r1, a, kvs, ex, hd, q1⟩ => ?_)
  subst ex
  cases r1
  obtain ⟨t1, t2, t3⟩ := isD_at I1 (.inl ⟨kvs, hd⟩)
  obtain ⟨_, _, vs, rel, dd⟩ := dk_rd I1.hok hd
  refine ⟨"dict", "dict.items", PySem.F.plainAttrs_dict, PySem.F.slot_dict_items, PySem.F.type_dict_items, t1, t2, Calls.callWith_builtin rfl (PySem.evalArgs_none ?_)⟩
  refine call_meetsIn PySem.F.slot_dict_items dd.typeIs PySem.F.entry_dict_items (PySem.F.args_dict_items_1 _) (meets_dict_items (mixKind X.prog X.w) a t3) ⟨⟨vs, dd⟩, ?_⟩
  exact ⟨.ref s1.heap.objs.size, _, I1.laid (o := VwI s1.heap.objs.size a) (t' := s1.toks) (fun b o e => Heap.get?_push_of_some _ e) (Nat.le_refl _) (vwI_ok ⟨_, Heap.get?_push_size _ rfl, rfl, rfl⟩), rfl, q1 _ (I1.hok.fresh (Nat.le_refl _))⟩
/-- the frozen dict as it lies -/
theorem frz_at {X : Cx} {pins : List (Addr × Obj)} {σ : St} {H : Hp} {s : Shared} {a : Addr} {o : Obj} {kvs : List (Key × V)} (I : Inv X pins σ H s) (e : H a = some (.frz o (.dK kvs))) :
    ∃ vs es ep, KV kvs vs ∧ kvs.length ≤ sizeLine ∧ (a == sysModules) = false ∧ o.data = .dict es ep ∧ es.size = kvs.length ∧ s.heap.DictAt (mixKind X.prog X.w) a vs ep := by
  obtain ⟨ho, z, hd, vs, r, o', es, ep, ho', ex, hdat, hk, hp, hn⟩ := (show ObjOk X.prog X.w H s.heap a (.frz o (.dK kvs)) from I.hok a _ e)
  rw [ho] at ho'; cases ho'
  refine ⟨vs, es, ep, r, z, hd, hdat, ?_, o, es, ho, ex, hdat, hk, hp, hn⟩
  rw [r.length, ← hp.length]; simp
theorem KV.get {κ : Type} : ∀ {kvs : List (κ × V)} {vs : List (κ × Value)} {i : Nat} {k : κ} {v : V}, KV kvs vs → kvs[i]? = some (k, v) → ∃ u, vs[i]? = some (k, u) ∧ RelV v u
  | _, _, _, _, _, .nil, e => by simp at e
  | _, _, 0, k, v, .cons (a := p) (b := q) r _, e => by
    simp at e; subst e
    obtain ⟨e1, r⟩ := r
    obtain ⟨q1, q2⟩ := q
    cases e1
    exact ⟨q2, rfl, r⟩
  | _, _, i + 1, k, v, .cons _ t, e => by
    obtain ⟨u, h1, h2⟩ := KV.get (i := i) (k := k) (v := v) t (by simpa using e)
    exact ⟨u, by simpa using h1, h2⟩
/-- the pairs of the frozen dict at a -/
def Itd (o : Obj) (a : Addr) : It :=
  ⟨fun i H => ∃ kvs p, H a = some (.frz o (.dK kvs)) ∧ kvs[i]? = some p, fun i H y H' => ∃ p k v, H p = none ∧ y = .ref p ∧ H' = upd H p (.tup [kV k, v]) ∧ ∀ kvs, H a = some (.frz o (.dK kvs)) → kvs[i]? = some (k, v),
    fun i H => ∃ kvs, H a = some (.frz o (.dK kvs)) ∧ kvs.length ≤ i⟩
theorem dat_inj {o : Obj} {es es' : Array DictEntry} {ep ep' : Nat} (h : o.data = .dict es ep) (h' : o.data = .dict es' ep') : es = es' ∧ ep = ep' := by
  rw [h] at h'; cases h'; exact ⟨rfl, rfl⟩
theorem turn_items {P : Program} {w : World} {K : PySem.W.Frag} {xs : List Expr} {x1} {pos : Pos} (a it : Addr) (o : Obj) (es : Array DictEntry) (ep : Nat) (hdat : o.data = .dict es ep) :
    Turn P w K (.Tuple xs x1 pos) (Itd o a) [it] it (fun i h => ∃ ok ov, IsItemIter h it a i es.size ep ok ov) where
  mem := by simp
  obj := fun i h st b hb => by
    have e : b = it := by simpa using hb
    subst e
    obtain ⟨ok, ov, st⟩ := st
    exact ⟨_, st, fun v z => nomatch z⟩
  keep := fun i h h' st k => by
    obtain ⟨ok, ov, st⟩ := st
    exact ⟨ok, ov, k it (by simp) _ st⟩
  item := by
    intro X hP hw hK hc i pins s σ H E I hf st hg
    subst hP hw hK
    obtain ⟨ok, ov, st⟩ := st
    obtain ⟨kvs, ⟨k, v⟩, hq, hx⟩ := hg
    obtain ⟨vs, es', ep', r, _, _, hdat', hsz, da⟩ := frz_at I hq
    obtain ⟨rfl, rfl⟩ := dat_inj hdat hdat'
    obtain ⟨u, hu, ru⟩ := r.get hx
    have st' : IsItemIter s.heap it a i vs.length ep ok ov := by rw [← r.length, ← hsz]; exact st
    refine wpAny_pyNext_items_item st' da hu fun key h' hkey ho ht hz hk => ?_
    refine ⟨_, rfl, wpAny_letOwnedTupleGo_items ho fun h'' he hs => ?_⟩
    have lt : it < s.heap.objs.size := Heap.lt_size st
    have live : ∀ b ∈ [it], b < s.heap.objs.size := fun b hb => by
      have e : b = it := by simpa using hb
      rw [e]; exact lt
    have hsz' : s.heap.objs.size ≠ it := Nat.ne_of_gt lt
    have fresh : H s.heap.objs.size = none := I.hok.fresh (Nat.le_refl _)
    refine ⟨.ref s.heap.objs.size, _, I.pairOut (fp := [it]) (tk := s.toks) hf (fun b o hb q => ?_) ((hs.2 _ hsz').trans ht) live (fun b hb => ?_) (is_kV hkey) ru, rfl, ⟨s.heap.objs.size, k, v, fresh, rfl, rfl, fun kvs' h' => ?_⟩, ⟨key, u, ?_⟩, fun b hb => ?_⟩
    · have hb : b ≠ it := by simpa using hb
      exact (hs.2 b hb).trans (hk b o hb q)
    · have e : b = it := by simpa using hb
      rw [e]; exact ⟨_, he⟩
    · rw [hq] at h'; cases h'; exact hx
    · rw [hsz, r.length]; exact he
    · rw [upd_ne (Nat.ne_of_lt (live b hb))]
      exact (hf b hb).1
  done := by
    intro X hP hw hK hc i pins s σ H E I hf st hg
    subst hP hw hK
    obtain ⟨ok, ov, st⟩ := st
    obtain ⟨kvs, hq, hx⟩ := hg
    obtain ⟨vs, es', ep', r, _, _, hdat', hsz, da⟩ := frz_at I hq
    obtain ⟨rfl, rfl⟩ := dat_inj hdat hdat'
    have st' : IsItemIter s.heap it a i vs.length ep ok ov := by rw [← r.length, ← hsz]; exact st
    obtain ⟨f0, f1, f2, f3, f4, f5⟩ := hf it (by simp)
    exact wpAny_pyNext_items_end (I.ok.hd hc) st' da (List.getElem?_eq_none (by rw [← r.length]; exact hx)) fun h' eb => ⟨rfl, I.turned (t' := s.toks) (fun b o hb q => eb b o hb q) f0 f1 f3 f4 f5⟩
  self := fun _ _ _ _ _ st h => by
    obtain ⟨ok, ov, st⟩ := st
    exact PySem.W.kcp_self st h
section
variable {X : Cx}
def iItems (tl : TE) : TI := fun σ H R => tl σ H fun x H1 => ∃ v a o kvs, x = .ref v ∧ H1 v = some (VwI v a) ∧ H1 a = some (.frz o (.dK kvs)) ∧ R (Itd o a) H1
theorem pi_items {xs : List Expr} {x1} {tpos : Pos} {l : Expr} {tl : TE} (hl : PE X l tl) : PI X (.Tuple xs x1 tpos) l (iItems tl) := by
  intro pins s σ H R I h
  refine thn (hl pins s σ H _ I h) fun v s1 ⟨x, H1, I1, r1, vw, a, o, kvs, e, hv, hq, q⟩ => ?_
  subst e
  cases r1
  obtain ⟨vs, es, ep, r, _, _, hdat, hsz, da⟩ := frz_at I1 hq
  refine wpAny_pyIter_items (vwI_at I1 hv) da ?_
  refine ⟨s1.heap.objs.size, [s1.heap.objs.size], _, _, H1, rfl, I1.kept (t' := s1.toks) fun b o e => Heap.get?_push_of_some _ e, turn_items a _ o es ep hdat, ⟨.none, .none, ?_⟩, fun b hb => ?_, q⟩
  · rw [hsz, r.length]; exact Heap.get?_push_size _ rfl
  · have e : b = s1.heap.objs.size := by simpa using hb
    subst e
    exact I1.fpOk (Nat.le_refl _) (I1.hok.fresh (Nat.le_refl _))
end
/-! ### the forms one uses -/
theorem for_items {o : Obj} {a : Addr} {kvs : List (Key × V)} {g : TG} {tb : TS} {D : Ends} {σ : St} {H : Hp} (Pv : Nat → St → Hp → Prop) (h0 : Pv 0 σ H) (hl : ∀ i σ H, i ≤ kvs.length → Pv i σ H → H a = some (.frz o (.dK kvs)))
    (hs : ∀ i k v p σ H, kvs[i]? = some (k, v) → Pv i σ H → H p = none → g (.ref p) σ (upd H p (.tup [kV k, v])) fun σ2 H2 => tb { D with nx := Pv (i + 1), ct := Pv (i + 1), bk := D.nx } σ2 H2) (hd : ∀ σ H, Pv kvs.length σ H → D.nx σ H) :
    ∃ W : Nat → Nat → St → Hp → Prop, (∃ m, W 0 m σ H) ∧ ∀ i m σ H, W i m σ H →
      ((Itd o a).stop i H ∧ D.nx σ H) ∨ ((Itd o a).go i H ∧ ∃ N : St → Hp → Prop, (∀ σ' H', N σ' H' → ∃ m', m' < m ∧ W (i + 1) m' σ' H') ∧ ∀ x H', (Itd o a).yld i H x H' → g x σ H' fun σ2 H2 => tb { D with nx := N, ct := N, bk := D.nx } σ2 H2) := by
  refine ⟨fun i m σ H => m = kvs.length - i ∧ i ≤ kvs.length ∧ Pv i σ H, ⟨kvs.length, by simp, Nat.zero_le _, h0⟩, ?_⟩
  rintro i m σ H ⟨rfl, hi, p⟩
  have q := hl i σ H hi p
  by_cases hlt : i < kvs.length
  · refine .inr ⟨⟨kvs, kvs[i], q, List.getElem?_eq_getElem hlt⟩, Pv (i + 1), fun σ' H' z => ⟨kvs.length - (i + 1), by omega, rfl, hlt, z⟩, fun x H' y => ?_⟩
    obtain ⟨pa, k, v, hp, e1, e2, y⟩ := y
    subst e1 e2
    exact hs i k v pa σ H (y kvs q) p hp
  · obtain rfl : i = kvs.length := by omega
    exact .inl ⟨⟨kvs, q, Nat.le_refl _⟩, hd σ H p⟩
/-! ### dict comprehensions -/
section
variable {prog : Program} {w : World} {A : Around} {R : Result → Shared → Prop} {s : Shared}
theorem codeAny_compLoop_goD {kx vx target iter : Expr} {ifs : List Expr} {scope : Scope} {pos : Pos} {it : Value} {D : Addr} {env : Env} (I : Nat → Shared → Prop)
    (turn : ∀ n s, I n s → wpAny (model prog w) A (pyNext it) (fun r s₁ => match r with
      | none => R (.ok .next) s₁
      | some v => wpAny (model prog w) A (letOwnedTupleGo target it v) (fun _ s₁' => wpAny (model prog w) A (assign target env v) (fun _ s₂ =>
          wpAny (model prog w) A (forIn ifs true fun c r => if r = true then do let ok ← isTrue c env (eval c env); pure (ForInStep.yield ok) else pure (ForInStep.yield r)) (fun ok s₃ =>
            if ok = true then wpAny (model prog w) A (eval kx env) (fun kv s₄ => wpAny (model prog w) A (eval vx env) (fun vv s₅ =>
              wpAny (model prog w) A (dictSet D kv vv) (fun _ s₆ => ∃ m, m < n ∧ I m s₆) (fun _ _ => False) s₅) (fun _ _ => False) s₄) (fun _ _ => False) s₃
            else ∃ m, m < n ∧ I m s₃) (fun _ _ => False) s₂) (fun _ _ => False) s₁') (fun _ _ => False) s₁) (fun _ _ => False) s)
    (n : Nat) (h : I n s) :
    codeAny (model prog w) A (.compLoop (.DictComp kx vx [⟨target, iter, ifs, 0⟩] scope pos) 0 it (.ref D) env) R s := by
  refine codeAny_loop rfl I (fun n s hI => ?_) n h
  show wpAny _ A ((compTurn (.DictComp kx vx [⟨target, iter, ifs, 0⟩] scope pos) 0 it (.ref D) env).onRaise (fun x => do noteFrame x env; theTreesLotGoes x)) _ _ s
  refine wpAny_noted ?_
  rw [compTurn_dict]
  refine wpAny_bind (wpAny_standAt (wpAny_bind (wpAny_mono (turn n s hI) (fun r s₁ h₁ => ?_) fun _ _ h' => h'.elim)))
  cases r with
  | none => exact wpAny_pure h₁
  | some v =>
    refine wpAny_bind (wpAny_mono h₁ (fun _ s₁' h₁ => ?_) fun _ _ h' => h'.elim)
    refine wpAny_bind (wpAny_mono h₁ (fun _ s₂ h₂ => wpAny_bind (wpAny_mono h₂ (fun ok s₃ h₃ => ?_) fun _ _ h' => h'.elim)) fun _ _ h' => h'.elim)
    cases ok with
    | false => exact wpAny_pure ⟨rfl, h₃⟩
    | true =>
      exact wpAny_bind (wpAny_bind (wpAny_mono h₃ (fun kv s₄ h₄ => wpAny_bind (wpAny_holding (wpAny_mono h₄ (fun vv s₅ h₅ => wpAny_bind (wpAny_standAt (wpAny_holding (wpAny_mono h₅ (fun _ s₆ h₆ => wpAny_pure ⟨rfl, h₆⟩) fun _ _ h' => h'.elim)))) fun _ _ h' => h'.elim))) fun _ _ h' => h'.elim))
end
section
variable {X : Cx} {pins : List (Addr × Obj)} {σ : St} {H H' : Hp} {s s' : Shared} {scope : Scope} {own : List Str} {js : List Nat} {C : Addr} {fp : List Addr}
/-- the block's state at its start -/
theorem blk_startG {ob : HO} {acc : Addr} {m : Str → Option Value} {tk : Nat} {h' : Heap} (c : CompOk X scope own js) (I : Inv X pins σ H s) (hC : s.heap.objs.size ≤ C) (hf : ∀ b ∈ fp, FpOk X pins H b) (ho : ∀ b ∈ fp, ∃ o, s.heap.get? b = some o)
    (hn : h'.Ns C m) (k : ∀ b u, s.heap.get? b = some u → h'.get? b = some u) (hacc : s.heap.objs.size ≤ acc) (haC : acc ≠ C) (new : ObjOk X.prog X.w (upd H acc ob) h' acc ob) :
    Inv (X.blk scope own js s H C fp pins) [] (blkσ own js σ) (upd H acc ob) { s with heap := h', toks := tk } := by
  have ok := blk_ok c I hC hf ho
  have fresh : ∀ {a : Addr}, s.heap.objs.size ≤ a → H a = none := fun h => I.hok.fresh h
  have neA : ∀ b o, s.heap.get? b = some o → b ≠ acc := fun b o e => Nat.ne_of_lt (Nat.lt_of_lt_of_le (Heap.lt_size e) hacc)
  refine ⟨ok, rfl, I.bare, Un.laid k hacc (fresh hacc), ⟨m, hn, fun i x v e1 e2 e3 => ?_⟩, fun x a e => ?_, ?_, fun x a e => ?_, fun p hp => ?_, I.hok.laid k hacc new, blk_len own js σ X⟩
  · -- an outer name
    have hi : own.length ≤ i := by
      refine Nat.le_of_not_lt fun hi => ?_
      unfold blkσ at e2
      rw [List.getElem?_append_left (by simpa using hi), List.getElem?_map] at e2
      cases q : own[i]? with
      | none => rw [q] at e2; cases e2
      | some z => rw [q] at e2; cases e2
    have e1' : (js.map fun j => X.N.getD j Str.empty)[i - own.length]? = some x := by
      have e1 : (own ++ js.map fun j => X.N.getD j Str.empty)[i]? = some x := e1
      rwa [List.getElem?_append_right hi] at e1
    have e2' : (js.map fun j => (σ[j]?).join)[i - own.length]? = some (some v) := by
      unfold blkσ at e2
      rw [List.getElem?_append_right (by simpa using hi)] at e2
      simpa using e2
    rw [List.getElem?_map] at e1' e2'
    cases q : js[i - own.length]? with
    | none => rw [q] at e1'; cases e1'
    | some j =>
      rw [q] at e1' e2'
      obtain ⟨x', hx', hfree⟩ := c.out j (List.mem_of_getElem? q)
      have ex : x' = x := by
        have : X.N.getD j Str.empty = x := Option.some.inj e1'
        rw [List.getD_eq_getElem?_getD, hx'] at this
        exact this
      subst ex
      have eσ : σ[j]? = some (some v) := by
        have e2'' : (σ[j]?).join = some v := Option.some.inj e2'
        cases r : σ[j]? with
        | none => rw [r] at e2''; cases e2''
        | some z => rw [r] at e2''; cases z with
          | none => cases e2''
          | some y => cases e2''; rfl
      have hmem : (x', NameKind.free) ∈ scope.names := PySem.mem_of_lookup hfree
      have hkX := c.free _ hmem rfl
      have vis : Vis X.env.scope x' := by
        rcases hkX with z | z
        · exact .inr (.inl z)
        · exact .inr (.inr z)
      obtain ⟨m0, hn0, hl0⟩ := I.loc
      obtain ⟨u, r, l⟩ := hl0 j x' v hx' eσ vis
      refine ⟨u, r, .inr ⟨relabel_free hfree, ?_⟩⟩
      obtain ⟨a, ha⟩ := cl_has (env := X.env) scope.names [] hmem
      refine ⟨a, ha, ?_⟩
      have haX := c.look I ha
      rcases l with ⟨z, _⟩ | ⟨_, a', ha', ⟨o, ho', hd⟩⟩
      · have z : X.env.kindOf x' = some .local := z
        rcases hkX with y | y
        · have y : X.env.kindOf x' = some .cell := y
          rw [z] at y; cases y
        · have y : X.env.kindOf x' = some .free := y
          rw [z] at y; cases y
      · rw [haX] at ha'; cases ha'
        exact ⟨o, k _ o ho', hd⟩
  · obtain ⟨v, o, ho', hd⟩ := I.cell x a (c.look I e)
    exact ⟨v, o, k _ o ho', hd⟩
  · show upd H acc ob C = none
    rw [upd_ne (Ne.symm haC)]
    exact fresh hC
  · have e' := c.look I e
    obtain ⟨v, o, ho', hd⟩ := I.cell x a e'
    rw [upd_ne (neA a o ho')]
    exact I.freeC x a e'
  · have hp : p ∈ X.pn ++ pins := by simpa [Cx.blk] using hp
    obtain ⟨e, n, ne, nf, d⟩ := I.pin p hp
    refine ⟨k _ _ e, by rw [upd_ne (neA _ _ e)]; exact n, Nat.ne_of_lt (Nat.lt_of_lt_of_le (Heap.lt_size e) hC), fun z => ?_, d⟩
    rcases List.mem_cons.mp (I.stkSub _ z) with q | q
    · exact ne q
    · exact nf q
end
theorem d_dictSet {X : Cx} {pins : List (Addr × Obj)} {σ : St} {H : Hp} {s : Shared} {a : Addr} {kvs : List (Key × V)} {k : Key} {v : V} {u r : Value} {A : Around} {E : Value → Shared → Prop} {Q : Unit → Shared → Prop} (I : Inv X pins σ H s) (e : H a = some (.dK kvs)) (l : kvs.length < sizeLine) (ry : RelV (kV k) u) (rv : RelV v r) (h : ∀ s', Inv X pins σ (upd H a (.dK (putK kvs k v))) s' → Q () s') :
    wpAny (model X.prog X.w) A (dictSet a u r) Q E s := by
  obtain ⟨z, hd, vs, rel, dd⟩ := dk_of I.hok e
  have hz : vs.length ≤ sizeLine := by rw [← rel.length]; exact z
  have hl : (putK kvs k v).length ≤ sizeLine := by have := length_putK kvs k v; omega
  refine wpAny_dictSet_pairs (hsz := hz) (kV_is ry) dd fun h' dd' hs => h _ ?_
  have he : ∃ q, h'.get? a = some q := let ⟨q, _, _, hq, _⟩ := dd'; ⟨q, hq⟩
  exact d_write I (by rw [e]; exact True.intro) hs he (dk_new hl hd (rel.put k rv) dd')
/-- {k: v for target in iter if ..} -/
def tDCompW (own : List Str) (js : List Nat) (g : TG) (tt : TT) (tk tv : TE) (σ : St) (J : It) (H1 : Hp) (Q : VK) : Prop :=
  ∀ acc, H1 acc = none → ∃ (W : Nat → Hp → Prop) (n : Nat), W 0 (upd H1 acc (.dK [])) ∧ ∀ i H2, W i H2 →
    (J.stop i H2 ∧ Q (.ref acc) H2) ∨ (i < n ∧ J.go i H2 ∧ ∀ x H3, J.yld i H2 x H3 → g x (blkσ own js σ) H3 fun τ H4 => tt τ H4 fun c H5 =>
      if c = true then tk τ H5 fun y H6 => tv τ H6 fun z H7 => ∃ k kvs, y = kV k ∧ H7 acc = some (.dK kvs) ∧ kvs.length < sizeLine ∧ W (i + 1) (upd H7 acc (.dK (putK kvs k z))) else W (i + 1) H5)
def tDComp (own : List Str) (js : List Nat) (wi : TI) (g : TG) (tt : TT) (tk tv : TE) : TE := fun σ H Q => wi σ H fun J H1 => tDCompW own js g tt tk tv σ J H1 Q
section
variable {X : Cx} {scope : Scope} {own : List Str} {js : List Nat} {kx vx iter target : Expr} {ifs : List Expr} {wi : TI} {g : TG} {tt : TT} {tk tv : TE} {pos : Pos}
/-- the block runs -/
theorem blk_runD {pins : List (Addr × Obj)} {σ : St} {H2 : Hp} {s₂ : Shared} {it : Addr} {fp : List Addr} {tn : Nat → Heap → Prop} {J : It} {Q : VK} {E : Value → Shared → Prop} {RR : Value → Addr → Result → Shared → Prop}
    (c : CompOk X scope own js) (hc : X.calm = true) (hgk : GKeep own g)
    (hg : ∀ s H C fp pins, PG (X.blk scope own js s H C fp pins) target g) (ht : ∀ s H C fp pins, PTs (X.blk scope own js s H C fp pins) ifs tt) (hk : ∀ s H C fp pins, PE (X.blk scope own js s H C fp pins) kx tk) (hv : ∀ s H C fp pins, PE (X.blk scope own js s H C fp pins) vx tv)
    (I : Inv X pins σ H2 s₂) (T : Turn X.prog X.w X.K target J fp it tn) (st : tn 0 s₂.heap) (hf : ∀ b ∈ fp, FpOk X pins H2 b) (h : tDCompW own js g tt tk tv σ J H2 Q)
    (hRR : ∀ acc C H' s' m, s₂.heap.objs.size ≤ C → H' C = none → Inv X pins σ H' s' → s'.heap.Ns C m → Q (.ref acc) H' → RR (.ref acc) C (.ok .next) s') :
    wpAny (model X.prog X.w) X.A newDict (fun acc s₃ => wpAny (model X.prog X.w) X.A (newFunctionEnv scope X.env.globals (clOf scope X.env) [] X.env.qual none .none (some X.env)) (fun cenv s₄ =>
      codeAny (model X.prog X.w) X.A (.compStart (.DictComp kx vx [⟨target, iter, ifs, 0⟩] scope pos) 0 (.ref it) acc { cenv with scope := relabel scope X.env }) (RR acc cenv.locals) s₄) E s₃) E s₂ := by
  refine wpAny_newObj_type (wpAny_newFunctionEnv c.cell (by intro y hy; simp at hy) (fun h₁ hns₁ hsb₁ => ?_) c.kind)
  dsimp only at hns₁ hsb₁ ⊢
  generalize hH2 : s₂.heap.push { cls := .type "dict", dict := none, data := .dict #[] } = G2 at hns₁ hsb₁ ⊢
  have hC : G2.objs.size = s₂.heap.objs.size + 1 := by rw [← hH2, Heap.size_push]
  have hDC : s₂.heap.objs.size ≠ G2.objs.size := by rw [hC]; exact Nat.ne_of_lt (Nat.lt_succ_self _)
  have hCle : s₂.heap.objs.size ≤ G2.objs.size := by rw [hC]; exact Nat.le_succ _
  have old : ∀ b o, s₂.heap.get? b = some o → h₁.get? b = some o := fun b o e => hsb₁.extBut b o (Nat.ne_of_lt (Nat.lt_of_lt_of_le (Heap.lt_size e) hCle)) (Heap.get?_push_of_some _ (hH2 ▸ Heap.get?_push_of_some _ e))
  have hacc : ObjOk X.prog X.w (upd H2 s₂.heap.objs.size (.dK [])) h₁ s₂.heap.objs.size (.dK []) := by
    refine (dk_empty (H := upd H2 s₂.heap.objs.size (.dK [])) s₂.heap I.big).stay (h' := h₁) (fun b u hb e => ?_) (fun _ q => q) fun _ _ q => q
    have hb' : b ≠ G2.objs.size := by
      have := Heap.lt_size e
      rw [hC]
      rw [Heap.size_push] at this
      exact Nat.ne_of_lt this
    exact hsb₁.extBut _ _ hb' (Heap.get?_push_of_some _ (hH2 ▸ e))
  have ho2 : ∀ b ∈ fp, ∃ o, s₂.heap.get? b = some o := fun b hb => let ⟨o, e, _⟩ := T.obj 0 _ st b hb; ⟨o, e⟩
  have I0 : ∀ tk, Inv (X.blk scope own js s₂ H2 G2.objs.size fp pins) [] (blkσ own js σ) (upd H2 s₂.heap.objs.size (.dK [])) { s₂ with heap := h₁, toks := tk } := fun tk =>
    blk_startG c I hCle hf ho2 hns₁ old (Nat.le_refl _) hDC hacc
  obtain ⟨W, nn, w0, turn⟩ := h s₂.heap.objs.size (I.hok.fresh (Nat.le_refl _))
  generalize hacc' : s₂.heap.objs.size = acc at *
  generalize hGC : G2.objs.size = C at *
  have st1 : tn 0 h₁ := T.keep 0 _ _ st fun b _ o e => old b o e
  have fOk : ∀ {H' : Hp}, (∀ b ∈ fp, H' b = none) → ∀ b ∈ fp, FpOk (X.blk scope own js s₂ H2 C fp pins) [] H' b := fun hn b hb => by
    obtain ⟨f0, f1, f2, f3, f4, f5⟩ := hf b hb
    obtain ⟨o, e⟩ := ho2 b hb
    refine ⟨hn b hb, Nat.ne_of_lt (Nat.lt_of_lt_of_le (Heap.lt_size e) (by rw [← hacc'] at hCle; exact hCle)), fun z => ?_, .inl hb, fun x a h => f4 x a (c.look I h), fun p hp => f5 p (by simpa [Cx.blk] using hp)⟩
    rcases List.mem_cons.mp (I.stkSub b z) with q | q
    · exact f1 q
    · exact f2 q
  have loop : ∀ s₃ : Shared, s₃ = { s₂ with heap := h₁, toks := s₂.toks + ([] : List (Str × Value)).length } →
      codeAny (model X.prog X.w) X.A (.compLoop (.DictComp kx vx [⟨target, iter, ifs, 0⟩] scope pos) 0 (.ref it) (.ref acc) (compEnvC scope (clOf scope X.env) C X.env)) (RR (.ref acc) C) s₃ := by
    rintro s₃ rfl
    refine codeAny_compLoop_goD (fun n s' => ∃ i H', n = nn - i ∧ Inv (X.blk scope own js s₂ H2 C fp pins) [] (blkσ own js σ) H' s' ∧ tn i s'.heap ∧ (∀ b ∈ fp, H' b = none) ∧ W i H') ?_ nn ⟨0, _, rfl, I0 _, st1, fun b hb => ?_, w0⟩
    · rintro n s3 ⟨i, H3, en, I3, st3, fr3, w3⟩
      rcases turn i H3 w3 with ⟨stop, qn⟩ | ⟨hin, go, step⟩
      · refine thn (T.done (X.blk scope own js s₂ H2 C fp pins) rfl rfl rfl hc i [] s3 _ H3 (fun _ _ => False) I3 (fOk fr3) st3 stop) fun r s4 ⟨hr, I4⟩ => ?_
        subst hr
        obtain ⟨m, hn, _⟩ := I4.loc
        exact hRR acc C H3 s4 m hCle I4.free (blk_end I hf I4) hn qn
      · refine thn (T.item (X.blk scope own js s₂ H2 C fp pins) rfl rfl rfl hc i [] s3 _ H3 (fun _ _ => False) I3 (fOk fr3) st3 go) fun r s4 ⟨u, hr, h4⟩ => ?_
        subst hr
        refine thn h4 fun _ s5 ⟨x, H5, I5, r5, y5, st5, fr5⟩ => ?_
        have I5' := I5.pinned (fOk fr5) (T.obj _ _ st5)
        have again : ∀ {σ7 : St} {H7 : Hp} {s7 : Shared}, Inv (X.blk scope own js s₂ H2 C fp pins) ([] ++ pinsAt fp s5.heap) σ7 H7 s7 → (∀ (j : Nat) v, (blkσ own js σ)[j]? = some (some v) → σ7[j]? = some (some v)) → W (i + 1) H7 →
            ∃ m, m < n ∧ ∃ i H', m = nn - i ∧ Inv (X.blk scope own js s₂ H2 C fp pins) [] (blkσ own js σ) H' s7 ∧ tn i s7.heap ∧ (∀ b ∈ fp, H' b = none) ∧ W i H' := fun {σ7 H7 s7} I7 hw w7 => by
          refine ⟨nn - (i + 1), by omega, i + 1, H7, rfl, (I7.unpinned).weak ((blk_len own js σ X).trans I7.len.symm) hw, T.keep _ _ _ st5 fun b hb o e => (I7.pin (b, o) (List.mem_append_right _ (List.mem_append_right _ (mem_pinsAt hb e)))).1, fun b hb => ?_, w7⟩
          obtain ⟨o, e, d⟩ := T.obj _ _ st5 b hb
          exact (I7.pin (b, o) (List.mem_append_right _ (List.mem_append_right _ (mem_pinsAt hb e)))).2.1
        refine thn (hg s₂ H2 C fp pins _ s5 _ H5 x u _ I5' r5 (hgk _ _ _ _ _ (step x H5 y5))) fun _ s6 ⟨σ6, H6, I6, kp, q6⟩ => ?_
        refine thn (ht s₂ H2 C fp pins _ s6 σ6 H6 _ I6 q6) fun ok s7 ⟨H7, I7, q7⟩ => ?_
        cases ok with
        | false =>
          exact again I7 kp q7
        | true =>
          refine thn (hk s₂ H2 C fp pins _ s7 σ6 H7 _ I7 q7) fun y s8 ⟨v, H8, I8, r8, q8⟩ => ?_
          refine thn (hv s₂ H2 C fp pins _ s8 σ6 H8 _ I8 q8) fun z s9 ⟨zv, H9, I9, r9, k, kvs, ek, hl, hz, w9⟩ => ?_
          subst ek
          exact d_dictSet (X := X.blk scope own js s₂ H2 C fp pins) I9 hl hz r8 r9 fun s10 I10 => again I10 kp w9
    · rw [upd_ne ?_]
      · exact (hf b hb).1
      · obtain ⟨o, e⟩ := ho2 b hb
        rw [← hacc']
        exact Nat.ne_of_lt (Heap.lt_size e)
  exact codeAny_compStart_dict (loop _ rfl) (T.self _ 0 _ _ _ st1 (loop _ rfl))
/-- the comprehension as a value -/
theorem pe_dcomp (c : CompOk X scope own js) (hc : X.calm = true) (hi : PI X target iter wi) (hgk : GKeep own g)
    (hg : ∀ s H C fp pins, PG (X.blk scope own js s H C fp pins) target g) (ht : ∀ s H C fp pins, PTs (X.blk scope own js s H C fp pins) ifs tt) (hk : ∀ s H C fp pins, PE (X.blk scope own js s H C fp pins) kx tk) (hv : ∀ s H C fp pins, PE (X.blk scope own js s H C fp pins) vx tv)
    (hs : ∀ x, foldedSetIterable iter X.env x = pure x := by intro _; rfl) : PE X (.DictComp kx vx [⟨target, iter, ifs, 0⟩] scope pos) (tDComp own js wi g tt tk tv) := by
  intro pins s σ H Q I h
  rw [arm_eval_DictComp]
  refine wpAny_comprehension_free (use := none) rfl hs (closure_cl (c.cl I)) c.kind c.names (thn (hi pins s σ H _ I h) fun v s1 h1 => thn h1 fun itv s2 h2 => ?_)
  obtain ⟨it, fp, tn, J, H2, e, I2, T, st2, f2, hw⟩ := h2
  subst e
  refine blk_runD (RR := fun acc C => compPost (model X.prog X.w) X.A X.xe none (EP X pins σ Q) acc C) c hc hgk hg ht hk hv I2 T st2 f2 hw ?_
  intro acc C H' s' m hCs hCn I' hn q
  refine ⟨m, hn, fun h' hs' => ⟨.ref acc, H', I'.other hs' hCn ?_ ?_ ?_ ?_, rfl, q⟩⟩
  · exact Nat.ne_of_gt (Nat.lt_of_lt_of_le I2.lt hCs)
  · exact Nat.le_trans I2.sz hCs
  · intro x a e z
    obtain ⟨v, q⟩ := I2.cell x a e
    exact absurd (Nat.lt_of_lt_of_le q.lt (by rw [z]; exact hCs)) (Nat.lt_irrefl _)
  · intro p hp z
    exact absurd (Nat.lt_of_lt_of_le (Heap.lt_size (I2.pin p hp).1) (by rw [z]; exact hCs)) (Nat.lt_irrefl _)
end
theorem dcomp_items {o : Obj} {own : List Str} {js : List Nat} {g : TG} {tt : TT} {tk tv : TE} {σ : St} {H1 : Hp} {Q : VK} {a : Addr} {kvs : List (Key × V)} (Pv : Addr → Nat → Hp → Prop) (h0 : ∀ acc, H1 acc = none → Pv acc 0 (upd H1 acc (.dK []))) (hl : ∀ acc i H, H1 acc = none → i ≤ kvs.length → Pv acc i H → H a = some (.frz o (.dK kvs)))
    (hs : ∀ acc i k v p H, H1 acc = none → kvs[i]? = some (k, v) → Pv acc i H → H p = none → g (.ref p) (blkσ own js σ) (upd H p (.tup [kV k, v])) fun τ H4 => tt τ H4 fun c H5 =>
      if c = true then tk τ H5 fun y H6 => tv τ H6 fun z H7 => ∃ k kvs', y = kV k ∧ H7 acc = some (.dK kvs') ∧ kvs'.length < sizeLine ∧ (i + 1 ≤ kvs.length ∧ Pv acc (i + 1) (upd H7 acc (.dK (putK kvs' k z)))) else (i + 1 ≤ kvs.length ∧ Pv acc (i + 1) H5))
    (hd : ∀ acc H, H1 acc = none → Pv acc kvs.length H → Q (.ref acc) H) : tDCompW own js g tt tk tv σ (Itd o a) H1 Q := by
  intro acc hacc
  refine ⟨fun i H => i ≤ kvs.length ∧ Pv acc i H, kvs.length, ⟨Nat.zero_le _, h0 acc hacc⟩, ?_⟩
  rintro i H ⟨hi, p⟩
  have q := hl acc i H hacc hi p
  by_cases hlt : i < kvs.length
  · refine .inr ⟨hlt, ⟨kvs, kvs[i], q, List.getElem?_eq_getElem hlt⟩, fun x H' y => ?_⟩
    obtain ⟨pa, k, v, hp, e1, e2, y⟩ := y
    subst e1 e2
    exact hs acc i k v pa _ hacc (y kvs q) p hp
  · obtain rfl : i = kvs.length := by omega
    exact .inl ⟨⟨kvs, q, Nat.le_refl _⟩, hd acc H hacc p⟩
/-- dict(d) -/
theorem call_dictOf {X : Cx} : CallR X (.type "dict") (fun xs H Q => ∃ a kvs, xs = [.ref a] ∧ Rd H a (.dK kvs) ∧ ∀ p, H p = none → Q (.ref p) (upd H p (.dK kvs))) := by
  intro pins s σ H xs us Q I r h
  obtain ⟨a, kvs, rfl, e, q⟩ := h
  obtain ⟨u, rfl, r1⟩ := vals1 r
  cases r1
  exact d_copyOf I e fun p s' hp I' => ⟨.ref p, _, I', rfl, q p hp⟩
end L2

set_option Elab.async false
set_option linter.all false
set_option maxRecDepth 100000
set_option maxHeartbeats 4000000
namespace L2
open PySem PyProof.Rows
/-! ### sorting any number of things: runs and merges -/
/-- an order with the key of each thing -/
structure KO extends KeyOrd where
  ky : Keyed → α
namespace KO
variable {O : KO} {x y z : Keyed}
def le (O : KO) (x y : Keyed) : Prop := O.blt (O.ky y) (O.ky x) = false
theorem le_refl : O.le x x := O.irrefl _
abbrev Srt (O : KO) (l : List Keyed) : Prop := l.Pairwise O.le
end KO
section
variable {prog : Program} {w : World} {A : Around} {E : Value → Shared → Prop} {s : Shared} {O : KO} {knd : SortKind} {ok : Keyed → Prop} {st : SortSt}
/-- the comparison tells the order, and changes nothing -/
def Asks (prog : Program) (w : World) (A : Around) (s : Shared) (O : KO) (knd : SortKind) (ok : Keyed → Prop) : Prop :=
  ∀ x y, ok x → ok y → ∀ (E : Value → Shared → Prop) (Q : Bool → Shared → Prop), Q (O.blt (O.ky x) (O.ky y)) s → wpAny (model prog w) A (keyLt' knd x.1 y.1) Q E s
theorem wpS_lt {x y : Keyed} {Q : Option Bool → SortSt → Prop} (hA : Asks prog w A s O knd ok) (hk : kindOf st = knd) (hx : ok x) (hy : ok y) (h : Q (some (O.blt (O.ky x) (O.ky y))) st) : wpS (model prog w) A E s (lt' x y) Q st := by
  rw [lt'_eq]
  refine wpS_bind (wpS_get ?_)
  rw [hk]
  refine wpS_bind (wpS_lift (wpAny_attempt (hA x y hx hy _ _ ⟨rfl, ?_⟩)))
  exact wpS_pure h
theorem wpS_elem {arr : Array Keyed} {i : Nat} {x : Keyed} {Q : Keyed → SortSt → Prop} (e : arr[i]? = some x) (h : Q x st) : wpS (model prog w) A E s (elem' arr i) Q st := by
  rw [elem'_eq, e]
  exact wpS_pure h
end
section
variable {O : KO} {a b out : List Keyed} {ia ib : Nat} {x : Keyed}
/-- what stands of a merge from the front: out is taken, a from ia on and b from ib on are left -/
structure MI (O : KO) (a b out : List Keyed) (ia ib : Nat) : Prop where
  perm : (out ++ (a.drop ia ++ b.drop ib)).Perm (a ++ b)
  srt : O.Srt out
  le : ∀ x ∈ out, ∀ y ∈ a.drop ia ++ b.drop ib, O.le x y
end
section
variable {prog : Program} {w : World} {A : Around} {E : Value → Shared → Prop} {s : Shared} {O : KO} {knd : SortKind} {ok : Keyed → Prop} {st : SortSt}
theorem wpS_ite {α : Type} {c : Prop} [Decidable c] {p q : StateT SortSt Sem α} {Q : α → SortSt → Prop} (h1 : c → wpS (model prog w) A E s p Q st) (h2 : ¬ c → wpS (model prog w) A E s q Q st) : wpS (model prog w) A E s (if c then p else q) Q st := by
  by_cases h : c
  · rw [if_pos h]; exact h1 h
  · rw [if_neg h]; exact h2 h
theorem sorted_at {l : List Keyed} (sl : O.Srt l) {i j : Nat} {x y : Keyed} (hij : i ≤ j) (hx : l[i]? = some x) (hy : l[j]? = some y) : O.le x y := by
  obtain ⟨h1, rfl⟩ := List.getElem?_eq_some_iff.mp hx
  obtain ⟨h2, rfl⟩ := List.getElem?_eq_some_iff.mp hy
  rcases Nat.lt_or_eq_of_le hij with h | h
  · exact List.pairwise_iff_getElem.mp sl i j h1 h2 h
  · subst h; exact KO.le_refl
theorem arr_at {a : Array Keyed} {i : Nat} (h : i < a.size) : ∃ x, a[i]? = some x ∧ a.toList[i]? = some x ∧ x ∈ a.toList :=
  ⟨a[i], Array.getElem?_eq_getElem h, by rw [Array.getElem?_toList]; exact Array.getElem?_eq_getElem h, by simp⟩
end
section
variable {O : KO} {a b out : List Keyed} {na nb : Nat} {x : Keyed}
/-- what stands of a merge from the end -/
structure MH (O : KO) (a b out : List Keyed) (na nb : Nat) : Prop where
  perm : (a.take na ++ b.take nb ++ out.reverse).Perm (a ++ b)
  srt : O.Srt out.reverse
  le : ∀ x ∈ a.take na ++ b.take nb, ∀ y ∈ out, O.le x y
end
section
variable {prog : Program} {w : World} {A : Around} {E : Value → Shared → Prop} {s : Shared} {O : KO} {knd : SortKind} {ok : Keyed → Prop} {st : SortSt}
/-! ### runs, wherever they begin -/
/-- the key at a place -/
def ka (O : KO) (xs : Array Keyed) (i : Nat) : O.α := O.ky ((xs[i]?).getD (.none, .none))
def Up (O : KO) (lo n : Nat) (xs : Array Keyed) : Prop := ∀ i j, i ≤ j → j < n → O.kle (ka O xs (lo + i)) (ka O xs (lo + j))
def Dn (O : KO) (lo n : Nat) (xs : Array Keyed) : Prop := ∀ i j, i ≤ j → j < n → O.kle (ka O xs (lo + j)) (ka O xs (lo + i))
/-- the things are those of b₀, and below lo they stand as there -/
structure FB (knd : SortKind) (b₀ : Array Keyed) (p₀ : Array (Nat × Nat × Nat)) (lo : Nat) (st : SortSt) : Prop where
  perm : (arrOf st).Perm b₀
  keep : ∀ i, i < lo → (arrOf st)[i]? = b₀[i]?
  kind : kindOf st = knd
  failed : failedOf st = none
  pend : pendingOf st = p₀
section
variable {b₀ : Array Keyed} {p₀ : Array (Nat × Nat × Nat)} {lo : Nat}
theorem FB.size (h : FB knd b₀ p₀ lo st) : (arrOf st).size = b₀.size := h.perm.size_eq
theorem FB.put {xs : Array Keyed} (h : FB knd b₀ p₀ lo st) (hp : xs.Perm (arrOf st)) (hx : ∀ i, i < lo → xs[i]? = (arrOf st)[i]?) : FB knd b₀ p₀ lo (setArr st xs) :=
  ⟨hp.trans h.perm, fun i hi => (hx i hi).trans (h.keep i hi), h.kind, h.failed, h.pend⟩
theorem FB.mir (h : FB knd b₀ p₀ lo st) {i j : Nat} (hi : lo ≤ i) (hj : j ≤ b₀.size) : FB knd b₀ p₀ lo (setArr st (mirror (arrOf st) i j ((j - i) / 2))) :=
  h.put (mirror_perm _ _ _ _) fun k hk => by rw [getElem?_mirror_all (by rw [h.size]; exact hj), if_neg (by omega)]
theorem ka_congr {xs ys : Array Keyed} {i j : Nat} (h : xs[i]? = ys[j]?) : ka O xs i = ka O ys j := by unfold ka; rw [h]
theorem ka_mir {xs : Array Keyed} {i j : Nat} (hj : j ≤ xs.size) (k : Nat) : ka O (mirror xs i j ((j - i) / 2)) k = if i ≤ k ∧ k < j then ka O xs (i + j - 1 - k) else ka O xs k := by
  have e := getElem?_mirror_all (i := i) hj k
  split
  · rename_i c; rw [if_pos c] at e; exact ka_congr e
  · rename_i c; rw [if_neg c] at e; exact ka_congr e
theorem ka_mirE {xs : Array Keyed} {i j : Nat} (hj : j ≤ xs.size) (he : ∀ k, i ≤ k → k < j → ka O xs k = ka O xs (j - 1)) (k : Nat) : ka O (mirror xs i j ((j - i) / 2)) k = ka O xs k := by
  rw [ka_mir hj]
  split
  · rw [he _ (by omega) (by omega), he k (by omega) (by omega)]
  · rfl
theorem ka_bub {xs : Array Keyed} {src d : Nat} (hs : src < xs.size) (hd : d ≤ src) (k : Nat) : ka O (bubble xs src d) k = if k = src - d then ka O xs src else if src - d < k ∧ k ≤ src then ka O xs (k - 1) else ka O xs k := by
  have e := getElem?_bubble hs d hd k
  split
  · rename_i c; rw [if_pos c] at e; exact ka_congr e
  · rename_i c
    rw [if_neg c] at e
    split
    · rename_i c2; rw [if_pos c2] at e; exact ka_congr e
    · rename_i c2; rw [if_neg c2] at e; exact ka_congr e
theorem wpS_ltA {i j : Nat} {Q : Option Bool → SortSt → Prop} (hA : Asks prog w A s O knd ok) (h0 : ∀ x ∈ b₀.toList, ok x) (hF : FB knd b₀ p₀ lo st) (hi : i < b₀.size) (hj : j < b₀.size) (h : Q (some (O.blt (ka O (arrOf st) i) (ka O (arrOf st) j))) st) : wpS (model prog w) A E s (ltAt' i j) Q st := by
  obtain ⟨x, ex, _, mx⟩ := arr_at (a := arrOf st) (i := i) (by rw [hF.size]; exact hi)
  obtain ⟨y, ey, _, my⟩ := arr_at (a := arrOf st) (i := j) (by rw [hF.size]; exact hj)
  have pm := Array.perm_iff_toList_perm.mp hF.perm
  rw [ltAt'_eq]
  refine wpS_bind (wpS_get ?_)
  refine wpS_bind (wpS_elem ex (wpS_bind (wpS_elem ey ?_)))
  refine wpS_lt hA hF.kind (h0 x (pm.mem_iff.mp mx)) (h0 y (pm.mem_iff.mp my)) ?_
  unfold ka at h
  rw [ex, ey] at h
  exact h
theorem wpS_rev {i j : Nat} {Q : Unit → SortSt → Prop} (h : Q () (setArr st (mirror (arrOf st) i j ((j - i) / 2)))) : wpS (model prog w) A E s (reverseSlice' i j) Q st := by
  rw [reverseSlice'_eq]; exact wpS_modify h
def ascL (lo a nrem : Nat) : StateT SortSt Sem (Option (Option Nat) × Nat) :=
  forIn [a:nrem] ((none, a) : Option (Option Nat) × Nat) fun _ c => ltAt' (lo + c.2) (lo + c.2 - 1) >>= fun x => match x with
    | some sm => if sm = true then pure (ForInStep.done (none, c.2)) else pure (ForInStep.yield (none, c.2 + 1))
    | _ => pure (ForInStep.done (some none, c.2))
theorem wpS_ascL {a nrem : Nat} {Q : Option (Option Nat) × Nat → SortSt → Prop} (hA : Asks prog w A s O knd ok) (h0 : ∀ x ∈ b₀.toList, ok x) (hF : FB knd b₀ p₀ lo st) (hn : lo + nrem ≤ b₀.size) (ha : 1 ≤ a) (hl : a ≤ nrem) (hu : Up O lo a (arrOf st))
    (h : ∀ n, a ≤ n → n ≤ nrem → Up O lo n (arrOf st) → (n = nrem ∨ O.klt (ka O (arrOf st) (lo + n)) (ka O (arrOf st) (lo + n - 1))) → Q (none, n) st) : wpS (model prog w) A E s (ascL lo a nrem) Q st := by
  unfold ascL
  refine wpS_forRange (I := fun n c τ => τ = st ∧ c = ((none : Option (Option Nat)), n) ∧ Up O lo n (arrOf st)) ?go ?out ⟨rfl, rfl, hu⟩
  case out =>
    rintro c τ ⟨rfl, rfl, u⟩
    rw [Nat.max_eq_right hl] at u ⊢
    exact h nrem hl (Nat.le_refl _) u (.inl rfl)
  case go =>
    rintro n c τ h1 h2 ⟨rfl, rfl, u⟩
    refine wpS_bind (wpS_ltA hA h0 hF (by dsimp only; omega) (by dsimp only; omega) ?_)
    dsimp only
    cases e : O.blt (ka O (arrOf τ) (lo + n)) (ka O (arrOf τ) (lo + n - 1)) with
    | true =>
      simp only [if_true]
      exact wpS_pure (h n h1 (by omega) u (.inr e))
    | false =>
      simp only [Bool.false_eq_true, if_false]
      refine wpS_pure ⟨rfl, rfl, fun i j hij hj => ?_⟩
      rcases Nat.lt_or_ge j n with z | z
      · exact u i j hij z
      · obtain rfl : j = n := by omega
        rcases Nat.lt_or_ge i j with y | y
        · exact KeyOrd.kle_trans (u i (j - 1) (by omega) (by omega)) (by rw [show lo + (j - 1) = lo + j - 1 by omega]; exact e)
        · obtain rfl : i = j := by omega
          exact KeyOrd.kle_refl _
theorem up_mir {n : Nat} {xs : Array Keyed} (hd : Dn O lo n xs) (hsz : lo + n ≤ xs.size) : Up O lo n (mirror xs lo (lo + n) ((lo + n - lo) / 2)) := by
  intro i j hij hj
  rw [ka_mir hsz, ka_mir hsz, if_pos (by omega), if_pos (by omega)]
  have q := hd (n - 1 - j) (n - 1 - i) (by omega) (by omega)
  rw [show lo + (n - 1 - j) = lo + (lo + n) - 1 - (lo + j) by omega, show lo + (n - 1 - i) = lo + (lo + n) - 1 - (lo + i) by omega] at q
  exact q
def dscL (lo n nrem : Nat) : StateT SortSt Sem (Option (Option Nat) × Nat × Nat) :=
  forIn [n:nrem] ((none, n, 0) : Option (Option Nat) × Nat × Nat) fun _ c => ltAt' (lo + c.2.1) (lo + c.2.1 - 1) >>= fun x => match x with
    | some sm => if sm = true then (if c.2.2 > 0 then reverseSlice' (lo + c.2.1 - (c.2.2 + 1)) (lo + c.2.1) >>= fun _ => pure (ForInStep.yield (none, c.2.1 + 1, 0)) else pure (ForInStep.yield (none, c.2.1 + 1, 0)))
      else ltAt' (lo + c.2.1 - 1) (lo + c.2.1) >>= fun y => match y with
        | some lg => if lg = true then pure (ForInStep.done (none, c.2.1, c.2.2)) else pure (ForInStep.yield (none, c.2.1 + 1, c.2.2 + 1))
        | _ => pure (ForInStep.done (some none, c.2.1, c.2.2))
    | _ => pure (ForInStep.done (some none, c.2.1, c.2.2))
theorem wpS_dscL {n nrem : Nat} {Q : Option (Option Nat) × Nat × Nat → SortSt → Prop} (hA : Asks prog w A s O knd ok) (h0 : ∀ x ∈ b₀.toList, ok x) (hF : FB knd b₀ p₀ lo st) (hn : lo + nrem ≤ b₀.size) (h1 : 1 ≤ n) (hl : n ≤ nrem) (hd : Dn O lo n (arrOf st))
    (h : ∀ m e τ, FB knd b₀ p₀ lo τ → n ≤ m → m ≤ nrem → Dn O lo m (arrOf τ) → e + 1 ≤ m → (∀ i, m - (e + 1) ≤ i → i < m → ka O (arrOf τ) (lo + i) = ka O (arrOf τ) (lo + m - 1)) → Q (none, m, e) τ) : wpS (model prog w) A E s (dscL lo n nrem) Q st := by
  unfold dscL
  refine wpS_forRange (I := fun m c τ => ∃ e, c = ((none : Option (Option Nat)), m, e) ∧ FB knd b₀ p₀ lo τ ∧ Dn O lo m (arrOf τ) ∧ e + 1 ≤ m ∧ ∀ i, m - (e + 1) ≤ i → i < m → ka O (arrOf τ) (lo + i) = ka O (arrOf τ) (lo + m - 1)) ?go ?out
    ⟨0, rfl, hF, hd, by omega, fun i h2 h3 => by congr 1; omega⟩
  case out =>
    rintro c τ ⟨e, rfl, hT, d, q, he⟩
    rw [Nat.max_eq_right hl] at d q he ⊢
    exact h nrem e τ hT hl (Nat.le_refl _) d q he
  case go =>
    rintro m c τ h2 h3 ⟨e, rfl, hT, d, q, he⟩
    have hsz : lo + m ≤ (arrOf τ).size := by rw [hT.size]; omega
    have more : ∀ xs : Array Keyed, (∀ k, ka O xs k = ka O (arrOf τ) k) → O.kle (ka O (arrOf τ) (lo + m)) (ka O (arrOf τ) (lo + m - 1)) → Dn O lo (m + 1) xs := by
      intro xs hk hle i j hij hj
      rw [hk, hk]
      rcases Nat.lt_or_ge j m with z | z
      · exact d i j hij z
      · obtain rfl : j = m := by omega
        rcases Nat.lt_or_ge i j with y | y
        · exact KeyOrd.kle_trans hle (by rw [show lo + j - 1 = lo + (j - 1) by omega]; exact d i (j - 1) (by omega) (by omega))
        · obtain rfl : i = j := by omega
          exact KeyOrd.kle_refl _
    have eq1 : ∀ k, lo + m - (e + 1) ≤ k → k < lo + m → ka O (arrOf τ) k = ka O (arrOf τ) (lo + m - 1) := fun k k1 k2 => by
      have := he (k - lo) (by omega) (by omega)
      rwa [show lo + (k - lo) = k by omega] at this
    refine wpS_bind (wpS_ltA hA h0 hT (by dsimp only; omega) (by dsimp only; omega) ?_)
    dsimp only
    cases ew : O.blt (ka O (arrOf τ) (lo + m)) (ka O (arrOf τ) (lo + m - 1)) with
    | true =>
      simp only [if_true]
      refine wpS_ite (fun _ => ?_) (fun _ => ?_)
      · exact wpS_bind (wpS_rev (wpS_pure ⟨0, rfl, hT.mir (by omega) (by omega), more _ (ka_mirE hsz eq1) (KeyOrd.kle_of_klt ew), by omega, fun i h2 h3 => by congr 1; omega⟩))
      · exact wpS_pure ⟨0, rfl, hT, more _ (fun _ => rfl) (KeyOrd.kle_of_klt ew), by omega, fun i h2 h3 => by congr 1; omega⟩
    | false =>
      simp only [Bool.false_eq_true, if_false]
      refine wpS_bind (wpS_ltA hA h0 hT (by omega) (by omega) ?_)
      dsimp only
      cases eg : O.blt (ka O (arrOf τ) (lo + m - 1)) (ka O (arrOf τ) (lo + m)) with
      | true =>
        simp only [if_true]
        exact wpS_pure (h m e τ hT h2 (by omega) d q he)
      | false =>
        simp only [Bool.false_eq_true, if_false]
        have hx : ka O (arrOf τ) (lo + m) = ka O (arrOf τ) (lo + m - 1) := KeyOrd.kle_antisymm (O := O.toKeyOrd) eg ew
        refine wpS_pure ⟨e + 1, rfl, hT, more _ (fun _ => rfl) eg, by omega, fun i i1 i2 => ?_⟩
        rw [show lo + (m + 1) - 1 = lo + m by omega]
        rcases Nat.lt_or_ge i m with z | z
        · rw [hx]; exact he i (by omega) z
        · obtain rfl : i = m := by omega
          rfl
theorem wpS_run {nrem : Nat} {Q : Option Nat → SortSt → Prop} (hA : Asks prog w A s O knd ok) (h0 : ∀ x ∈ b₀.toList, ok x) (hF : FB knd b₀ p₀ lo st) (hn : lo + nrem ≤ b₀.size) (h1 : 1 ≤ nrem)
    (h : ∀ m τ, FB knd b₀ p₀ lo τ → 1 ≤ m → m ≤ nrem → Up O lo m (arrOf τ) → Q (some m) τ) : wpS (model prog w) A E s (countRun' lo nrem) Q st := by
  refine wpS_bind (wpS_ascL (a := 1) hA h0 hF hn (Nat.le_refl 1) h1 (fun i j hij hj => ?_) fun n n1 n2 u hor => ?_)
  · obtain rfl : i = j := by omega
    exact KeyOrd.kle_refl _
  dsimp only
  by_cases c : n = nrem
  · rw [if_pos (by simpa using c)]
    exact wpS_pure (h n st hF n1 n2 u)
  rw [if_neg (by simpa using c)]
  have hlt := hor.resolve_left c
  have hsz : lo + n ≤ (arrOf st).size := by rw [hF.size]; omega
  by_cases cg : n > 1
  · rw [if_pos cg]
    refine wpS_bind (wpS_ltA hA h0 hF (by omega) (by omega) ?_)
    cases e : O.blt (ka O (arrOf st) lo) (ka O (arrOf st) (lo + n - 1)) with
    | true =>
      simp only [if_true]
      exact wpS_pure (h n st hF n1 n2 u)
    | false =>
      simp only [Bool.false_eq_true, if_false]
      have all : ∀ k, lo ≤ k → k < lo + n → ka O (arrOf st) k = ka O (arrOf st) (lo + n - 1) := by
        intro k k1 k2
        have a1 := u 0 (k - lo) (by omega) (by omega)
        have a2 := u (k - lo) (n - 1) (by omega) (by omega)
        rw [show lo + (k - lo) = k by omega] at a1 a2
        rw [show lo + (n - 1) = lo + n - 1 by omega] at a2
        exact KeyOrd.kle_antisymm a2 (KeyOrd.kle_trans (O := O.toKeyOrd) e a1)
      refine wpS_bind (wpS_rev ?_)
      have hF7 := FB.mir hF (i := lo) (j := lo + n) (Nat.le_refl _) (by omega)
      have d7 : Dn O lo (n + 1) (arrOf (setArr st (mirror (arrOf st) lo (lo + n) ((lo + n - lo) / 2)))) := by
        intro i j hij hj
        show O.kle (ka O (mirror (arrOf st) _ _ _) _) (ka O (mirror (arrOf st) _ _ _) _)
        rw [ka_mirE hsz all, ka_mirE hsz all]
        rcases Nat.lt_or_ge j n with z | z
        · rw [all _ (by omega) (show lo + j < lo + n by omega), all _ (by omega) (show lo + i < lo + n by omega)]; exact KeyOrd.kle_refl _
        · obtain rfl : j = n := by omega
          rcases Nat.lt_or_ge i j with y | y
          · rw [all _ (by omega) (show lo + i < lo + j by omega)]; exact KeyOrd.kle_of_klt hlt
          · obtain rfl : i = j := by omega
            exact KeyOrd.kle_refl _
      refine wpS_bind (wpS_lift (wpAny_rule ⟨rfl, ?_⟩))
      refine wpS_bind (wpS_dscL hA h0 hF7 hn (by omega) (by omega) d7 fun m e τ hT m1 m2 d q he => ?_)
      dsimp only
      have hsz : lo + m ≤ (arrOf τ).size := by rw [hT.size]; omega
      have eq1 : ∀ k, lo + m - (e + 1) ≤ k → k < lo + m → ka O (arrOf τ) k = ka O (arrOf τ) (lo + m - 1) := fun k k1 k2 => by
        have := he (k - lo) (by omega) (by omega)
        rwa [show lo + (k - lo) = k by omega] at this
      refine wpS_ite (fun _ => ?_) (fun _ => ?_)
      · refine wpS_bind (wpS_rev ?_)
        have hF8 := FB.mir hT (i := lo + m - (e + 1)) (j := lo + m) (by omega) (by omega)
        have d8 : Dn O lo m (arrOf (setArr τ (mirror (arrOf τ) (lo + m - (e + 1)) (lo + m) ((lo + m - (lo + m - (e + 1))) / 2)))) := by
          intro i j hij hj
          show O.kle (ka O (mirror (arrOf τ) _ _ _) _) (ka O (mirror (arrOf τ) _ _ _) _)
          rw [ka_mirE hsz eq1, ka_mirE hsz eq1]
          exact d i j hij hj
        refine wpS_bind (wpS_rev ?_)
        have hF9 := FB.mir hF8 (i := lo) (j := lo + m) (Nat.le_refl _) (by omega)
        refine wpS_bind (wpS_ascL hA h0 hF9 hn (by omega) m2 (up_mir d8 (by rw [FB.size hF8]; omega)) fun m' m1' m2' u' _ => wpS_pure (h m' _ hF9 (by omega) m2' u'))
      ·
        refine wpS_bind (wpS_rev ?_)
        have hF9 := FB.mir hT (i := lo) (j := lo + m) (Nat.le_refl _) (by omega)
        refine wpS_bind (wpS_ascL hA h0 hF9 hn (by omega) m2 (up_mir d (by rw [FB.size hT]; omega)) fun m' m1' m2' u' _ => wpS_pure (h m' _ hF9 (by omega) m2' u'))
  · rw [if_neg cg]
    obtain rfl : n = 1 := by omega
    have d7 : Dn O lo (1 + 1) (arrOf st) := by
      intro i j hij hj
      rcases Nat.lt_or_ge i j with y | y
      · obtain rfl : i = 0 := by omega
        obtain rfl : j = 1 := by omega
        exact KeyOrd.kle_of_klt hlt
      · obtain rfl : i = j := by omega
        exact KeyOrd.kle_refl _
    refine wpS_bind (wpS_lift (wpAny_rule ⟨rfl, ?_⟩))
    refine wpS_bind (wpS_dscL hA h0 hF hn (by omega) (by omega) d7 fun m e τ hT m1 m2 d q he => ?_)
    dsimp only
    have hsz : lo + m ≤ (arrOf τ).size := by rw [hT.size]; omega
    have eq1 : ∀ k, lo + m - (e + 1) ≤ k → k < lo + m → ka O (arrOf τ) k = ka O (arrOf τ) (lo + m - 1) := fun k k1 k2 => by
      have := he (k - lo) (by omega) (by omega)
      rwa [show lo + (k - lo) = k by omega] at this
    refine wpS_ite (fun _ => ?_) (fun _ => ?_)
    · refine wpS_bind (wpS_rev ?_)
      have hF8 := FB.mir hT (i := lo + m - (e + 1)) (j := lo + m) (by omega) (by omega)
      have d8 : Dn O lo m (arrOf (setArr τ (mirror (arrOf τ) (lo + m - (e + 1)) (lo + m) ((lo + m - (lo + m - (e + 1))) / 2)))) := by
        intro i j hij hj
        show O.kle (ka O (mirror (arrOf τ) _ _ _) _) (ka O (mirror (arrOf τ) _ _ _) _)
        rw [ka_mirE hsz eq1, ka_mirE hsz eq1]
        exact d i j hij hj
      refine wpS_bind (wpS_rev ?_)
      have hF9 := FB.mir hF8 (i := lo) (j := lo + m) (Nat.le_refl _) (by omega)
      refine wpS_bind (wpS_ascL hA h0 hF9 hn (by omega) m2 (up_mir d8 (by rw [FB.size hF8]; omega)) fun m' m1' m2' u' _ => wpS_pure (h m' _ hF9 (by omega) m2' u'))
    ·
      refine wpS_bind (wpS_rev ?_)
      have hF9 := FB.mir hT (i := lo) (j := lo + m) (Nat.le_refl _) (by omega)
      refine wpS_bind (wpS_ascL hA h0 hF9 hn (by omega) m2 (up_mir d (by rw [FB.size hT]; omega)) fun m' m1' m2' u' _ => wpS_pure (h m' _ hF9 (by omega) m2' u'))
end
end
end L2

set_option Elab.async false
set_option linter.all false
set_option maxRecDepth 100000
set_option maxHeartbeats 4000000
namespace L2
open PySem PyProof.Rows
section
variable {prog : Program} {w : World} {A : Around} {E : Value → Shared → Prop} {s : Shared} {O : KO} {knd : SortKind} {ok : Keyed → Prop} {st : SortSt} {b₀ : Array Keyed} {p₀ : Array (Nat × Nat × Nat)} {lo : Nat}
/-- putting in one after another -/
theorem mid_lt {l r : Nat} (h : l < r) : l ≤ (l + r) / 2 ∧ (l + r) / 2 < r := by omega
theorem mid_a {l r k x N : Nat} (m1 : l ≤ (l + r) / 2) (m2 : (l + r) / 2 < r) (hx : x < N) (e2 : r ≤ k) (e3 : r - l ≤ k - x) : (l + r) / 2 - l ≤ k - (x + 1) := by omega
theorem mid_b {l r k x N : Nat} (m1 : l ≤ (l + r) / 2) (m2 : (l + r) / 2 < r) (hx : x < N) (e2 : r ≤ k) (e3 : r - l ≤ k - x) : r - ((l + r) / 2 + 1) ≤ k - (x + 1) := by omega
theorem wpS_ins {n m : Nat} {Q : Bool → SortSt → Prop} (hA : Asks prog w A s O knd ok) (h0 : ∀ x ∈ b₀.toList, ok x) (hF : FB knd b₀ p₀ lo st) (hn : lo + n ≤ b₀.size) (h1 : 1 ≤ m) (hm : m ≤ n) (hu : Up O lo m (arrOf st))
    (h : ∀ τ, FB knd b₀ p₀ lo τ → Up O lo n (arrOf τ) → Q true τ) : wpS (model prog w) A E s (binarySort' lo n m) Q st := by
  rw [binarySort'_eq, Nat.max_eq_left h1]
  refine wpS_bind (wpS_mono (wpS_forRange (I := fun k c τ => c = (none, ()) ∧ FB knd b₀ p₀ lo τ ∧ Up O lo k (arrOf τ))
    (Q := fun c τ => c = (none, ()) ∧ FB knd b₀ p₀ lo τ ∧ Up O lo n (arrOf τ)) ?go ?out ⟨rfl, hF, hu⟩) ?fin)
  case fin =>
    rintro c τ ⟨rfl, hT, u⟩
    exact wpS_pure (h τ hT u)
  case out =>
    rintro c τ ⟨hc, hT, u⟩
    rw [Nat.max_eq_right hm] at u
    exact ⟨hc, hT, u⟩
  case go =>
    rintro k c τ k1 k2 ⟨rfl, hT, u⟩
    refine wpS_bind (wpS_mono (wpS_forRange (I := fun x c τ' => τ' = τ ∧ ∃ l r, c = (none, l, r) ∧ l ≤ r ∧ r ≤ k ∧ r - l ≤ k - x ∧
        (∀ i, i < l → O.kle (ka O (arrOf τ) (lo + i)) (ka O (arrOf τ) (lo + k))) ∧ ∀ i, r ≤ i → i < k → O.klt (ka O (arrOf τ) (lo + k)) (ka O (arrOf τ) (lo + i)))
      (Q := fun c τ' => τ' = τ ∧ ∃ l, c = (none, l, l) ∧ l ≤ k ∧ (∀ i, i < l → O.kle (ka O (arrOf τ) (lo + i)) (ka O (arrOf τ) (lo + k))) ∧ ∀ i, l ≤ i → i < k → O.klt (ka O (arrOf τ) (lo + k)) (ka O (arrOf τ) (lo + i))) ?go2 ?out2
      ⟨rfl, 0, k, rfl, Nat.zero_le _, Nat.le_refl _, Nat.le_refl _, fun i hi => absurd hi (Nat.not_lt_zero _), fun i i1 i2 => absurd i2 (Nat.not_lt.mpr i1)⟩) ?fin2)
    case out2 =>
      rintro c τ' ⟨rfl, l, r, rfl, e1, e2, e3, e4, e5⟩
      obtain rfl : l = r := by omega
      exact ⟨rfl, l, rfl, e2, e4, e5⟩
    case go2 =>
      rintro x c τ' _ hx ⟨rfl, l, r, rfl, e1, e2, e3, e4, e5⟩
      dsimp only
      by_cases hge : l ≥ r
      · rw [if_pos hge]
        obtain rfl : l = r := by omega
        exact wpS_pure ⟨rfl, l, rfl, e2, e4, e5⟩
      rw [if_neg hge]
      obtain ⟨m1, m2⟩ := mid_lt (Nat.lt_of_not_le hge)
      have mk : (l + r) / 2 < k := Nat.lt_of_lt_of_le m2 e2
      have kn : lo + k < b₀.size := Nat.lt_of_lt_of_le (Nat.add_lt_add_left k2 lo) hn
      refine wpS_bind (wpS_ltA hA h0 hT kn (Nat.lt_trans (Nat.add_lt_add_left mk lo) kn) ?_)
      cases e : O.blt (ka O (arrOf τ') (lo + k)) (ka O (arrOf τ') (lo + (l + r) / 2)) with
      | true =>
        simp only [if_true]
        exact wpS_pure ⟨rfl, l, (l + r) / 2, rfl, m1, Nat.le_of_lt mk, mid_a m1 m2 hx e2 e3, e4, fun i i1 i2 => KeyOrd.klt_of_klt_of_kle e (u _ _ i1 i2)⟩
      | false =>
        simp only [Bool.false_eq_true, if_false]
        exact wpS_pure ⟨rfl, (l + r) / 2 + 1, r, rfl, m2, e2, mid_b m1 m2 hx e2 e3, fun i i1 => KeyOrd.kle_trans (u i ((l + r) / 2) (Nat.le_of_lt_succ i1) mk) e, e5⟩
    case fin2 =>
      rintro c τ' ⟨rfl, l, rfl, e2, e4, e5⟩
      dsimp only
      rw [moveDown'_eq]
      have hks : lo + k < (arrOf τ').size := by rw [hT.size]; omega
      refine wpS_bind (wpS_modify (wpS_pure ⟨rfl, hT.put (bubble_perm _ _ _) (fun i hi => ?_), ?_⟩))
      · rw [getElem?_bubble hks _ (by omega), if_neg (by omega), if_neg (by omega)]
      · intro i j hij hj
        show O.kle (ka O (bubble (arrOf τ') (lo + k) (lo + k - (lo + l))) _) (ka O (bubble (arrOf τ') (lo + k) (lo + k - (lo + l))) _)
        rw [ka_bub hks (by omega), ka_bub hks (by omega), show lo + k - (lo + k - (lo + l)) = lo + l by omega]
        repeat' split
        all_goals first
          | (exfalso; omega)
          | exact KeyOrd.kle_refl _
          | exact e4 _ (by omega)
          | (rw [show lo + j - 1 = lo + (j - 1) by omega]; exact KeyOrd.kle_of_klt (e5 _ (by omega) (by omega)))
          | exact KeyOrd.kle_of_klt (e5 _ (by omega) (by omega))
          | (rw [show lo + i - 1 = lo + (i - 1) by omega, show lo + j - 1 = lo + (j - 1) by omega]; exact u _ _ (by omega) (by omega))
          | (rw [show lo + j - 1 = lo + (j - 1) by omega]; exact u _ _ (by omega) (by omega))
          | exact u _ _ (by omega) (by omega)
/-! ### the runs that wait -/
def pos : Nat → List (List Keyed) → List (Nat × Nat)
  | _, [] => []
  | o, r :: rs => (o, r.length) :: pos (o + r.length) rs
theorem pos_append : ∀ (o : Nat) (xs ys : List (List Keyed)), pos o (xs ++ ys) = pos o xs ++ pos (o + xs.flatten.length) ys
  | o, [], ys => by simp [pos]
  | o, r :: rs, ys => by
    simp only [List.cons_append, pos, pos_append, List.flatten_cons, List.length_append]
    rw [Nat.add_assoc]
theorem pos_length : ∀ (o : Nat) (xs : List (List Keyed)), (pos o xs).length = xs.length
  | _, [] => rfl
  | o, r :: rs => by simp only [pos, List.length_cons, pos_length]
def pr (p : Nat × Nat × Nat) : Nat × Nat := (p.1, p.2.1)
/-- runs that stand one behind the other, each sorted, and the rest -/
structure RI (O : KO) (knd : SortKind) (a₀ : List Keyed) (runs : List (List Keyed)) (rest : List Keyed) (st : SortSt) : Prop where
  arr : (arrOf st).toList = runs.flatten ++ rest
  perm : (arrOf st).toList.Perm a₀
  srt : ∀ r ∈ runs, O.Srt r
  ne : ∀ r ∈ runs, 1 ≤ r.length
  kind : kindOf st = knd
  failed : failedOf st = none
  pend : (pendingOf st).toList.map pr = pos 0 runs
end
end L2

set_option Elab.async false
set_option linter.all false
set_option maxRecDepth 100000
set_option maxHeartbeats 4000000
namespace L2
open PySem PyProof.Rows
section
variable {prog : Program} {w : World} {A : Around} {E : Value → Shared → Prop} {s : Shared} {O : KO} {knd : SortKind} {ok : Keyed → Prop} {st τ : SortSt}
theorem RI.len {a₀ rest : List Keyed} {runs : List (List Keyed)} (h : RI O knd a₀ runs rest st) : (pendingOf st).size = runs.length := by
  rw [← Array.length_toList, ← pos_length 0 runs, ← h.pend, List.length_map]
theorem RI.size {a₀ rest : List Keyed} {runs : List (List Keyed)} (h : RI O knd a₀ runs rest st) : (arrOf st).size = runs.flatten.length + rest.length := by
  rw [← Array.length_toList, h.arr, List.length_append]
theorem RI.size0 {a₀ rest : List Keyed} {runs : List (List Keyed)} (h : RI O knd a₀ runs rest st) : (arrOf st).size = a₀.length := by
  rw [← Array.length_toList, h.perm.length_eq]
/-- a run found behind the others -/
theorem fb_ri {a₀ rest : List Keyed} {runs : List (List Keyed)} {n : Nat} (h : RI O knd a₀ runs rest st) (hF : FB knd (arrOf st) (pendingOf st) runs.flatten.length τ) (hu : Up O runs.flatten.length n (arrOf τ)) (hn : n ≤ rest.length) :
    ∃ r rest', r.length = n ∧ O.Srt r ∧ rest.length = n + rest'.length ∧ RI O knd a₀ runs (r ++ rest') τ := by
  have hpm := Array.perm_iff_toList_perm.mp hF.perm
  have hsz : (arrOf τ).size = runs.flatten.length + rest.length := by rw [hF.size, h.size]
  have e1 : (arrOf τ).toList.take runs.flatten.length = runs.flatten := by
    have : (arrOf τ).toList.take runs.flatten.length = (arrOf st).toList.take runs.flatten.length := by
      apply List.ext_getElem?
      intro i
      rcases Nat.lt_or_ge i runs.flatten.length with hi | hi
      · rw [List.getElem?_take_of_lt hi, List.getElem?_take_of_lt hi, Array.getElem?_toList, Array.getElem?_toList]
        exact hF.keep i hi
      · rw [List.getElem?_eq_none (by rw [List.length_take]; omega), List.getElem?_eq_none (by rw [List.length_take]; omega)]
    rw [this, h.arr, List.take_left]
  have e2 : (arrOf τ).toList = runs.flatten ++ (arrOf τ).toList.drop runs.flatten.length := by
    conv => lhs; rw [← List.take_append_drop runs.flatten.length (arrOf τ).toList, e1]
  have lr : ((arrOf τ).toList.drop runs.flatten.length).length = rest.length := by
    rw [List.length_drop, Array.length_toList]; omega
  refine ⟨((arrOf τ).toList.drop runs.flatten.length).take n, ((arrOf τ).toList.drop runs.flatten.length).drop n, by rw [List.length_take]; omega, ?_, by rw [List.length_drop]; omega, ⟨by rw [List.take_append_drop]; exact e2, hpm.trans h.perm, h.srt, h.ne, hF.kind, hF.failed, by rw [hF.pend]; exact h.pend⟩⟩
  refine List.pairwise_iff_getElem.mpr fun i j hi hj hij => ?_
  rw [List.length_take] at hi hj
  have q := hu i j (by omega) (by omega)
  rw [List.getElem_take, List.getElem_take, List.getElem_drop, List.getElem_drop]
  have g : ∀ k (hk : runs.flatten.length + k < (arrOf τ).toList.length), ka O (arrOf τ) (runs.flatten.length + k) = O.ky ((arrOf τ).toList[runs.flatten.length + k]) := by
    intro k hk
    unfold ka
    rw [← Array.getElem?_toList, List.getElem?_eq_getElem hk]
    rfl
  have hlt : (arrOf τ).toList.length = runs.flatten.length + rest.length := by rw [Array.length_toList]; exact hsz
  rw [g i (by omega), g j (by omega)] at q
  exact q
theorem RI.push {a₀ rest r : List Keyed} {runs : List (List Keyed)} {lo n : Nat} (h : RI O knd a₀ runs (r ++ rest) st) (hs : O.Srt r) (hr : r.length = n) (hn : 1 ≤ n) (hl : lo = runs.flatten.length) : RI O knd a₀ (runs ++ [r]) rest (setPending st ((pendingOf st).push (lo, n, 0))) := by
  refine ⟨?_, h.perm, ?_, ?_, h.kind, h.failed, ?_⟩
  · show (arrOf st).toList = _
    rw [h.arr]; simp
  · intro x hx
    rcases List.mem_append.mp hx with hx | hx
    · exact h.srt x hx
    · rw [List.mem_singleton.mp hx]; exact hs
  · intro x hx
    rcases List.mem_append.mp hx with hx | hx
    · exact h.ne x hx
    · rw [List.mem_singleton.mp hx]; omega
  · show ((pendingOf st).push (lo, n, 0)).toList.map pr = _
    rw [Array.toList_push, List.map_append, h.pend, pos_append, hl, ← hr]
    simp [pos, pr]
end
end L2

set_option Elab.async false
set_option linter.all false
set_option maxRecDepth 100000
set_option maxHeartbeats 4000000
namespace L2
open PySem PySem.Spec PyProof.Rows PySem.SeqAt
section
variable {prog : Program} {w : World} {A : Around} {E : Value → Shared → Prop} {s : Shared}
end
section
variable {X : Cx}
end
end L2

set_option Elab.async false
set_option linter.all false
set_option maxRecDepth 100000
set_option maxHeartbeats 4000000
namespace L2
open PySem PyProof.Rows
section
variable {prog : Program} {w : World} {A : Around} {E : Value → Shared → Prop} {s : Shared} {O : KO} {knd : SortKind} {ok : Keyed → Prop}
/-- in order, or in the order turned about -/
def Ord2 (O : KO) (b : Bool) (us : List Value) : Prop := us.Pairwise fun u v => if b = true then O.le (v, v) (u, u) else O.le (u, u) (v, v)
theorem out_of {vs : List Value} {out : List Keyed} (hp : out.Perm (vs.zip vs)) (hs : O.Srt out) (b : Bool) : ∃ us : List Value, (if b = true then (out.map (·.2)).reverse else out.map (·.2)) = us ∧ us.Perm vs ∧ Ord2 O b us := by
  have hm : ∀ p ∈ out, p = (p.2, p.2) := fun p hp' => by
    have := (mem_zip_self (hp.mem_iff.mp hp')).1
    exact Prod.ext this rfl
  have p1 : (out.map (·.2)).Perm vs := by
    have := hp.map (·.2)
    rwa [List.map_snd_zip (Nat.le_refl _)] at this
  have s1 : (out.map (·.2)).Pairwise fun u v => O.le (u, u) (v, v) := by
    rw [List.pairwise_map]
    refine hs.imp_of_mem fun {x y} hx hy q => ?_
    rw [hm x hx, hm y hy] at q
    exact q
  cases b with
  | false => exact ⟨_, rfl, p1, by simpa [Ord2] using s1⟩
  | true => exact ⟨_, rfl, (List.reverse_perm _).trans p1, by simp only [Ord2, if_true, List.pairwise_reverse]; exact s1⟩
theorem sort_heap {a : Addr} {vs : List Value} {n : Nat} {h : Heap} (ho : h.get? a = some (seqObj "list" vs.toArray n)) {b : Addr} {o : Obj} (hb : h.get? b = some o) (hne : b ≠ a) : (((h.update a (Obj.mapSeq fun _ => #[])).push (seqObj "tuple" vs.toArray 0)).push (seqObj "list" #[] 0)).get? b = some o :=
  Heap.get?_push_of_some _ (Heap.get?_push_of_some _ (by rw [Heap.get?_update_ne _ _ _ _ hne]; exact hb))
theorem sorted_old {l : Addr} {vs : List Value} (h : Heap) : ∀ b o, h.get? b = some o → (((h.push (seqObj "list" #[] 0)).update h.objs.size (Obj.mapSeq (· ++ vs.toArray))).push (seqObj "list" vs.toArray 0)).get? b = some o := by
  intro b o q
  have hlt : b < h.objs.size := Heap.lt_size q
  refine Heap.get?_push_of_some _ ?_
  rw [Heap.get?_update_ne _ _ _ _ (Nat.ne_of_lt hlt)]
  exact Heap.get?_push_of_some _ q
/-- what sorted asks of its items, in any heap that has all that is here -/
structure Sortable (prog : Program) (w : World) (s : Shared) (O : KO) (vs : List Value) : Prop where
  ex : ∃ (knd : SortKind) (ok : Keyed → Prop), (∀ v ∈ vs, ok (v, v)) ∧ (∀ A h', (∀ b o, s.heap.get? b = some o → h'.get? b = some o) → Asks prog w A { s with heap := h' } O knd ok) ∧
    ∀ (A : Around) (E : Value → Shared → Prop) h', (∀ b o, s.heap.get? b = some o → h'.get? b = some o) → 2 ≤ vs.length → ∀ Q : SortKind → Shared → Prop, Q knd { s with heap := h' } → wpAny (model prog w) A (keyKind' vs.toArray) Q E { s with heap := h' }
/-! ### ints -/
def KOi : KO where
  α := Int
  blt a b := decide (a < b)
  irrefl a := by simp
  trans a b c h1 h2 := by simp only [decide_eq_true_eq] at *; omega
  negTrans a b c h := by simp only [decide_eq_true_eq] at *; omega
  total a b h1 h2 := by simp only [decide_eq_false_iff_not] at *; omega
  ky p := numOf p.1
theorem sortable_ints {vs : List Value} {ns : List Int} (hI : IntsAre vs ns) : Sortable prog w s KOi vs := by
  refine ⟨oneType', (fun p => ∃ n t, p.1 = .int n t), fun v hv => ?_, fun A h' _ x y hx hy E Q q => ?_, fun A E h' _ h2 Q q => ?_⟩
  · obtain ⟨n, t, e⟩ := hI.all v hv
    exact ⟨n, t, e⟩
  · obtain ⟨n, t, e1⟩ := hx
    obtain ⟨m, u, e2⟩ := hy
    rw [keyLt'_oneType, e1, e2]
    refine oneLt_int ?_
    have q : Q (decide (numOf x.1 < numOf y.1)) { s with heap := h' } := q
    rw [e1, e2] at q
    exact q
  · match vs, h2, hI with
    | v1 :: v2 :: r, _, hI =>
      rw [keyKind_ints hI]
      exact wpAny_pure q
theorem ord_ints {us : List Value} {ms : List Int} {b : Bool} (hI : IntsAre us ms) (h : Ord2 KOi b us) : if b = true then ms.Pairwise (· ≥ ·) else ms.Pairwise (· ≤ ·) := by
  have e := hI.nums
  subst e
  cases b with
  | false =>
    simp only [Bool.false_eq_true, if_false, Ord2] at h ⊢
    rw [List.pairwise_map]
    exact h.imp fun {x y} q => by
      have q : decide (numOf y < numOf x) = false := q
      simpa using q
  | true =>
    simp only [if_true, Ord2] at h ⊢
    rw [List.pairwise_map]
    exact h.imp fun {x y} q => by
      have q : decide (numOf x < numOf y) = false := q
      simpa using q
theorem ints_perm {vs us : List Value} {ns : List Int} (hI : IntsAre vs ns) (hp : us.Perm vs) : ∃ ms, IntsAre us ms ∧ ms.Perm ns := by
  refine ⟨us.map numOf, intsAre_map us fun v hv => hI.all v (hp.mem_iff.mp hv), ?_⟩
  rw [← hI.nums]
  exact hp.map _
/-! ### tuples of ints -/
def lxB : List Int → List Int → Bool
  | _, [] => false
  | [], _ :: _ => true
  | a :: as, b :: bs => if a = b then lxB as bs else decide (a < b)
theorem lxB_irrefl : ∀ a, lxB a a = false
  | [] => rfl
  | a :: as => by rw [lxB, if_pos rfl]; exact lxB_irrefl as
theorem lxB_trans : ∀ a b c, lxB a b = true → lxB b c = true → lxB a c = true
  | _, [], _, h, _ => by rw [lxB] at h; cases h
  | _, _ :: _, [], _, h => by rw [lxB] at h; cases h
  | [], _ :: _, _ :: _, _, _ => rfl
  | a :: as, b :: bs, c :: cs, h1, h2 => by
    rw [lxB] at h1 h2 ⊢
    by_cases e1 : a = b
    · subst e1
      rw [if_pos rfl] at h1
      by_cases e2 : a = c
      · subst e2
        rw [if_pos rfl] at h2 ⊢
        exact lxB_trans as bs cs h1 h2
      · rw [if_neg e2] at h2 ⊢
        exact h2
    · rw [if_neg e1] at h1
      have h1 := of_decide_eq_true h1
      by_cases e2 : b = c
      · subst e2
        rw [if_neg e1]; exact decide_eq_true h1
      · rw [if_neg e2] at h2
        have h2 := of_decide_eq_true h2
        rw [if_neg (by omega)]; exact decide_eq_true (by omega)
theorem lxB_total : ∀ a b, lxB a b = false → lxB b a = false → a = b
  | [], [], _, _ => rfl
  | _ :: _, [], _, h => by rw [lxB] at h; cases h
  | [], _ :: _, h, _ => by rw [lxB] at h; cases h
  | a :: as, b :: bs, h1, h2 => by
    rw [lxB] at h1 h2
    by_cases e : a = b
    · subst e
      rw [if_pos rfl] at h1 h2
      rw [lxB_total as bs h1 h2]
    · rw [if_neg e] at h1
      rw [if_neg (fun z => e z.symm)] at h2
      have h1 := of_decide_eq_false h1
      have h2 := of_decide_eq_false h2
      omega
theorem lxB_neg (a b c : List Int) (h : lxB a c = true) : lxB a b = true ∨ lxB b c = true := by
  cases e1 : lxB a b with
  | true => exact .inl rfl
  | false =>
    right
    cases e2 : lxB b a with
    | true => exact lxB_trans b a c e2 h
    | false => rw [← lxB_total a b e1 e2]; exact h
/-- by the ints of tuples -/
def KOt (ks : Addr → List Int) : KO where
  α := List Int
  blt := lxB
  irrefl := lxB_irrefl
  trans := lxB_trans
  negTrans := lxB_neg
  total := lxB_total
  ky p := match p.1 with
    | .ref a => ks a
    | _ => []
theorem lex_int {b : Bool} {Q : Bool → Shared → Prop} {τ : Shared} {fin : Bool} : ∀ {xs ys : List Int} {us vs : List Value} {i : Nat}, IntsAre us xs → IntsAre vs ys → (Q (lxB xs ys) τ) → (fin = decide (xs.length < ys.length)) →
    PySem.W.KatLex prog w A b fin Q (us.zip vs) i τ
  | [], [], _, _, i, .nil, .nil, q, e => by
    rw [e]; exact PySem.W.kat_nil q
  | [], y :: ys, _, _, i, .nil, .cons _ _ _, q, e => by
    rw [e]; exact PySem.W.kat_nil (by simpa [lxB] using q)
  | x :: xs, [], _, _, i, .cons _ _ _, .nil, q, e => by
    rw [e]; exact PySem.W.kat_nil (by simpa [lxB] using q)
  | x :: xs, y :: ys, _, _, i, .cons _ t h1, .cons _ u h2, q, e => by
    rw [List.zip_cons_cons]
    refine PySem.W.kat_cons (wpAny_eqBool_int ?_)
    rw [lxB] at q
    by_cases c : x = y
    · subst c
      rw [if_pos rfl] at q
      rw [show (x == x) = true by simp]
      exact PySem.W.kat_yes (lex_int h1 h2 q (by rw [e]; simp))
    · rw [if_neg c] at q
      rw [show (x == y) = false by simpa using c]
      refine PySem.W.kat_no ?_
      cases b && i == 0 with
      | true => exact oneLt_int q
      | false => exact PySem.W.kat_one _ _ (PySem.P.lt_int q)
/-- a tuple of ints, one at least, in the heap -/
def TupI (h : Heap) (ks : Addr → List Int) (v : Value) : Prop := ∃ a o its n, v = .ref a ∧ h.get? a = some o ∧ o.cls = .type "tuple" ∧ o.data = .seq its n ∧ IntsAre its.toList (ks a) ∧ ks a ≠ []
theorem katTups_of {h : Heap} {ks : Addr → List Int} : ∀ {vs : List Value}, (∀ v ∈ vs, TupI h ks v) → ∃ fs : List Value, fs.length = vs.length ∧ PySem.W.KatTups h vs fs ∧ ∀ f ∈ fs, ∃ n t, f = .int n t
  | [], _ => ⟨[], rfl, PySem.W.KatTups.nil, fun f hf => nomatch hf⟩
  | v :: vs, hv => by
    obtain ⟨fs, e, k, q⟩ := katTups_of (vs := vs) fun u hu => hv u (List.mem_cons_of_mem _ hu)
    obtain ⟨a, o, its, n, rfl, ho, hc, hd, hI, hne⟩ := hv v (List.mem_cons_self ..)
    obtain ⟨l⟩ := its
    have hI : IntsAre l (ks a) := hI
    revert hI hd
    generalize ks a = z at hne ⊢
    intro hd hI
    cases hI with
    | nil => exact absurd rfl hne
    | cons m t hI => exact ⟨.int m t :: fs, by simp [e], PySem.W.KatTups.cons ho hc hd rfl k, fun f hf => by
        rcases List.mem_cons.mp hf with z | z
        · exact ⟨m, t, z⟩
        · exact q f z⟩
theorem sortable_tups {vs : List Value} {ks : Addr → List Int} (hT : ∀ v ∈ vs, TupI s.heap ks v) : Sortable prog w s (KOt ks) vs := by
  refine ⟨tuples' (Value.type "int" != Value.type "tuple"), (fun p => TupI s.heap ks p.1), hT, fun A h' kp x y hx hy E Q q => ?_, fun A E h' kp h2 Q q => ?_⟩
  · obtain ⟨a, o, its, n, e1, ho, hc, hd, hI, hne⟩ := hx
    obtain ⟨b, o', its', n', e2, ho', hc', hd', hI', hne'⟩ := hy
    have q : Q (lxB ((KOt ks).ky x) ((KOt ks).ky y)) { s with heap := h' } := q
    have k1 : (KOt ks).ky x = ks a := by show (match x.1 with | .ref a => ks a | _ => []) = _; rw [e1]
    have k2 : (KOt ks).ky y = ks b := by show (match y.1 with | .ref a => ks a | _ => []) = _; rw [e2]
    rw [k1, k2] at q
    rw [e1, e2]
    refine PySem.W.kat_lt (kp _ _ ho) hd (kp _ _ ho') hd' (lex_int hI hI' q ?_)
    rw [← hI.nums, ← hI'.nums, List.length_map, List.length_map, Array.length_toList, Array.length_toList]
  · obtain ⟨fs, e, k, hi⟩ := katTups_of (h := h') (ks := ks) (vs := vs) fun v hv => by
      obtain ⟨a, o, its, n, e1, ho, r⟩ := hT v hv
      exact ⟨a, o, its, n, e1, kp _ _ ho, r⟩
    refine PySem.W.kat_kind (T := Value.type "int") k (by omega) (fun v hv => ?_) rfl q
    obtain ⟨n, t, rfl⟩ := hi v hv
    exact PySem.W.Looks.now
end
end L2

set_option Elab.async false
set_option linter.all false
set_option maxRecDepth 100000
set_option maxHeartbeats 4000000
namespace L2
open PySem PySem.Spec PyProof.Rows PySem.SeqAt
section
variable {X : Cx}
theorem refs_vals : ∀ (ps : List Addr), Vals (ps.map V.ref) (ps.map Value.ref)
  | [] => .nil
  | p :: ps => .cons rfl (refs_vals ps)
def adr : Value → Addr
  | .ref a => a
  | _ => 0
theorem refs_back {ps : List Addr} {us : List Value} (h : us.Perm (ps.map Value.ref)) : ∃ qs : List Addr, us = qs.map Value.ref ∧ qs.Perm ps := by
  refine ⟨us.map adr, ?_, ?_⟩
  · rw [List.map_map]
    refine (List.map_id us).symm.trans (List.map_congr_left fun v hv => ?_)
    obtain ⟨p, _, e⟩ := List.mem_map.mp (h.mem_iff.mp hv)
    rw [← e]; rfl
  · have := h.map adr
    rwa [List.map_map, show (adr ∘ Value.ref) = id from rfl, List.map_id] at this
end
end L2

set_option Elab.async false
set_option linter.all false
set_option maxRecDepth 100000
set_option maxHeartbeats 4000000
namespace L2
open PySem PySem.Spec PyProof.Rows PySem.SeqAt
section
variable {prog : Program} {w : World} {A : Around} {E : Value → Shared → Prop} {s : Shared} {O : KO}
end
section
variable {X : Cx} {pins : List (Addr × Obj)} {σ : St} {H : Hp} {s : Shared} {h' : Heap}
/-- many new objects -/
def updAll (H : Hp) (as : List Addr) (f : Addr → HO) : Hp := fun b => if b ∈ as then some (f b) else H b
theorem updAll_in {as : List Addr} {f : Addr → HO} {b : Addr} (h : b ∈ as) : updAll H as f b = some (f b) := if_pos h
theorem updAll_out {as : List Addr} {f : Addr → HO} {b : Addr} (h : b ∉ as) : updAll H as f b = H b := if_neg h
theorem Inv.laidAll {as : List Addr} {f : Addr → HO} {t' : Nat} (I : Inv X pins σ H s) (k : ∀ b u, s.heap.get? b = some u → h'.get? b = some u) (hp : ∀ a ∈ as, s.heap.objs.size ≤ a)
    (new : ∀ a ∈ as, ObjOk X.prog X.w (updAll H as f) h' a (f a)) : Inv X pins σ (updAll H as f) { s with heap := h', toks := t' } := by
  have nn : ∀ b o, H b = some o → b ∉ as := fun b o q z => absurd (Nat.lt_of_lt_of_le (I.hok.lt q) (hp b z)) (Nat.lt_irrefl _)
  have kk : ∀ b o, H b = some o → updAll H as f b = some o := fun b o q => by rw [updAll_out (nn b o q)]; exact q
  refine I.un ⟨fun b u q _ _ _ => k b u q, fun b u q _ _ _ => ⟨u.slots, k b u q⟩, fun b u q n _ => ?_, fun b u q _ => ⟨u, k b u q⟩, fun b xs q => kk b _ q, fun b u xs q => kk b _ q, fun b ps q => ⟨#[], by rw [kk b _ q]; simp⟩⟩ fun b u q => ?_
  · rw [updAll_out fun z => absurd (Nat.lt_of_lt_of_le (Heap.lt_size q) (hp b z)) (Nat.lt_irrefl _)]; exact n
  · by_cases hb : b ∈ as
    · rw [updAll_in hb] at q; cases q; exact new b hb
    · rw [updAll_out hb] at q
      exact (I.hok b u q).stay (fun c v _ r => k c v r) (fun c r => kk c _ r) fun c xs r => kk c _ r
end
theorem zip_lookup {β : Type} {q : β} : ∀ {as : List Addr} {ps : List β} {j : Nat} {a : Addr}, as.Pairwise (· < ·) → as[j]? = some a → ps[j]? = some q → (as.zip ps).lookup a = some q
  | [], _, _, _, _, h, _ => by simp at h
  | _ :: _, [], _, _, _, _, h => by simp at h
  | x :: as, y :: ps, 0, a, hp, h1, h2 => by
    simp at h1 h2
    subst h1 h2
    simp
  | x :: as, y :: ps, j + 1, a, hp, h1, h2 => by
    have hp := List.pairwise_cons.mp hp
    have h1 : as[j]? = some a := by simpa using h1
    have h2 : ps[j]? = some q := by simpa using h2
    have hne : (a == x) = false := by
      have := hp.1 a (List.mem_of_getElem? h1)
      simpa using (Nat.ne_of_gt this)
    rw [List.zip_cons_cons, List.lookup_cons, hne]
    exact zip_lookup hp.2 h1 h2
/-- {k: v} -/
def tDisp1 (tk tv : TE) : TE := fun σ H Q => ∀ p, H p = none → tk σ (upd H p (.dK [])) fun x H1 => tv σ H1 fun y H2 => H2 p = some (.dK []) ∧ ∃ kvs : List (Key × V), [(x, y)] = kvs.map (fun kv => (kV kv.1, kv.2)) ∧ kvs.length ≤ 15 ∧ Q (.ref p) (upd H2 p (.dK (mergeK [] kvs)))
theorem pe_disp1 {X : Cx} {pos : Pos} {k v : Expr} {tk tv : TE} (hk : PE X k tk) (hv : PE X v tv) : PE X (.Dict [some k] [v] pos) (tDisp1 tk tv) := by
  intro pins s σ H Q I q
  exact pe_disp (pps_cons hk hv pps_nil) rfl rfl (by intro z; cases z) (by show 1 ≤ 15; decide) pins s σ H Q I q
/-- a dict of ints by ints -/
abbrev dI (ps : List (Int × Int)) : HO := .dK (ps.map fun q => (Sum.inl q.1, V.int q.2))
section
variable {X : Cx}
end
end L2

set_option Elab.async false
set_option linter.all false
set_option maxRecDepth 100000
set_option maxHeartbeats 4000000
namespace L2
open PySem PySem.Spec PyProof.Rows
/-! ### a closed word for expressions -/
structure WE (X : Cx) (e : Expr) (t : TE) : Prop where
  out : PE X e t
section
variable {X : Cx} {a b e k v : Expr} {ta tb te tk tv : TE} {pos : Pos} {es : List Expr} {t : TA}
theorem we (h : PE X e te) : WE X e te := ⟨h⟩
theorem we_op {op : Operator} {r : R2} (ho : OpR X (binaryOp op) r) (ha : WE X a ta) (hb : WE X b tb) : WE X (.BinOp a op b pos) (tOp r ta tb) := ⟨pe_op ho ha.out hb.out⟩
theorem we_disp1 (h1 : WE X k tk) (h2 : WE X v tv) : WE X (.Dict [some k] [v] pos) (tDisp1 tk tv) := ⟨pe_disp1 h1.out h2.out⟩
theorem we_int {i : Int} {j} : WE X (.Constant (.int i) j pos) (tC (.int i)) := ⟨pe_int⟩
theorem we_lst (h : WA X es t) : WE X (.List es pos) (tLst t) := ⟨pe_lst h.out⟩
theorem we_tup {x1} (h : WA X es t) : WE X (.Tuple es x1 pos) (tTup t) := ⟨pe_tup h.out⟩
theorem wa_consE (hn : notStarW e = true) (ha : WE X e te) (hr : WA X es t) : WA X (e :: es) (tCons te t) := ⟨pa_cons ha.out hr.out (star_consW hn)⟩
theorem ws_ret (he : WE X e te) : WS X (.Return (some e) pos) (tRet te) := ⟨ps_ret he.out⟩
theorem ws_set {i : Nat} {x : Str} {pos' : Pos} (hN : X.N.Nodup) (hi : X.N[i]? = some x) (hx : Loc X.env.scope x) (he : WE X e te) (hs : swapsWith e (some (.Name x pos')) pos.line X.env = pure false := by rfl) (hf : X.fn x = true ∨ X.env.scope.names.lookup x = some .local := by first | exact .inl rfl | exact .inr rfl | assumption) :
    WS X (.Assign [.Name x pos'] e pos) (tAsg te (gName i)) := ⟨ps_set hN hi hx he.out hs hf⟩
theorem we_frz {te : TE} (h : WE X e te) : WE X e (tFrz te) := ⟨pe_frz h.out⟩
end
end L2

set_option Elab.async false
set_option linter.all false
set_option maxRecDepth 100000
set_option maxHeartbeats 4000000
namespace Lv
open PySem L2
/-! ### dicts of counts -/
def oz (c : Int) : Option V := if c = 0 then none else some (.int c)
theorem oz1 {c : Int} (h : c ≠ 0) : oz c = some (.int c) := if_neg h
def Rep (kvs : List (Key × V)) (f : Int → Int) : Prop := (∀ p ∈ kvs, ∃ m c : Int, p = (Sum.inl m, V.int c)) ∧ (kvs.map (·.1)).Nodup ∧ ∀ m : Int, valV kvs (Sum.inl m) = oz (f m)
theorem Rep.nil : Rep [] (fun _ => 0) := ⟨(fun p h => absurd h List.not_mem_nil), List.nodup_nil, (fun m => rfl)⟩
theorem Rep.congr {kvs : List (Key × V)} {f g : Int → Int} (h : Rep kvs f) (e : ∀ m, f m = g m) : Rep kvs g := by
  have : f = g := funext e
  rw [← this]; exact h
theorem keys_put {kvs : List (Key × V)} {k : Key} {v : V} : (putK kvs k v).map (·.1) = kvs.map (·.1) ∨ (k ∉ kvs.map (·.1) ∧ (putK kvs k v).map (·.1) = kvs.map (·.1) ++ [k]) := by
  unfold putK
  by_cases h : (kvs.any fun kv => decide (kv.1 = k)) = true
  · rw [if_pos h]
    left
    rw [List.map_map]
    refine List.map_congr_left fun p _ => ?_
    show (if p.1 = k then (p.1, v) else p).1 = p.1
    split <;> rfl
  · rw [if_neg h]
    right
    refine ⟨fun hm => h ?_, by simp⟩
    obtain ⟨p, hp, e⟩ := List.mem_map.mp hm
    exact List.any_eq_true.mpr ⟨p, hp, decide_eq_true e⟩
theorem mem_put {kvs : List (Key × V)} {k : Key} {v : V} {p : Key × V} (h : p ∈ putK kvs k v) : p ∈ kvs ∨ p = (k, v) := by
  unfold putK at h
  split at h
  · obtain ⟨q, hq, e⟩ := List.mem_map.mp h
    split at e
    · rename_i e2
      right
      rw [← e, e2]
    · left; rw [← e]; exact hq
  · rcases List.mem_append.mp h with h | h
    · exact .inl h
    · exact .inr (List.mem_singleton.mp h)
theorem Rep.put {kvs : List (Key × V)} {f : Int → Int} {m c : Int} (h : Rep kvs f) (hc : c ≠ 0) : Rep (putK kvs (Sum.inl m) (.int c)) (fun j => if j = m then c else f j) := by
  obtain ⟨h1, h2, h3⟩ := h
  refine ⟨fun p hp => ?_, ?_, fun j => ?_⟩
  · rcases mem_put hp with hp | rfl
    · exact h1 p hp
    · exact ⟨m, c, rfl⟩
  · rcases keys_put (kvs := kvs) (k := Sum.inl m) (v := .int c) with e | ⟨hn, e⟩
    · rw [e]; exact h2
    · rw [e]; exact nd_snoc h2 hn
  · rw [valV_put]
    by_cases e : j = m
    · subst e
      rw [if_pos rfl]
      show _ = oz (if j = j then c else f j)
      rw [if_pos rfl, oz1 hc]
    · rw [if_neg (by intro z; exact e (Sum.inl.inj z))]
      show _ = oz (if j = m then c else f j)
      rw [if_neg e]; exact h3 j
theorem valV_mem {kvs : List (Key × V)} {k : Key} {v : V} (hn : (kvs.map (·.1)).Nodup) (h : (k, v) ∈ kvs) : valV kvs k = some v := by
  induction kvs with
  | nil => cases h
  | cons p r ih =>
    rw [List.map_cons, List.nodup_cons] at hn
    rcases List.mem_cons.mp h with rfl | h
    · exact valV_pos rfl
    · rw [valV_neg (fun e => hn.1 (by rw [e]; exact List.mem_map.mpr ⟨_, h, rfl⟩))]
      exact ih hn.2 h
theorem Rep.at {kvs : List (Key × V)} {f : Int → Int} {k : Key} {v : V} (h : Rep kvs f) (hm : (k, v) ∈ kvs) : ∃ m : Int, k = Sum.inl m ∧ v = .int (f m) ∧ f m ≠ 0 := by
  obtain ⟨m, c, e⟩ := h.1 _ hm
  cases e
  have e2 := valV_mem h.2.1 hm
  rw [h.2.2 m] at e2
  by_cases hz : f m = 0
  · rw [hz] at e2; cases e2
  · rw [oz1 hz] at e2
    exact ⟨m, rfl, (Option.some.inj e2).symm, hz⟩
theorem Rep.key {kvs : List (Key × V)} {f : Int → Int} {m : Int} (h : Rep kvs f) (hm : f m ≠ 0) : (Sum.inl m : Key) ∈ kvs.map (·.1) := by
  have := h.2.2 m
  rw [oz1 hm] at this
  exact valV_in this
theorem Rep.nkey {kvs : List (Key × V)} {f : Int → Int} {m : Int} (h : Rep kvs f) (hm : f m = 0) : (Sum.inl m : Key) ∉ kvs.map (·.1) := by
  have := h.2.2 m
  rw [hm] at this
  exact valV_not this
theorem Rep.get {kvs : List (Key × V)} {f : Int → Int} (h : Rep kvs f) (m : Int) : (valV kvs (Sum.inl m)).getD (.int 0) = .int (f m) := by
  rw [h.2.2 m]
  by_cases hz : f m = 0
  · rw [hz]; rfl
  · rw [oz1 hz]; rfl
def dec (p : Key × V) : Int × Int := (match p.1 with | .inl m => m | .inr _ => 0, match p.2 with | .int c => c | _ => 0)
def enc (q : Int × Int) : Key × V := (Sum.inl q.1, V.int q.2)
theorem Rep.dec {kvs : List (Key × V)} {f : Int → Int} (h : Rep kvs f) : kvs = (kvs.map Lv.dec).map enc := by
  rw [List.map_map]
  refine (List.map_id kvs).symm.trans (List.map_congr_left fun p hp => ?_)
  obtain ⟨m, c, rfl⟩ := h.1 p hp
  rfl
theorem Rep.nd {kvs : List (Key × V)} {f : Int → Int} (h : Rep kvs f) : ((kvs.map Lv.dec).map (·.1)).Nodup := by
  have h2 := h.2.1
  rw [h.dec, List.map_map] at h2
  have h3 : ((kvs.map Lv.dec).map fun q => (Sum.inl q.1 : Key)).Nodup := h2
  unfold List.Nodup at h3 ⊢
  rw [List.pairwise_map] at h3 ⊢
  exact h3.imp fun {a b} z e => z (by rw [e])
theorem nd_len {l : List Int} {B : Nat} (hn : l.Nodup) (hb : ∀ x ∈ l, 0 ≤ x ∧ x ≤ (B : Int)) : l.length ≤ B + 1 := by
  have : ∀ (B : Nat) (l : List Int), l.Nodup → (∀ x ∈ l, 0 ≤ x ∧ x < (B : Int)) → l.length ≤ B := by
    intro B
    induction B with
    | zero =>
      intro l _ hb
      cases l with
      | nil => exact Nat.zero_le _
      | cons x r => have := hb x (by simp); omega
    | succ B ih =>
      intro l hn hb
      by_cases h : (B : Int) ∈ l
      · have h1 := ih (l.erase B) (hn.erase _) fun x hx => by
          have h2 := (List.Nodup.mem_erase_iff hn).mp hx
          have := hb x h2.2
          have := h2.1
          omega
        rw [List.length_erase_of_mem h] at h1
        omega
      · have := ih l hn fun x hx => by
          have h2 := hb x hx
          have : x ≠ B := by rintro rfl; exact h hx
          omega
        omega
  exact this (B + 1) l hn fun x hx => by have := hb x hx; omega
theorem Rep.len {kvs : List (Key × V)} {f : Int → Int} {B : Nat} (h : Rep kvs f) (hb : ∀ m, f m ≠ 0 → 0 ≤ m ∧ m ≤ (B : Int)) : kvs.length ≤ B + 1 := by
  have := nd_len (B := B) h.nd fun x hx => by
    rw [List.map_map] at hx
    obtain ⟨⟨k, v⟩, hp, rfl⟩ := List.mem_map.mp hx
    obtain ⟨m, rfl, rfl, hz⟩ := h.at hp
    exact hb m hz
  simpa using this
open Classical in
/-- g of the keys that are taken -/
noncomputable def tkn (g : Int → Int) (ks : List Key) (m : Int) : Int := if (Sum.inl m : Key) ∈ ks then g m else 0
theorem tkn_nil (g : Int → Int) (m : Int) : tkn g [] m = 0 := if_neg List.not_mem_nil
theorem tkn_out {g : Int → Int} {ks : List Key} {m : Int} (h : (Sum.inl m : Key) ∉ ks) : tkn g ks m = 0 := if_neg h
theorem tkn_in {g : Int → Int} {ks : List Key} {m : Int} (h : (Sum.inl m : Key) ∈ ks) : tkn g ks m = g m := if_pos h
theorem tkn_all {g : Int → Int} {kvs : List (Key × V)} (h : Rep kvs g) (m : Int) : tkn g (kvs.map (·.1)) m = g m := by
  by_cases e : g m = 0
  · rw [tkn_out (h.nkey e), e]
  · exact tkn_in (h.key e)
theorem tkn_zero {g : Int → Int} {ks : List Key} {m : Int} (h : g m = 0) : tkn g ks m = 0 := by
  unfold tkn
  split
  · exact h
  · rfl
theorem tkn_snoc {g : Int → Int} {ks : List Key} {m j : Int} (h : (Sum.inl m : Key) ∉ ks) : tkn g (ks ++ [Sum.inl m]) j = if j = m then g m else tkn g ks j := by
  by_cases e : j = m
  · subst e
    rw [if_pos rfl, tkn_in (by simp)]
  · rw [if_neg e]
    by_cases h2 : (Sum.inl j : Key) ∈ ks
    · rw [tkn_in h2, tkn_in (List.mem_append_left _ h2)]
    · rw [tkn_out h2, tkn_out fun z => ?_]
      rcases List.mem_append.mp z with z | z
      · exact h2 z
      · have z : (Sum.inl j : Key) = Sum.inl m := by simpa using z
        exact e (Sum.inl.inj z)
theorem keys_take {kvs : List (Key × V)} {i : Nat} {k : Key} {v : V} (h : kvs[i]? = some (k, v)) : (kvs.take (i + 1)).map (·.1) = (kvs.take i).map (·.1) ++ [k] := by
  rw [List.take_add_one, h]; simp
theorem key_new {kvs : List (Key × V)} {i : Nat} {k : Key} {v : V} (nd : (kvs.map (·.1)).Nodup) (hi : kvs[i]? = some (k, v)) : k ∉ (kvs.take i).map (·.1) := fun hm => by
  obtain ⟨q, hq, e⟩ := List.mem_map.mp hm
  obtain ⟨j, hj⟩ := List.getElem?_of_mem hq
  have hji : j < i := by
    have := (List.getElem?_eq_some_iff.mp hj).1
    rw [List.length_take] at this; omega
  rw [List.getElem?_take_of_lt hji] at hj
  have a1 : (kvs.map (·.1))[j]? = some k := by rw [List.getElem?_map, hj, ← e]; rfl
  have a2 : (kvs.map (·.1))[i]? = some k := by rw [List.getElem?_map, hi]; rfl
  have hj2 := (List.getElem?_eq_some_iff.mp a1).1
  have := (List.getElem?_inj hj2 nd).mp (a1.trans a2.symm)
  omega
/-! ### the pairs in order -/
def SprL (L : List (Int × Int)) (f : Int → Int) : Prop := L.Pairwise (fun p q => p.1 < q.1) ∧ ∀ m c, (m, c) ∈ L ↔ (c = f m ∧ c ≠ 0)
theorem spr_of {kvs : List (Key × V)} {f : Int → Int} {ms : List (Int × Int)} (h : Rep kvs f) (hp : ms.Perm (kvs.map Lv.dec)) (hs : ms.Pairwise (fun p q => lxB [q.1, q.2] [p.1, p.2] = false)) : SprL ms f := by
  have nd : (ms.map (·.1)).Nodup := (hp.map (·.1)).nodup_iff.mpr h.nd
  unfold List.Nodup at nd
  rw [List.pairwise_map] at nd
  refine ⟨(hs.and nd).imp ?_, fun m c => ?_⟩
  · rintro p q ⟨a, b⟩
    have a : (if q.1 = p.1 then lxB [q.2] [p.2] else decide (q.1 < p.1)) = false := a
    rw [if_neg (Ne.symm b)] at a
    have := of_decide_eq_false a
    omega
  · rw [hp.mem_iff]
    constructor
    · intro hm
      obtain ⟨⟨k, v⟩, hp, e⟩ := List.mem_map.mp hm
      obtain ⟨m', rfl, rfl, hz⟩ := h.at hp
      have e1 : m' = m := congrArg Prod.fst e
      have e2 : f m' = c := congrArg Prod.snd e
      subst e1 e2
      exact ⟨rfl, hz⟩
    · rintro ⟨rfl, hz⟩
      have hk := h.key hz
      obtain ⟨⟨k, v⟩, hp, e⟩ := List.mem_map.mp hk
      obtain ⟨m', rfl, rfl, _⟩ := h.at hp
      have e1 : m' = m := Sum.inl.inj e
      subst e1
      exact List.mem_map.mpr ⟨_, hp, rfl⟩
theorem srt_ext : ∀ {L M : List (Int × Int)}, L.Pairwise (fun p q => p.1 < q.1) → M.Pairwise (fun p q => p.1 < q.1) → (∀ x, x ∈ L ↔ x ∈ M) → L = M
  | [], [], _, _, _ => rfl
  | [], b :: M, _, _, h => absurd ((h b).mpr List.mem_cons_self) (by simp)
  | a :: L, [], _, _, h => absurd ((h a).mp List.mem_cons_self) (by simp)
  | a :: L, b :: M, h1, h2, h => by
    obtain ⟨a1, a2⟩ := List.pairwise_cons.mp h1
    obtain ⟨b1, b2⟩ := List.pairwise_cons.mp h2
    have e : a = b := by
      rcases List.mem_cons.mp ((h a).mp List.mem_cons_self) with e | z
      · exact e
      · rcases List.mem_cons.mp ((h b).mpr List.mem_cons_self) with e | y
        · exact e.symm
        · have := b1 a z
          have := a1 b y
          omega
    subst e
    congr 1
    refine srt_ext a2 b2 fun x => ?_
    constructor
    · intro hx
      rcases List.mem_cons.mp ((h x).mp (List.mem_cons_of_mem _ hx)) with e | z
      · subst e; have := a1 x hx; omega
      · exact z
    · intro hx
      rcases List.mem_cons.mp ((h x).mpr (List.mem_cons_of_mem _ hx)) with e | z
      · subst e; have := b1 x hx; omega
      · exact z
theorem SprL.uniq {L M : List (Int × Int)} {f : Int → Int} (h : SprL L f) (g : SprL M f) : L = M := srt_ext h.1 g.1 fun ⟨m, c⟩ => by rw [h.2, g.2]
/-! ### how often a number stands in a row -/
def cn (xs : List Int) (m : Int) : Int := (xs.count m : Int)
theorem cn_nil (m : Int) : cn [] m = 0 := by simp [cn]
theorem cn_pos (xs : List Int) (m : Int) : 0 ≤ cn xs m := by unfold cn; omega
theorem cn_app (xs ys : List Int) (m : Int) : cn (xs ++ ys) m = cn xs m + cn ys m := by unfold cn; rw [List.count_append]; omega
theorem cn_zero {xs : List Int} {m : Int} : cn xs m = 0 ↔ m ∉ xs := by unfold cn; rw [← List.count_eq_zero]; omega
theorem cn_ne {xs : List Int} {m : Int} : cn xs m ≠ 0 ↔ m ∈ xs := by
  rw [Ne, cn_zero, Classical.not_not]
theorem cn_cons (x : Int) (xs : List Int) (m : Int) : cn (x :: xs) m = (if m = x then 1 else 0) + cn xs m := by
  unfold cn
  rw [List.count_cons]
  by_cases h : m = x
  · subst h; simp; omega
  · have : ¬ x = m := fun z => h z.symm
    simp [h, this]
theorem cn_shift (xs : List Int) (m : Int) : cn (xs.map (· + 1)) m = cn xs (m - 1) := by
  induction xs with
  | nil => simp [cn]
  | cons x xs ih =>
    rw [List.map_cons, cn_cons, cn_cons, ih]
    by_cases h : m = x + 1
    · rw [if_pos h, if_pos (by omega)]
    · rw [if_neg h, if_neg (by omega)]
def DDs (H : Hp) (rs : List Addr) (N : List (List Int)) : Prop := rs.length = N.length ∧ ∀ (j : Nat) r xs, rs[j]? = some r → N[j]? = some xs → ∃ kvs, H r = some (.dK kvs) ∧ Rep kvs (cn xs)
theorem DDs.same {H H' : Hp} {rs : List Addr} {N : List (List Int)} (h : DDs H rs N) (s : Same H H') : DDs H' rs N := ⟨h.1, fun j r xs a b => let ⟨kvs, e, q⟩ := h.2 j r xs a b; ⟨kvs, s _ _ e, q⟩⟩
theorem DDs.nil {H : Hp} : DDs H [] [] := ⟨rfl, fun j r xs a => by simp at a⟩
theorem DDs.snoc {H : Hp} {rs : List Addr} {N : List (List Int)} {r : Addr} {x : List Int} {kvs : List (Key × V)} (h : DDs H rs N) (e : H r = some (.dK kvs)) (q : Rep kvs (cn x)) : DDs H (rs ++ [r]) (N ++ [x]) := ⟨by simp [h.1], fun j r' xs a b => by
  rcases Nat.lt_trichotomy j rs.length with z | z | z
  · rw [List.getElem?_append_left z] at a
    rw [List.getElem?_append_left (by rw [← h.1]; exact z)] at b
    exact h.2 j r' xs a b
  · subst z
    rw [List.getElem?_append_right (Nat.le_refl _)] at a
    rw [h.1, List.getElem?_append_right (Nat.le_refl _)] at b
    simp at a b
    subst a b
    exact ⟨kvs, e, q⟩
  · rw [List.getElem?_eq_none (by simp; omega)] at a; cases a⟩
theorem DDs.cons {H : Hp} {rs : List Addr} {N : List (List Int)} {r : Addr} {x : List Int} {kvs : List (Key × V)} (h : DDs H rs N) (e : H r = some (.dK kvs)) (q : Rep kvs (cn x)) : DDs H (r :: rs) (x :: N) := ⟨by simp [h.1], fun j r' xs a b => by
  cases j with
  | zero => simp at a b; subst a b; exact ⟨kvs, e, q⟩
  | succ j => exact h.2 j r' xs (by simpa using a) (by simpa using b)⟩
theorem DDs.tail {H : Hp} {rs : List Addr} {N : List (List Int)} {r : Addr} {x : List Int} (h : DDs H (r :: rs) (x :: N)) : DDs H rs N := ⟨by simpa using h.1, fun j r' xs a b => h.2 (j + 1) r' xs (by simpa using a) (by simpa using b)⟩
theorem DDs.at {H : Hp} {rs : List Addr} {N : List (List Int)} {j : Nat} {r : Addr} (h : DDs H rs N) (e : rs[j]? = some r) : ∃ xs kvs, N[j]? = some xs ∧ H r = some (.dK kvs) ∧ Rep kvs (cn xs) := by
  have hj := (List.getElem?_eq_some_iff.mp e).1
  rw [h.1] at hj
  have e2 : N[j]? = some N[j] := List.getElem?_eq_getElem hj
  obtain ⟨kvs, a, b⟩ := h.2 j r _ e e2
  exact ⟨_, kvs, e2, a, b⟩
def Bd (B : Int) (N : List (List Int)) : Prop := ∀ xs ∈ N, ∀ m ∈ xs, 0 ≤ m ∧ m ≤ B
theorem Bd.mono {B B' : Int} {N : List (List Int)} (h : Bd B N) (hb : B ≤ B') : Bd B' N := fun xs a m b => by have := h xs a m b; omega
theorem bd_num (p : Nat) : ∀ n : Nat, Bd n (num p n)
  | 0 => fun xs a m b => by
    rcases List.mem_cons.mp (show xs ∈ [0] :: List.replicate (p - 1) [] from a) with rfl | h
    · have : m = 0 := by simpa using b
      omega
    · rw [(List.mem_replicate.mp h).2] at b; cases b
  | n + 1 => fun xs a m b => by
    have ih := bd_num p n
    have hf : ∀ m ∈ fstN (num p n), 0 ≤ m ∧ m ≤ ((n + 1 : Nat) : Int) := fun m hm => by
      unfold fstN at hm
      obtain ⟨y, hy, rfl⟩ := List.mem_map.mp hm
      cases e : num p n with
      | nil => rw [e] at hy; cases hy
      | cons c r =>
        rw [e] at hy
        have := ih c (by rw [e]; exact List.mem_cons_self) y hy
        omega
    rcases List.mem_append.mp (show xs ∈ ((num p n).tail.map (fstN (num p n) ++ ·)) ++ [fstN (num p n)] from a) with h | h
    · obtain ⟨y, hy, rfl⟩ := List.mem_map.mp h
      rcases List.mem_append.mp b with b | b
      · exact hf m b
      · have := ih y (List.mem_of_mem_tail hy) m b
        omega
    · rw [List.mem_singleton.mp h] at b
      exact hf m b
theorem bd_flat {B : Int} {N : List (List Int)} (h : Bd B N) : ∀ m, cn N.flatten m ≠ 0 → 0 ≤ m ∧ m ≤ B := fun m hm => by
  obtain ⟨xs, a, b⟩ := List.mem_flatten.mp (cn_ne.mp hm)
  exact h xs a m b
def pr2 (q : Int × Int) : List Int := [q.1, q.2]
def spFirstS : Sp := fun vs H Q _ => ∃ p : Nat, vs = [.int p] ∧ 2 ≤ p ∧ p ≤ 7 ∧ ∀ l qs H', H l = none → H' l = some (.lst (qs.map V.ref)) → DDs H' qs (num0 p) → Same H H' → Q (.ref l) H'
def spBothS : Sp := fun vs H Q _ => ∃ (a b : Addr) (k1 k2 : List (Key × V)) (f g : Int → Int), vs = [.ref a, .ref b] ∧ H a = some (.dK k1) ∧ H b = some (.dK k2) ∧ Rep k1 f ∧ Rep k2 g ∧ (∀ m, 0 ≤ f m) ∧ (∀ m, 0 ≤ g m) ∧ (∀ m, f m ≠ 0 → 0 ≤ m ∧ m ≤ 400) ∧ (∀ m, g m ≠ 0 → 0 ≤ m ∧ m ≤ 400) ∧
  ∀ l kvs H', H l = none → H' l = some (.dK kvs) → Rep kvs (fun m => f m + g m) → Same H H' → Q (.ref l) H'
def spNextS (nx : List (List Int) → List (List Int)) : Sp := fun vs H Q _ => ∃ (a : Addr) (rs : List Addr) (N : List (List Int)), vs = [.ref a] ∧ H a = some (.lst (rs.map V.ref)) ∧ DDs H rs N ∧ 2 ≤ N.length ∧ N.length ≤ 7 ∧ Bd 399 N ∧
  ∀ l qs H', H l = none → H' l = some (.lst (qs.map V.ref)) → DDs H' qs (nx N) → Same H H' → Q (.ref l) H'
end Lv

set_option Elab.async false
set_option linter.all false
set_option maxRecDepth 100000
set_option maxHeartbeats 4000000
namespace L2
open PySem PySem.Spec PyProof.Rows
/-! ### what a thing reads as: leaves, lists and tuples -/
mutual
inductive RdN (H : Hp) : V → PyData → Prop
  | non : RdN H .non .none
  | bl (b : Bool) : RdN H (.bl b) (.bool b)
  | int (i : Int) : RdN H (.int i) (.int i)
  | str (x : Str) : RdN H (.str x) (.str x)
  | lst {a : Addr} {xs : List V} {ds : List PyData} : H a = some (.lst xs) → RdL H xs ds → RdN H (.ref a) (.list ds)
  | tup {a : Addr} {xs : List V} {ds : List PyData} : H a = some (.tup xs) → RdL H xs ds → RdN H (.ref a) (.tuple ds)
inductive RdL (H : Hp) : List V → List PyData → Prop
  | nil : RdL H [] []
  | cons {x : V} {xs : List V} {d : PyData} {ds : List PyData} : RdN H x d → RdL H xs ds → RdL H (x :: xs) (d :: ds)
end
section
variable {P : Program} {w : World} {H : Hp} {h : Heap}
end
section
variable {X : Cx}
end
end L2

set_option Elab.async false
set_option linter.all false
set_option maxRecDepth 100000
set_option maxHeartbeats 4000000
namespace L2
open PySem PySem.Spec PyProof.Rows PySem.SeqAt
/-! ### things that read alike are alike -/
section
variable {P : Program} {w : World} {H : Hp} {s : Shared}
theorem RdL.len_eq : ∀ {xs ys : List V} {ds : List PyData}, RdL H xs ds → RdL H ys ds → xs.length = ys.length
  | _, _, _, .nil, r => by cases r; rfl
  | _, _, _, .cons _ q, r => by
    cases r with
    | cons _ q2 => rw [List.length_cons, List.length_cons, RdL.len_eq q q2]
mutual
theorem RdN.eqs (ok : HOk P w H s.heap) : ∀ {x : V} {d : PyData}, RdN H x d → ∀ {y : V}, RdN H y d → ∀ {u v : Value}, RelV x u → RelV y v → ∀ A : Around, A.units + d.depth < cLine → EqAt A s u v true
  | _, _, .non, y, r, u, v, h1, h2, A, hu => by
    cases r
    cases (show u = Value.none from h1); cases (show v = Value.none from h2)
    exact EqAt.same _
  | _, _, .bl b, y, r, u, v, h1, h2, A, hu => by
    cases r
    cases (show u = Value.bool b from h1); cases (show v = Value.bool b from h2)
    exact EqAt.same _
  | _, _, .int i, y, r, u, v, h1, h2, A, hu => by
    cases r
    obtain ⟨t, z⟩ := (show ∃ t, u = Value.int i t from h1); cases z
    obtain ⟨t2, z⟩ := (show ∃ t, v = Value.int i t from h2); cases z
    have := EqAt.int_int (A := A) (s := s) i t i t2
    rw [beq_self_eq_true] at this
    exact this
  | _, _, .str x, y, r, u, v, h1, h2, A, hu => by
    cases r
    obtain ⟨t, z⟩ := (show ∃ t, u = Value.str x t from h1); cases z
    obtain ⟨t2, z⟩ := (show ∃ t, v = Value.str x t from h2); cases z
    have := EqAt.str_str (A := A) (s := s) x t x t2
    rw [show (x == x) = true from by rw [← str_beq]; exact beq_self_eq_true _] at this
    exact this
  | _, _, .lst (a := a) (xs := xs) (ds := ds) e q, y, r, u, v, h1, h2, A, hu => by
    cases r with
    | lst e2 q2 =>
      rename_i b ys
      cases (show u = Value.ref a from h1); cases (show v = Value.ref b from h2)
      by_cases hab : a = b
      · subst hab; exact EqAt.same _
      obtain ⟨_, i1, n1, v1, g1⟩ := (show ObjOk P w H s.heap a (.lst xs) from ok a _ e)
      obtain ⟨_, i2, n2, v2, g2⟩ := (show ObjOk P w H s.heap b (.lst ys) from ok b _ e2)
      have hd : A.units + (PyData.depthAll ds + 1) < cLine := hu
      have hl := q.len_eq q2
      refine EqAt.of_refs hab ?_
      have := RcAt.lists (A := A) (s := s) (e := fun _ => true) (l := a) (b := b) (items := i1.toArray) (items2 := i2.toArray) ⟨_, g1, rfl, n1, rfl⟩ ⟨_, g2, rfl, n2, rfl⟩ (by rw [List.size_toArray, List.size_toArray, ← v1.length, ← v2.length, hl]) (by omega) (fun j h1 h2 => by
        have := RdL.eqs ok q q2 v1 v2 A.in1 (by show A.units + 1 + _ < _; omega) j (by simpa using h1) (by simpa using h2)
        simpa using this)
      rw [all_range] at this
      exact this
  | _, _, .tup (a := a) (xs := xs) (ds := ds) e q, y, r, u, v, h1, h2, A, hu => by
    cases r with
    | tup e2 q2 =>
      rename_i b ys
      cases (show u = Value.ref a from h1); cases (show v = Value.ref b from h2)
      by_cases hab : a = b
      · subst hab; exact EqAt.same _
      obtain ⟨_, i1, v1, o1, g1, c1, _, n1, k1⟩ := (show ObjOk P w H s.heap a (.tup xs) from ok a _ e)
      obtain ⟨_, i2, v2, o2, g2, c2, _, n2, k2⟩ := (show ObjOk P w H s.heap b (.tup ys) from ok b _ e2)
      have hd : A.units + (PyData.depthAll ds + 1) < cLine := hu
      have hl := q.len_eq q2
      refine EqAt.of_refs hab ?_
      have := RcAt.tuples (A := A) (s := s) (e := fun _ => true) (l := a) (b := b) (items := i1.toArray) (items2 := i2.toArray) ⟨o1, g1, c1, n1, k1⟩ ⟨o2, g2, c2, n2, k2⟩ (by omega) (fun j h1 h2 => by
        have := RdL.eqs ok q q2 v1 v2 A.in1 (by show A.units + 1 + _ < _; omega) j (by simpa using h1) (by simpa using h2)
        simpa using this)
      rw [all_range, List.size_toArray, List.size_toArray, ← v1.length, ← v2.length, hl, beq_self_eq_true] at this
      exact this
theorem RdL.eqs (ok : HOk P w H s.heap) : ∀ {xs : List V} {ds : List PyData}, RdL H xs ds → ∀ {ys : List V}, RdL H ys ds → ∀ {us vs : List Value}, Vals xs us → Vals ys vs → ∀ A : Around, A.units + PyData.depthAll ds < cLine → ∀ (j : Nat) (h1 : j < us.length) (h2 : j < vs.length), EqAt A s us[j] vs[j] true
  | _, _, .nil, ys, r, us, vs, v1, v2, A, hu, j, h1, h2 => by
    cases v1
    exact absurd h1 (Nat.not_lt_zero _)
  | _, _, .cons (d := d) (ds := ds) p q, ys, r, us, vs, v1, v2, A, hu, j, h1, h2 => by
    cases r with
    | cons p2 q2 =>
      cases v1 with
      | cons a1 b1 =>
        cases v2 with
        | cons a2 b2 =>
          have hm : PyData.depthAll (d :: ds) = max d.depth (PyData.depthAll ds) := by rw [PyData.depthAll]
          rw [hm] at hu
          cases j with
          | zero => exact RdN.eqs ok p p2 a1 a2 A (by omega)
          | succ j => exact RdL.eqs ok q q2 b1 b2 A (by omega) j (by simpa using h1) (by simpa using h2)
end
end
def rNeR : R2 := fun x y H Q => ∃ (a b : Addr) (d : PyData), x = .ref a ∧ y = .ref b ∧ RdN H (.ref a) d ∧ RdN H (.ref b) d ∧ d.depth ≤ 10 ∧ Q (.bl false) H
section
variable {X : Cx}
theorem rd_els {P : Program} {w : World} {H : Hp} {s : Shared} {A : Around} {xs ys : List V} {ds : List PyData} {i1 i2 : List Value} (ok : HOk P w H s.heap) (q : RdL H xs ds) (q2 : RdL H ys ds) (v1 : Vals xs i1) (v2 : Vals ys i2) (hu : A.units + 1 + PyData.depthAll ds < cLine) :
    ∀ j (h1 : j < i1.toArray.size) (h2 : j < i2.toArray.size), EqAt A.in1 s i1.toArray[j] i2.toArray[j] true := fun j h1 h2 => by
  have := RdL.eqs ok q q2 v1 v2 A.in1 (by show A.units + 1 + _ < _; omega) j (by simpa using h1) (by simpa using h2)
  simpa using this
theorem op_neR (hu : X.A.units + 12 < cLine) : OpR X (compareOp .NotEq) rNeR := by
  intro pins s σ H x y v u Q I rx ry h
  obtain ⟨a, b, d, rfl, rfl, r1, r2, hd, q⟩ := h
  cases rx
  cases ry
  cases r1 with
  | lst e p =>
    rename_i xs ds
    cases r2 with
    | lst e2 p2 =>
      rename_i ys
      obtain ⟨_, i1, n1, v1, g1⟩ := (show ObjOk X.prog X.w H s.heap a (.lst xs) from I.hok a _ e)
      obtain ⟨_, i2, n2, v2, g2⟩ := (show ObjOk X.prog X.w H s.heap b (.lst ys) from I.hok b _ e2)
      have hd' : PyData.depthAll ds + 1 ≤ 10 := hd
      refine RcNeAt.lists (e := fun _ => true) (items := i1.toArray) (items2 := i2.toArray) ⟨_, g1, rfl, n1, rfl⟩ ⟨_, g2, rfl, n2, rfl⟩ (by rw [List.size_toArray, List.size_toArray, ← v1.length, ← v2.length, p.len_eq p2]) (by omega) (rd_els I.hok p p2 v1 v2 (by omega)) _ _ _ _ ?_
      rw [all_range]
      exact ⟨.bl false, H, I, rfl, q⟩
  | tup e p =>
    rename_i xs ds
    cases r2 with
    | tup e2 p2 =>
      rename_i ys
      obtain ⟨_, i1, v1, o1, g1, c1, _, n1, k1⟩ := (show ObjOk X.prog X.w H s.heap a (.tup xs) from I.hok a _ e)
      obtain ⟨_, i2, v2, o2, g2, c2, _, n2, k2⟩ := (show ObjOk X.prog X.w H s.heap b (.tup ys) from I.hok b _ e2)
      have hd' : PyData.depthAll ds + 1 ≤ 10 := hd
      refine RcNeAt.tuples (e := fun _ => true) (items := i1.toArray) (items2 := i2.toArray) ⟨o1, g1, c1, n1, k1⟩ ⟨o2, g2, c2, n2, k2⟩ (by omega) (rd_els I.hok p p2 v1 v2 (by omega)) _ _ _ _ ?_
      rw [all_range, List.size_toArray, List.size_toArray, ← v1.length, ← v2.length, p.len_eq p2, beq_self_eq_true]
      exact ⟨.bl false, H, I, rfl, q⟩
end
end L2

set_option Elab.async false
set_option linter.all false
set_option maxRecDepth 100000
set_option maxHeartbeats 4000000
namespace L2
open PySem PySem.Spec PyProof.Rows
section
variable {X : Cx}
end
end L2

set_option Elab.async false
set_option linter.all false
set_option maxRecDepth 100000
set_option maxHeartbeats 4000000
namespace Lv
open PySem L2
/-! ### numbers on a reel of a level -/
def rl (p n i : Nat) : List Int := (num p n).getD i []
theorem rl_at {p n i : Nat} (hp : 2 ≤ p) (hi : i < p) : (num p n)[i]? = some (rl p n i) := by
  have h : i < (num p n).length := by rw [num_len (by omega)]; exact hi
  unfold rl
  rw [List.getD_eq_getElem?_getD, List.getElem?_eq_getElem h]; rfl
theorem fst_rl {p n : Nat} : fstN (num p n) = (rl p n 0).map (· + 1) := by
  unfold fstN rl
  cases num p n with
  | nil => rfl
  | cons a r => rfl
theorem rl_zero {p i : Nat} : rl p 0 i = if i = 0 then [0] else [] := by
  unfold rl
  show ([0] :: List.replicate (p - 1) ([] : List Int)).getD i [] = _
  cases i with
  | zero => rfl
  | succ i =>
    rw [if_neg (by omega), List.getD_eq_getElem?_getD, List.getElem?_cons_succ, List.getElem?_replicate]
    split <;> rfl
theorem rl_succ {p n i : Nat} (hp : 2 ≤ p) (hi : i < p) : rl p (n + 1) i = (rl p n 0).map (· + 1) ++ (if i + 1 < p then rl p n (i + 1) else []) := by
  have hl := num_len (p := p) (by omega) n
  obtain ⟨a, r, e, _, hr⟩ := num_cons hp n
  have h1 : rl p (n + 1) i = (nextN (num p n)).getD i [] := rfl
  rw [h1, ← fst_rl]
  unfold nextN
  rw [List.getD_eq_getElem?_getD]
  by_cases h : i + 1 < p
  · rw [if_pos h, List.getElem?_append_left (by rw [List.length_map, List.length_tail, hl]; omega), List.getElem?_map, List.getElem?_tail, rl_at hp h]
    rfl
  · rw [if_neg h, List.append_nil, List.getElem?_append_right (by rw [List.length_map, List.length_tail, hl]; omega)]
    have : i - ((num p n).tail.map (fstN (num p n) ++ ·)).length = 0 := by rw [List.length_map, List.length_tail, hl]; omega
    rw [this]; rfl
/-- which numbers stand on it -/
theorem mem_rl {p : Nat} (hp : 2 ≤ p) : ∀ (n i : Nat) (m : Int), i < p → (m ∈ rl p n i ↔ m ≤ n ∧ (n : Int) + i ≤ p * m)
  | 0, i, m, hi => by
    rw [rl_zero]
    by_cases h : i = 0
    · subst h
      rw [if_pos rfl, List.mem_singleton]
      constructor
      · rintro rfl; simp
      · rintro ⟨h1, h2⟩
        have : (0 : Int) ≤ m := by
          refine Classical.byContradiction fun z => ?_
          have : (p : Int) * m ≤ p * (-1) := Int.mul_le_mul_of_nonneg_left (by omega) (by omega)
          omega
        simp at h1
        omega
    · rw [if_neg h]
      constructor
      · intro z; cases z
      · rintro ⟨h1, h2⟩
        have : (p : Int) * m ≤ p * 0 := Int.mul_le_mul_of_nonneg_left (by simpa using h1) (by omega)
        simp at h2
        omega
  | n + 1, i, m, hi => by
    rw [rl_succ hp hi, List.mem_append]
    have e1 : m ∈ (rl p n 0).map (· + 1) ↔ m - 1 ≤ n ∧ (n : Int) ≤ p * (m - 1) := by
      rw [List.mem_map]
      constructor
      · rintro ⟨x, hx, rfl⟩
        have := (mem_rl hp n 0 x (by omega)).mp hx
        rw [show x + 1 - 1 = x by omega]
        simpa using this
      · rintro ⟨h1, h2⟩
        exact ⟨m - 1, (mem_rl hp n 0 _ (by omega)).mpr ⟨h1, by simpa using h2⟩, by omega⟩
    have e3 : (p : Int) * (m - 1) = p * m - p := by rw [Int.mul_sub, Int.mul_one]
    rw [e1, e3]
    constructor
    · rintro (⟨h1, h2⟩ | h)
      · refine ⟨by omega, ?_⟩
        have : ((n + 1 : Nat) : Int) = n + 1 := by omega
        rw [this]
        omega
      · by_cases z : i + 1 < p
        · rw [if_pos z] at h
          have := (mem_rl hp n (i + 1) m z).mp h
          obtain ⟨h1, h2⟩ := this
          refine ⟨by omega, ?_⟩
          have : ((n + 1 : Nat) : Int) = n + 1 := by omega
          have : ((i + 1 : Nat) : Int) = i + 1 := by omega
          omega
        · rw [if_neg z] at h; cases h
    · rintro ⟨h1, h2⟩
      have q1 : ((n + 1 : Nat) : Int) = n + 1 := by omega
      rw [q1] at h2
      by_cases z : (n : Int) ≤ p * m - p
      · exact .inl ⟨by omega, z⟩
      · right
        have hip : i + 1 < p := by omega
        rw [if_pos hip]
        refine (mem_rl hp n (i + 1) m hip).mpr ⟨?_, by omega⟩
        have hm : 1 ≤ m := by
          refine Classical.byContradiction fun y => ?_
          have : (p : Int) * m ≤ p * 0 := Int.mul_le_mul_of_nonneg_left (by omega) (by omega)
          simp at this
          omega
        have h3 : (2 : Int) * (m - 1) ≤ p * (m - 1) := Int.mul_le_mul_of_nonneg_right (by omega) (by omega)
        rw [e3] at h3
        omega
theorem mem_flat {p : Nat} (hp : 2 ≤ p) (n : Nat) (m : Int) : m ∈ (num p n).flatten ↔ m ≤ n ∧ (n : Int) ≤ p * m := by
  constructor
  · intro h
    obtain ⟨xs, hx, hm⟩ := List.mem_flatten.mp h
    obtain ⟨i, hi⟩ := List.getElem?_of_mem hx
    have hip : i < p := by
      have := (List.getElem?_eq_some_iff.mp hi).1
      rwa [num_len (by omega)] at this
    rw [rl_at hp hip] at hi
    cases hi
    have := (mem_rl hp n i m hip).mp hm
    omega
  · rintro ⟨h1, h2⟩
    exact List.mem_flatten.mpr ⟨_, List.mem_of_getElem? (rl_at hp (show 0 < p by omega)), (mem_rl hp n 0 m (by omega)).mpr ⟨h1, by simpa using h2⟩⟩
/-! ### what a spread tells -/
theorem spr_keys {L : List (Int × Int)} {xs : List Int} (h : SprL L (cn xs)) (m : Int) : m ∈ L.map (·.1) ↔ m ∈ xs := by
  rw [List.mem_map]
  constructor
  · rintro ⟨⟨a, c⟩, hx, rfl⟩
    have := (h.2 a c).mp hx
    exact cn_ne.mp (by rw [← this.1]; exact this.2)
  · intro hm
    exact ⟨(m, cn xs m), (h.2 _ _).mpr ⟨rfl, cn_ne.mpr hm⟩, rfl⟩
theorem spr_lt {L : List (Int × Int)} {f : Int → Int} (h : SprL L f) : (L.map (·.1)).Pairwise (· < ·) := by
  rw [List.pairwise_map]; exact h.1
theorem spr_nd {L : List (Int × Int)} {f : Int → Int} (h : SprL L f) : (L.map (·.1)).Nodup := by
  unfold List.Nodup
  exact (spr_lt h).imp fun {a b} z => Int.ne_of_lt z
theorem spr_sum : ∀ {L : List (Int × Int)} {xs : List Int}, SprL L (cn xs) → (L.map (·.2)).sum = xs.length
  | [], xs, h => by
    cases xs with
    | nil => rfl
    | cons x r => have := (spr_keys h x).mpr List.mem_cons_self; cases this
  | (m, c) :: L, xs, h => by
    obtain ⟨h1, h2⟩ := List.pairwise_cons.mp h.1
    have hc := (h.2 m c).mp List.mem_cons_self
    have hL : SprL L (cn (xs.filter fun x => decide (x ≠ m))) := by
      refine ⟨h2, fun a b => ?_⟩
      have e : a ≠ m → cn (xs.filter fun x => decide (x ≠ m)) a = cn xs a := fun z => by
        unfold cn
        rw [List.count_filter (by simpa using z)]
      constructor
      · intro hx
        have z : a ≠ m := by have := h1 _ hx; intro y; simp at this; omega
        rw [e z]
        exact (h.2 a b).mp (List.mem_cons_of_mem _ hx)
      · rintro ⟨y1, y2⟩
        have z : a ≠ m := by
          rintro rfl
          refine y2 ?_
          rw [y1, cn_zero]
          simp
        rw [e z] at y1
        rcases List.mem_cons.mp ((h.2 a b).mpr ⟨y1, y2⟩) with q | q
        · cases q; exact absurd rfl z
        · exact q
    rw [List.map_cons, List.sum_cons, spr_sum hL, hc.1]
    unfold cn
    have : ∀ ys : List Int, ((ys.count m : Nat) : Int) + ((ys.filter fun x => decide (x ≠ m)).length : Nat) = (ys.length : Nat) := by
      intro ys
      induction ys with
      | nil => rfl
      | cons y r ih =>
        rw [List.count_cons, List.filter_cons]
        by_cases z : y = m
        · subst z
          rw [if_pos (by simp), if_neg (by simp), List.length_cons]
          omega
        · rw [if_neg (by simpa using z), if_pos (by simpa using z), List.length_cons, List.length_cons]
          omega
    exact this xs
theorem flatN_len {p : Nat} (n : Nat) : (((num p n).flatten.length : Nat) : Int) = (cnt p n).sum := by
  rw [← lens_num p n]
  have : ∀ N : List (List Int), ((N.flatten.length : Nat) : Int) = (lens N).sum := by
    intro N
    induction N with
    | nil => rfl
    | cons a r ih =>
      rw [List.flatten_cons, List.length_append, lens, List.map_cons, List.sum_cons]
      rw [lens] at ih
      rw [← ih]; omega
  exact this _
end Lv

set_option Elab.async false
set_option linter.all false
namespace Lv
open PySem L2
/-! ### level upon level: each number's places by the levels ahead -/
theorem num_split {p : Nat} (hp : 2 ≤ p) (n : Nat) : ∃ x r, num p n = x :: r ∧ r.length + 1 = p := by
  have hl := num_len (p := p) (by omega) n
  cases h : num p n with
  | nil => rw [h] at hl; simp at hl; omega
  | cons x r => exact ⟨x, r, rfl, by rw [h] at hl; simpa using hl⟩
end Lv

set_option Elab.async false
set_option linter.all false
set_option maxRecDepth 100000
set_option maxHeartbeats 4000000
namespace L2
open PySem
end L2
namespace Lv
open PySem L2
/-- g 1 + .. + g k -/
def sm (g : Nat → Int) : Nat → Int
  | 0 => 0
  | k + 1 => sm g k + g (k + 1)
def trs (h : Nat → Int) : Nat → Int
  | 0 => 0
  | k + 1 => trs h k + h k
theorem trs_congr {g h : Nat → Int} : ∀ {k : Nat}, (∀ j, j < k → g j = h j) → trs g k = trs h k
  | 0, _ => rfl
  | k + 1, e => by rw [trs, trs, trs_congr fun j a => e j (by omega), e k (by omega)]
def sq (p n : Nat) : List (List Int) := (List.range (n + 1)).map fun j => rl p j 0
end Lv

set_option Elab.async false
set_option linter.all false
set_option maxRecDepth 100000
set_option maxHeartbeats 4000000
namespace L2
open PySem PySem.Spec PyProof.Rows PySem.SeqAt
/-! ### isinstance(x, (T, ..)) -/
inductive TyS (H : Hp) : V → Value → Prop
  | int (i : Int) : TyS H (.int i) (.type "int")
  | bl (b : Bool) : TyS H (.bl b) (.type "bool")
  | lst {a : Addr} {xs : List V} (e : H a = some (.lst xs)) : TyS H (.ref a) (.type "list")
  | tup {a : Addr} {xs : List V} (e : H a = some (.tup xs)) : TyS H (.ref a) (.type "tuple")
section
variable {X : Cx}
end
end L2

set_option Elab.async false
set_option linter.all false
set_option maxRecDepth 100000
set_option maxHeartbeats 4000000
namespace HT
open PySem PySem.Spec PyProof.Rows
section
variable {prog : Program} {w : World} {A : Around} {E : Value → Shared → Prop} {s : Shared}
theorem getItem_tuple_all {t sl : Addr} {items : Array Value} {vl vu : Value} {lo hi : Option Int} {Q : Value → Shared → Prop} (ht : IsTup s.heap t items) (hs : s.heap.IsSliceOf sl vl vu .none) (pl : IsPart vl lo) (pu : IsPart vu hi)
    (hw : sIx items.size 0 lo = 0 ∧ sIx items.size items.size hi = items.size) (h : Q (.ref t) s) : wpAny (model prog w) A (getItem (.ref t) (.ref sl)) Q E s := by
  obtain ⟨os, hos, hcs, hds⟩ := id hs
  have hTs : s.TypeIs (.ref sl) "slice" := ⟨os, hos, hcs⟩
  unfold getItem
  try with_reducible refine wpAny_holding ?_
  first | refine wpAny_bind (wpAny_pure ?_) | skip
  refine wpAny_bind (wpAny_sequenceKey ht.typeIs (by decide) ?_)
  refine wpAny_bind (wpAny_callSpecial?_slot (name := Str.ofString "__getitem__") ht.typeIs PyProof.Rows.slot_tuple_getitem
    (wpAny_call_entry PyProof.Rows.slot_tuple_getitem ht.typeIs entry_tuple_getitem ?_ (args_tuple_getitem _ _)))
  show wpAny _ _ (Builtin.Tuple.tupleItemsOf (.ref t) >>= _) _ _ s
  refine wpAny_bind (tupleItemsOf_ ht ?_)
  refine wpAny_bind (wpAny_typeOf hTs ?_)
  rw [if_pos (by decide)]
  refine wpAny_bind (sliceApplied_gen hs pl pu ?_)
  have hyes : (((sIx items.size 0 lo : Nat) : Int) == 0 && (1 : Int) == 1 && (sIx items.size items.size hi - sIx items.size 0 lo) == items.size) = true := by
    rw [hw.1, hw.2]
    simp
  show wpAny _ _ (if (((sIx items.size 0 lo : Nat) : Int) == 0 && (1 : Int) == 1 && (sIx items.size items.size hi - sIx items.size 0 lo) == items.size) = true then _ else _) _ _ s
  rw [if_pos hyes]
  refine wpAny_bind (m := Builtin.Tuple.tupleIsExact (.ref t)) ?_
  unfold Builtin.Tuple.tupleIsExact
  refine wpAny_bind (wpAny_typeOf ht.typeIs (wpAny_pure ?_))
  rw [if_pos (by decide)]
  exact wpAny_bind (wpAny_rule (wpAny_pure ⟨_, rfl, wpAny_pure h⟩))
end
end HT

namespace L2
open PySem PySem.Spec PyProof.Rows PySem.SeqAt
inductive TyA (H : Hp) : V → String → Prop
  | non : TyA H .non "NoneType"
  | int (i : Int) : TyA H (.int i) "int"
  | bl (b : Bool) : TyA H (.bl b) "bool"
  | str (x : Str) : TyA H (.str x) "str"
  | lst {a : Addr} {xs : List V} (e : H a = some (.lst xs)) : TyA H (.ref a) "list"
  | tup {a : Addr} {xs : List V} (e : H a = some (.tup xs)) : TyA H (.ref a) "tuple"
  | dK {a : Addr} {kvs : List (Key × V)} (e : H a = some (.dK kvs)) : TyA H (.ref a) "dict"
section
variable {X : Cx}
/-- t[lo:hi], the whole of it: t itself -/
def rSlA (K : PySem.W.Frag) : V → Option Int → Option Int → Hp → VK → Prop := fun x lo hi H Q => ∃ a xs, x = .ref a ∧ SqT K H a xs ∧ (HT.sIx xs.length 0 lo = 0 ∧ HT.sIx xs.length xs.length hi = xs.length) ∧ Q (.ref a) H
theorem sl_tupA : SlR X (rSlA X.K) := by
  intro pins s σ H x v vl vu lo hi sl Q I rx hs pl pu h
  obtain ⟨a, xs, rfl, hx, hw, q⟩ := h
  cases rx
  obtain ⟨its, r, ht, hz⟩ := I.tuple hx
  have hlen : its.toArray.size = xs.length := by rw [List.size_toArray]; exact r.length.symm
  refine ⟨"tuple", _, PyProof.Rows.slot_tuple_getitem.lookup, ht.typeIs, ?_⟩
  exact HT.getItem_tuple_all ht hs pl pu (by rw [hlen]; exact hw) ⟨.ref a, H, I, rfl, q⟩
end
end L2

set_option Elab.async false
set_option linter.all false
set_option maxRecDepth 100000
set_option maxHeartbeats 4000000
namespace Lv
open PySem L2 PySem.W
/-! ### the text's own exceptions -/
structure ExcTab (K : Frag) (reel C : Addr) (all : List Addr) : Prop where
  ok : excAll K C = true
  exm : exmOne K (.ref C) (.ref reel) = some true
  isR : kitOne K (.ref C) (.ref reel) = some true
  isV : kitOne K (.ref C) (.type "ValueError") = some true
  one : ∀ D ∈ all, kitOne K (.ref C) (.ref D) = some (D == C)
/-- the classes: their places and names -/
structure Excs (K : Frag) (mg : Str → Option Value) where
  reel : Addr
  nWays : Addr
  nRoom : Addr
  nLevel : Addr
  nStand : Addr
  tMany : Addr
  tFew : Addr
  nPlace : Addr
  nText : Addr
  nLine : Addr
  nBack : Addr
  nPhase : Addr
  clash : Addr
  mReel : mg "ReelError" = some (.ref reel)
  mWays : mg "NoWays" = some (.ref nWays)
  mRoom : mg "NoRoom" = some (.ref nRoom)
  mLevel : mg "NoLevel" = some (.ref nLevel)
  mStand : mg "NoStanding" = some (.ref nStand)
  mMany : mg "TooMany" = some (.ref tMany)
  mFew : mg "TooFew" = some (.ref tFew)
  mPlace : mg "NoPlace" = some (.ref nPlace)
  mText : mg "NoText" = some (.ref nText)
  mLine : mg "NoLine" = some (.ref nLine)
  mBack : mg "NoBack" = some (.ref nBack)
  mPhase : mg "NoPhase" = some (.ref nPhase)
  mClash : mg "Clash" = some (.ref clash)
  nd : ([nWays, nRoom, nLevel, nStand, tMany, tFew, nPlace, nText, nLine, nBack, nPhase, clash] : List Addr).Nodup
def Excs.all {K : Frag} {mg : Str → Option Value} (X : Excs K mg) : List Addr := [X.nWays, X.nRoom, X.nLevel, X.nStand, X.tMany, X.tFew, X.nPlace, X.nText, X.nLine, X.nBack, X.nPhase, X.clash]
/-! ### any thing -/
def anT : List String := ["NoneType", "bool", "int", "str", "list", "tuple", "dict"]
/-- a thing and its type -/
structure Thing (K : Frag) (H : Hp) (v : V) (T : String) : Prop where
  ty : TyOf K H v (.type T)
  mem : T ∈ anT
/-- no whole number from lo to hi -/
def NotIn (lo hi : Int) (v : V) (T : String) : Prop := T ≠ "int" ∨ ∃ i, v = .int i ∧ ¬ (lo ≤ i ∧ i ≤ hi)
end Lv
namespace Lv
open PySem L2 PySem.W
end Lv
namespace Lv
open PySem L2 PySem.W
end Lv
namespace Lv
open PySem L2 PySem.W
end Lv
namespace L2
open PySem PySem.Spec PyProof.Rows PySem.W
end L2
namespace Lv
open PySem L2 PySem.W
end Lv

set_option Elab.async false
set_option linter.all false
set_option maxRecDepth 100000
set_option maxHeartbeats 4000000
namespace Lv
open PySem L2 PySem.Spec PyProof.Rows
/-! ### the script's numbers are of 2 ** 20 bits at most -/
end Lv

set_option Elab.async false
set_option linter.all false
set_option maxRecDepth 100000
set_option maxHeartbeats 4000000
namespace L2
open PySem PySem.Spec PyProof.Rows PySem.SeqAt
section
variable {X : Cx}
theorem argBest_max (f : Nat → Int) : ∀ k i, i ≤ k → f i ≤ f (argBest (fun i j => decide (f j < f i)) k)
  | 0, i, h => by
    have : i = 0 := by omega
    subst this
    exact Int.le_refl _
  | k + 1, i, h => by
    unfold argBest
    by_cases e : f (argBest (fun i j => decide (f j < f i)) k) < f (k + 1)
    · rw [if_pos (decide_eq_true e)]
      by_cases hi : i = k + 1
      · subst hi; exact Int.le_refl _
      · have := argBest_max f k i (by omega)
        omega
    · rw [if_neg (by simpa using e)]
      by_cases hi : i = k + 1
      · subst hi; omega
      · exact argBest_max f k i (by omega)
/-- the walk over a list or a tuple, as its iterator lies -/
theorem walkB {b : Bool} {pins : List (Addr × Obj)} {σ : St} {H : Hp} {s : Shared} {a : Addr} {ns : List Int} {Q : Value → Shared → Prop} {A : Around} {E : Value → Shared → Prop} (I : Inv X pins σ H s) (hh : A.handled = none) (h : SqB b X.K H a (ns.map V.int))
    (k : ∀ (I0 : Addr) (fp wr : List Addr) (P : Nat → Value → Prop) (St : Nat → Heap → Prop) (s2 : Shared), Walks X.prog X.w A I0 fp wr ns.length P St → St 0 s2.heap → (∀ c ∈ fp, c < s2.heap.objs.size) → (∀ i v, P i v → i < ns.length ∧ ∃ t, v = .int (ns.getD i 0) t) →
      (∀ h' tk, (∀ c o, c ∉ wr → s2.heap.get? c = some o → h'.get? c = some o) → Inv X pins σ H { s2 with heap := h', toks := tk }) → Q (.ref I0) s2) : wpAny (model X.prog X.w) A (pyIter (.ref a)) Q E s := by
  have fin : ∀ (its : List Value) (rv : Vals (ns.map V.int) its) (ob : Obj), a < s.heap.objs.size → (∀ h' tk, (∀ c o, c ∉ [s.heap.objs.size] → (s.heap.push ob).get? c = some o → h'.get? c = some o) → Inv X pins σ H { s with heap := h', toks := tk }) ∧ its.toArray.size = ns.length ∧
      (∀ i v, its.toArray[i]? = some v → i < ns.length ∧ ∃ t, v = .int (ns.getD i 0) t) ∧ ∀ c ∈ [s.heap.objs.size, a], c < (s.heap.push ob).objs.size := fun its rv ob hlt => by
    have hlen : its.toArray.size = ns.length := by rw [List.size_toArray, ← rv.length, List.length_map]
    refine ⟨fun h' tk hk => I.kept (h' := h') (t' := tk) fun c o e => hk c o ?_ (Heap.get?_push_of_some _ e), hlen, fun i v e => ?_, fun c hc => ?_⟩
    · intro hm
      have : c = s.heap.objs.size := by simpa using hm
      rw [this] at e
      exact absurd (Heap.lt_size e) (Nat.lt_irrefl _)
    · have hi : i < its.toArray.size := (Array.getElem?_eq_some_iff.mp e).1
      obtain ⟨t, q⟩ := ints_at rv hi
      rw [Array.getElem?_eq_getElem hi] at e
      have e' := Option.some.inj e
      rw [q] at e'
      exact ⟨by rw [← hlen]; exact hi, t, e'.symm⟩
    · rcases List.mem_cons.mp hc with z | z
      · rw [z, Heap.size_push]; exact Nat.lt_succ_self _
      · have z : c = a := by simpa using z
        rw [z, Heap.size_push]
        exact Nat.lt_succ_of_lt hlt
  cases b with
  | true =>
    obtain ⟨its, rv, p, hz⟩ := I.list h
    have hlt : a < s.heap.objs.size := by obtain ⟨o, n, e, _⟩ := p; exact Heap.lt_size e
    have hne : a ≠ s.heap.objs.size := Nat.ne_of_lt hlt
    refine wpAny_pyIter_list p.isList ?_
    obtain ⟨f1, f2, f3, f4⟩ := fin its rv _ hlt
    have W := Walks.list (prog := X.prog) (w := X.w) (A := A) hh s.heap.objs.size a hne its.toArray
    rw [f2] at W
    refine k _ _ _ _ _ _ W ⟨⟨_, Heap.get?_push_size _ rfl, rfl, rfl⟩, ?_⟩ f4 f3 f1
    obtain ⟨o, n, e, c, _, d⟩ := p
    exact ⟨o, Heap.get?_push_of_some _ e, c, n, d⟩
  | false =>
    obtain ⟨its, rv, p0, hz⟩ := I.tuple h
    have p : s.heap.IsTuple a its.toArray := p0
    have hlt : a < s.heap.objs.size := by obtain ⟨o, e, _⟩ := p; exact Heap.lt_size e
    have hne : a ≠ s.heap.objs.size := Nat.ne_of_lt hlt
    refine wpAny_pyIter_tuple p ?_
    obtain ⟨f1, f2, f3, f4⟩ := fin its rv _ hlt
    have W := Walks.tuple (prog := X.prog) (w := X.w) (A := A) hh s.heap.objs.size a hne its.toArray
    rw [f2] at W
    refine k _ _ _ _ _ _ W ⟨⟨_, Heap.get?_push_size _ rfl, rfl, rfl⟩, ?_⟩ f4 f3 f1
    obtain ⟨o, e, c, d⟩ := p
    exact ⟨o, Heap.get?_push_of_some _ e, c, d⟩
theorem getD_mem {ns : List Int} {i : Nat} (h : i < ns.length) : ns.getD i 0 ∈ ns := by
  rw [List.getD_eq_getElem?_getD, List.getElem?_eq_getElem h]
  exact List.getElem_mem h
/-- max(..) of a list or a tuple of ints -/
theorem call_maxB (hc : X.calm = true) : CallR X (.builtin "max") (fun xs H Q => ∃ (b : Bool) (a : Addr) (ns : List Int), xs = [.ref a] ∧ SqB b X.K H a (ns.map V.int) ∧ ns ≠ [] ∧ ∀ m, m ∈ ns → (∀ x ∈ ns, x ≤ m) → Q (.int m) H) := by
  intro pins s σ H xs us Q I r h
  obtain ⟨b, a, ns, rfl, hq, hn, q⟩ := h
  obtain ⟨u, rfl, r1⟩ := vals1 r
  cases r1
  have hpos : 0 < ns.length := List.length_pos_iff.mpr hn
  refine call_max_walk (walkB I (I.ok.hd hc) hq fun I0 fp wr P St s2 W st hfp hP hk => ?_)
  refine ⟨I0, fp, wr, ns.length, P, St, fun i j => decide (ns.getD j 0 < ns.getD i 0), rfl, W, st, hfp, hpos, ?_, ?_⟩
  · intro i j vi vj s' Q' E' hi hj hQ
    obtain ⟨_, t, rfl⟩ := hP i vi hi
    obtain ⟨_, t', rfl⟩ := hP j vj hj
    exact gt_int hQ
  · intro v h' tk hPv hkk
    obtain ⟨hi, t, rfl⟩ := hP _ v hPv
    refine ⟨.int _, H, hk h' tk hkk, ⟨t, rfl⟩, q _ (getD_mem hi) fun x hx => ?_⟩
    obtain ⟨i, hi', e⟩ := List.getElem_of_mem hx
    have := argBest_max (fun i => ns.getD i 0) (ns.length - 1) i (by omega)
    have e2 : ns.getD i 0 = ns[i] := by rw [List.getD_eq_getElem?_getD, List.getElem?_eq_getElem hi']; rfl
    rw [← e, ← e2]
    exact this
end
end L2

set_option Elab.async false
set_option linter.all false
set_option maxRecDepth 100000
set_option maxHeartbeats 4000000
namespace L2
open PySem PySem.Spec PyProof.Rows PySem.SeqAt
section
variable {X : Cx}
end
end L2

set_option Elab.async false
set_option linter.all false
set_option maxRecDepth 100000
set_option maxHeartbeats 4000000
namespace L2
open PySem PySem.Spec PyProof.Rows PySem.SeqAt
/-! ### xs[::-1] of a list -/
theorem range_pick {α : Type} : ∀ ys : List α, (List.range ys.length).filterMap (ys[·]?) = ys
  | [] => rfl
  | y :: ys => by
    rw [List.length_cons, List.range_succ_eq_map, List.filterMap_cons]
    show y :: (List.map Nat.succ (List.range ys.length)).filterMap ((y :: ys)[·]?) = _
    rw [List.filterMap_map]
    exact congrArg (y :: ·) (range_pick ys)
theorem fm_congr {α β : Type} {f g : α → Option β} : ∀ {l : List α}, (∀ x ∈ l, f x = g x) → l.filterMap f = l.filterMap g
  | [], _ => rfl
  | x :: l, h => by rw [List.filterMap_cons, List.filterMap_cons, h x (by simp), fm_congr fun y hy => h y (by simp [hy])]
theorem slicePick_back (its : List Value) : slicePick its.toArray none none (some (-1)) = its.reverse.toArray := by
  unfold slicePick
  have e1 : sliceBounds none none (some (-1)) its.toArray.size = ((its.length : Int) - 1, -1, -1) := by
    simp [sliceBounds]
  rw [e1]
  have e2 : sliceRange ((its.length : Int) - 1) (-1) (-1) = (List.range its.length).map fun k => its.length - 1 - k := by
    unfold sliceRange
    have : (if (its.length : Int) - 1 > -1 then ((its.length : Int) - 1 - (-1) - (-1) - 1) / (-(-1)) else 0).toNat = its.length := by
      by_cases h : (its.length : Int) - 1 > -1
      · rw [if_pos h, show (-(-1) : Int) = 1 by decide, Int.ediv_one]
        omega
      · rw [if_neg h]
        omega
    dsimp only
    rw [if_neg (by decide), this]
    apply List.map_congr_left
    intro k hk
    have := List.mem_range.mp hk
    omega
  show (List.filterMap _ (sliceRange ((its.length : Int) - 1) (-1) (-1))).toArray = _
  rw [e2, List.filterMap_map]
  congr 1
  have e3 := range_pick its.reverse
  rw [List.length_reverse] at e3
  rw [← e3]
  apply fm_congr
  intro k hk
  have := List.mem_range.mp hk
  show its.toArray[its.length - 1 - k]? = _
  rw [List.getElem?_toArray, List.getElem?_reverse this]
def rRevL (K : PySem.W.Frag) : V → Hp → VK → Prop := fun x H Q => ∃ a xs, x = .ref a ∧ SqL K H a xs ∧ ∀ p, H p = none → Q (.ref p) (upd H p (.lst xs.reverse))
def tRevL (K : PySem.W.Frag) (te : TE) (ts : TO) : TE := fun σ H Q => te σ H fun x H1 => ts σ H1 fun k H2 => k = some (-1) ∧ rRevL K x H2 Q
section
variable {X : Cx} {e st : Expr} {te : TE} {ts : TO} {pos p2 : Pos}
theorem pe_rev (he : PE X e te) (hst : PO X (some st) ts) : PE X (.Subscript e (.Slice none none (some st) p2) pos) (tRevL X.K te ts) := by
  intro pins s σ H Q I h
  refine Subscript_ (thn (he pins s σ H _ I h) fun v s1 ⟨x, H1, I1, r1, q1⟩ => ?_)
  refine wpAny_Slice ?_
  rw [evalPart_none]
  refine wpAny_pure ?_
  refine wpAny_pure ?_
  refine thn (hst pins s1 σ H1 _ I1 q1) fun vu s3 ⟨u, H3, I3, pu, ek, q3⟩ => ?_
  subst ek
  obtain ⟨a, xs, rfl, hx, q⟩ := q3
  cases r1
  have I4 : Inv X pins σ H3 { s3 with heap := s3.heap.push { cls := .type "slice", data := .fields #[.none, .none, vu] } } := I3.kept (t' := s3.toks) fun b ob q => Heap.get?_push_of_some _ q
  obtain ⟨its, r, ht, hz⟩ := I4.list hx
  have hlen := r.length
  show wpAny (model X.prog X.w) X.A (subscriptTail e (.Slice none none (some st) p2) (.ref a) (.ref s3.heap.objs.size)) (EP X pins σ Q) X.xe { s3 with heap := s3.heap.push { cls := .type "slice", data := .fields #[.none, .none, vu] } }
  refine tail_any (ops := [.ref a, .ref s3.heap.objs.size]) ht.isList.typeIs slot_list_getitem.lookup ?_ (by with_unfolding_all rfl)
  refine wpAny_getItem_list_slice ht.isList (Heap.IsSliceOf.new ..) .none .none pu (by simp) ?_ (by rw [List.size_toArray] <;> omega)
  rw [slicePick_back]
  refine ⟨.ref (s3.heap.push { cls := .type "slice", data := .fields #[.none, .none, vu] }).objs.size, _, I4.laid (t' := s3.toks) (o := .lst xs.reverse) (fun b ob q => Heap.get?_push_of_some _ q) (Nat.le_refl _) ?_, rfl, q _ (I4.hok.fresh (Nat.le_refl _))⟩
  exact ⟨by rw [List.length_reverse]; omega, _, 0, Vals.reverse r, Heap.get?_push_size _ rfl⟩
end
end L2

set_option Elab.async false
set_option linter.all false
set_option maxRecDepth 100000
set_option maxHeartbeats 4000000
namespace Lv
open PySem L2
/-! ### rows laid as they come, in plain Lean -/
structure IsTop (d : List Int) (r : Nat) : Prop where
  lt : r < d.length
  ge : ∀ j (h : j < d.length), d[j] ≤ d[r]
  fst : ∀ j (h : j < r), d[j] < d[r]
end Lv

set_option Elab.async false
set_option linter.all false
set_option maxRecDepth 100000
set_option maxHeartbeats 4000000
namespace L2
open PySem PySem.Spec PyProof.Rows PySem.SeqAt
section
variable {X : Cx}
end
end L2

set_option Elab.async false
set_option linter.all false
set_option maxRecDepth 100000
set_option maxHeartbeats 4000000
namespace Lv
open PySem L2
end Lv

set_option Elab.async false
set_option linter.all false
set_option maxRecDepth 100000
set_option maxHeartbeats 4000000
namespace Lv
open PySem L2
end Lv

set_option Elab.async false
set_option linter.all false
set_option maxRecDepth 100000
set_option maxHeartbeats 4000000
namespace L2
open PySem PySem.Spec PyProof.Rows PySem.SeqAt
section
variable {X : Cx}
/-! ### methods of a tuple that is tracked (wants the patched layer: patch_tup.py) -/
end
end L2

set_option Elab.async false
set_option linter.all false
set_option maxRecDepth 100000
set_option maxHeartbeats 4000000
namespace L2
open PySem PySem.Spec PyProof.Rows PySem.SeqAt
section
variable {X : Cx}
end
end L2

set_option Elab.async false
set_option linter.all false
namespace L2
open PySem PySem.Spec PyProof.Rows PySem.SeqAt
end L2

set_option Elab.async false
set_option linter.all false
set_option maxRecDepth 100000
set_option maxHeartbeats 4000000
namespace L2
open PySem PySem.Spec PyProof.Rows PySem.W
/-! ### defs that may be called in the suite of an except: nothing is known of what is handled -/
structure RoomS (k : Nat) (A : Around) : Prop where
  dp : A.depth + 3 * k + 5 < recursionLimit
  un : A.units + 16 * k + 200 < cLine
  gd : A.guards = some []
structure FnOkS (P : Program) (w : World) (K : PySem.W.Frag) (mg : Str → Option Value) (base : Heap) (CX : CXT) (k : Nat) (f : Addr) (fd : FuncData) (ps : List Str) (sp : Sp) : Prop where
  len : ∀ vs H Q E, sp vs H Q E → vs.length = ps.length
  run : ∀ (A : Around) (outer : List Env) (s : Shared) (H : Hp) (args : Args) (us : List Value) (vs : List V) (Q : VK) (E : XK), RoomS k A → Env0 P w K mg base A outer s H → BindsTo s fd args (ps.zip us) → Vals vs us → sp vs H Q E →
    codeAny (model P w) A (.call (.ref f) args) (CR CX outer P w H s Q E) s
section
variable {P : Program} {w : World} {K : PySem.W.Frag} {mg : Str → Option Value} {base : Heap}
end
/-- a def of the text called by its name, in a suite too -/
structure CalS (P : Program) (w : World) (K : PySem.W.Frag) (mg : Str → Option Value) (base : Heap) (k : Nat) (x : Str) (ps : List Str) (sp : Sp) (f : Addr) (fd : FuncData) : Prop where
  ok : FnOkS P w K mg base CX0 k f fd ps sp
  mg : mg x = some (.ref f)
  kp : PySem.W.keepIn K (.ref f) = true
  bd : Binds K fd ps []
section
variable {X : Cx}
end
end L2

set_option Elab.async false
set_option linter.all false
set_option maxRecDepth 100000
set_option maxHeartbeats 4000000
namespace Lv
open PySem L2
/-! ### the least numbers of a spread together -/
def stp (a q : Int × Int) : Int × Int := (a.1 + q.1 * (if a.2 < q.2 then a.2 else q.2), a.2 - (if a.2 < q.2 then a.2 else q.2))
def lsF : List (Int × Int) → Int × Int → Int × Int
  | [], a => a
  | q :: M, a => lsF M (stp a q)
theorem lsF_snoc : ∀ (M : List (Int × Int)) (q a : Int × Int), lsF (M ++ [q]) a = stp (lsF M a) q
  | [], _, _ => rfl
  | x :: M, q, a => by rw [List.cons_append, lsF, lsF, lsF_snoc M]
theorem lsF_take {M : List (Int × Int)} {i : Nat} {q : Int × Int} (h : M[i]? = some q) (a : Int × Int) : lsF (M.take (i + 1)) a = stp (lsF (M.take i) a) q := by
  rw [List.take_add_one, h]
  exact lsF_snoc _ _ _
theorem stp_left (a q : Int × Int) : (stp a q).2 = if a.2 < q.2 then 0 else a.2 - q.2 := by
  show a.2 - (if a.2 < q.2 then a.2 else q.2) = _
  split <;> omega
theorem sum_nn {l : List Int} (h : ∀ x ∈ l, 0 ≤ x) : 0 ≤ l.sum := by
  induction l with
  | nil => exact Int.le_refl _
  | cons x r ih =>
    rw [List.sum_cons]
    have := h x List.mem_cons_self
    have := ih fun y hy => h y (List.mem_cons_of_mem _ hy)
    omega
theorem lsF_left : ∀ (M : List (Int × Int)) (a : Int × Int), 0 ≤ a.2 → (∀ q ∈ M, 0 ≤ q.2) → (lsF M a).2 = if a.2 ≤ (M.map (·.2)).sum then 0 else a.2 - (M.map (·.2)).sum
  | [], a, h, _ => by
    show a.2 = _
    simp
    omega
  | q :: M, a, h, hq => by
    have h1 := hq q List.mem_cons_self
    have h2 : ∀ x ∈ M, 0 ≤ x.2 := fun x hx => hq x (List.mem_cons_of_mem _ hx)
    have h3 : 0 ≤ (M.map (·.2)).sum := sum_nn fun x hx => by
      obtain ⟨y, hy, rfl⟩ := List.mem_map.mp hx
      exact h2 y hy
    have e := stp_left a q
    rw [lsF, lsF_left M (stp a q) (by rw [e]; split <;> omega) h2, e, List.map_cons, List.sum_cons]
    by_cases c1 : a.2 < q.2
    · rw [if_pos c1, if_pos (by omega), if_pos (by omega)]
    · rw [if_neg c1]
      by_cases c2 : a.2 - q.2 ≤ (M.map (·.2)).sum
      · rw [if_pos c2, if_pos (by omega)]
      · rw [if_neg c2, if_neg (by omega)]
        omega
theorem Rep.mem {kvs : List (Key × V)} {f : Int → Int} (h : Rep kvs f) (m c : Int) : (m, c) ∈ kvs.map Lv.dec ↔ (c = f m ∧ c ≠ 0) := by
  constructor
  · intro hm
    obtain ⟨⟨k, v⟩, hp, e⟩ := List.mem_map.mp hm
    obtain ⟨m', rfl, rfl, hz⟩ := h.at hp
    have e1 : m' = m := congrArg Prod.fst e
    have e2 : f m' = c := congrArg Prod.snd e
    subst e1 e2
    exact ⟨rfl, hz⟩
  · rintro ⟨rfl, hz⟩
    obtain ⟨⟨k, v⟩, hp, e⟩ := List.mem_map.mp (h.key hz)
    obtain ⟨m', rfl, rfl, _⟩ := h.at hp
    have e1 : m' = m := Sum.inl.inj e
    subst e1
    exact List.mem_map.mpr ⟨_, hp, rfl⟩
theorem spr_sum_nn {M : List (Int × Int)} {xs : List Int} (h : SprL M (cn xs)) : ∀ q ∈ M, 0 ≤ q.2 := fun q hq => by
  have := (h.2 q.1 q.2).mp hq
  rw [this.1]; exact cn_pos _ _
def spLeastS : Sp := fun vs H Q _ => ∃ (l : Addr) (qs : List Addr) (M : List (Int × Int)) (r : Int), vs = [.ref l, .int r] ∧ H l = some (.tup (qs.map V.ref)) ∧ TTs H qs (M.map pr2) ∧ (∀ q ∈ M, 0 ≤ q.1 ∧ q.1 ≤ 1000) ∧ ∀ H', Same H H' → Q (if (lsF M (0, r)).2 > 0 then .non else .int (lsF M (0, r)).1) H'
end Lv

set_option Elab.async false
set_option linter.all false
namespace Lv
open PySem L2
/-! ### the best over levels, as the program walks them: it stops where the least number alone, so many times, is no less -/
def boStep (g : Nat → Option Int) (n : Nat) (st : Option (Int × Nat)) : Option (Int × Nat) :=
  match g n, st with
  | none, st => st
  | some r, none => some (r, n)
  | some r, some q => if r < q.1 then some (r, n) else some q
def boStop (c : Nat → Int) (n : Nat) : Option (Int × Nat) → Bool
  | none => false
  | some q => decide (c n ≥ q.1)
def bo (g : Nat → Option Int) (c : Nat → Int) : Nat → Nat → Option (Int × Nat) → Option (Int × Nat)
  | 0, _, st => st
  | k + 1, n, st => if boStop c n st = true then st else bo g c k (n + 1) (boStep g n st)
/-- the best of the levels below N, and the first one that has it -/
def IsBest (g : Nat → Option Int) (N : Nat) : Option (Int × Nat) → Prop
  | none => ∀ n, n < N → g n = none
  | some q => q.2 < N ∧ g q.2 = some q.1 ∧ (∀ n r, n < N → g n = some r → q.1 ≤ r) ∧ ∀ n r, n < q.2 → g n = some r → q.1 < r
theorem IsBest.step {g : Nat → Option Int} {n : Nat} {st : Option (Int × Nat)} (h : IsBest g n st) : IsBest g (n + 1) (boStep g n st) := by
  unfold boStep
  cases hg : g n with
  | none =>
    cases st with
    | none =>
      intro m hm
      by_cases e : m = n
      · rw [e]; exact hg
      · exact h m (by omega)
    | some q =>
      obtain ⟨a, b, c, d⟩ := h
      refine ⟨by omega, b, fun m r hm hr => ?_, d⟩
      by_cases e : m = n
      · rw [e, hg] at hr; cases hr
      · exact c m r (by omega) hr
  | some r =>
    cases st with
    | none =>
      refine ⟨Nat.lt_succ_self _, hg, fun m r2 hm hr => ?_, fun m r2 hm hr => ?_⟩
      · by_cases e : m = n
        · rw [e, hg] at hr; cases hr; exact Int.le_refl _
        · rw [h m (by omega)] at hr; cases hr
      · rw [h m hm] at hr; cases hr
    | some q =>
      obtain ⟨a, b, c, d⟩ := h
      show IsBest g (n + 1) (if r < q.1 then some (r, n) else some q)
      by_cases e : r < q.1
      · rw [if_pos e]
        refine ⟨Nat.lt_succ_self _, hg, fun m r2 hm hr => ?_, fun m r2 hm hr => ?_⟩
        · by_cases e2 : m = n
          · rw [e2, hg] at hr; cases hr; exact Int.le_refl _
          · have := c m r2 (by omega) hr
            show r ≤ r2
            omega
        · have := c m r2 hm hr
          show r < r2
          omega
      · rw [if_neg e]
        refine ⟨by omega, b, fun m r2 hm hr => ?_, d⟩
        by_cases e2 : m = n
        · rw [e2, hg] at hr; cases hr; omega
        · exact c m r2 (by omega) hr
/-- the least of these numbers -/
def LeastOf (xs : List Int) (m : Int) : Prop := m ∈ xs ∧ ∀ z ∈ xs, m ≤ z
/-- a spread's first number is the least one -/
theorem spr_least {q : Int × Int} {M : List (Int × Int)} {xs : List Int} (h : SprL (q :: M) (cn xs)) : LeastOf xs q.1 := by
  refine ⟨(spr_keys h q.1).mp (List.mem_map.mpr ⟨q, List.mem_cons_self, rfl⟩), fun z hz => ?_⟩
  have hm := (spr_keys h z).mpr hz
  rcases List.mem_cons.mp (show z ∈ q.1 :: M.map (·.1) from hm) with e | e
  · omega
  · obtain ⟨y, hy, rfl⟩ := List.mem_map.mp e
    have := (List.pairwise_cons.mp h.1).1 y hy
    omega
/-- the spread of these numbers, none of which is above 400 -/
def sprC (xs : List Int) : List (Int × Int) := ((List.range 401).map fun (m : Nat) => ((m : Int), cn xs m)).filter fun q => decide (q.2 ≠ 0)
theorem sprC_is {xs : List Int} (hb : ∀ m ∈ xs, 0 ≤ m ∧ m ≤ 400) : SprL (sprC xs) (cn xs) := by
  refine ⟨?_, fun m c => ?_⟩
  · refine List.Pairwise.filter _ ?_
    rw [List.pairwise_map]
    exact List.pairwise_lt_range.imp fun h => by
      show ((_ : Nat) : Int) < ((_ : Nat) : Int)
      omega
  · unfold sprC
    rw [List.mem_filter, List.mem_map]
    constructor
    · rintro ⟨⟨j, _, e⟩, h⟩
      cases e
      exact ⟨rfl, of_decide_eq_true h⟩
    · rintro ⟨rfl, h⟩
      obtain ⟨h0, h1⟩ := hb m (cn_ne.mp h)
      refine ⟨⟨m.toNat, List.mem_range.mpr (by omega), ?_⟩, decide_eq_true h⟩
      rw [Int.toNat_of_nonneg h0]
theorem sprC_of {xs : List Int} {L : List (Int × Int)} (hb : ∀ m ∈ xs, 0 ≤ m ∧ m ≤ 400) (h : SprL L (cn xs)) : L = sprC xs := h.uniq (sprC_is hb)
/-- what so many rows read least of these numbers -/
def leastC (xs : List Int) (rows : Int) : Option Int := if (lsF (sprC xs) (0, rows)).2 > 0 then none else some (lsF (sprC xs) (0, rows)).1
end Lv

set_option Elab.async false
set_option linter.all false
set_option maxRecDepth 100000
set_option maxHeartbeats 4000000
namespace Lv
open PySem L2
/-! ### the least that so many rows read, told by a threshold -/
def pz (x : Int) : Int := if x < 0 then 0 else x
theorem pz_nn (x : Int) : 0 ≤ pz x := by unfold pz; split <;> omega
/-- what is saved below t -/
def svM (M : List (Int × Int)) (t : Int) : Int := (M.map fun q => q.2 * pz (t - q.1)).sum
def sv (xs : List Int) (t : Int) : Int := (xs.map fun x => pz (t - x)).sum
theorem lsF_shift : ∀ (M : List (Int × Int)) (a b r : Int), lsF M (a + b, r) = (a + (lsF M (b, r)).1, (lsF M (b, r)).2)
  | [], a, b, r => rfl
  | q :: M, a, b, r => by
    show lsF M (stp (a + b, r) q) = (a + (lsF M (stp (b, r) q)).1, (lsF M (stp (b, r) q)).2)
    have e : stp (a + b, r) q = (a + (stp (b, r) q).1, (stp (b, r) q).2) := by
      unfold stp
      dsimp only
      rw [Int.add_assoc]
    rw [e, lsF_shift M]
theorem lsF_nought : ∀ (M : List (Int × Int)) (a : Int), (∀ q ∈ M, 0 ≤ q.2) → lsF M (a, 0) = (a, 0)
  | [], a, _ => rfl
  | q :: M, a, h => by
    have h1 := h q List.mem_cons_self
    have e : stp (a, 0) q = (a, 0) := by
      unfold stp
      dsimp only
      by_cases z : (0 : Int) < q.2
      · rw [if_pos z]; simp
      · rw [if_neg z, show q.2 = 0 by omega]; simp
    show lsF M (stp (a, 0) q) = _
    rw [e]
    exact lsF_nought M a fun x hx => h x (List.mem_cons_of_mem _ hx)
/-- no threshold tells more -/
theorem dual_le (t : Int) : ∀ (M : List (Int × Int)) (r : Int), 0 ≤ r → (∀ q ∈ M, 0 ≤ q.2) → (lsF M (0, r)).2 = 0 → r * t - svM M t ≤ (lsF M (0, r)).1
  | [], r, _, _, h => by
    have h : r = 0 := h
    subst h
    simp [svM, lsF]
  | q :: M, r, h0, hq, h => by
    have h1 := hq q List.mem_cons_self
    obtain ⟨k, ek, k0, kr, kq⟩ : ∃ k, (if r < q.2 then r else q.2) = k ∧ 0 ≤ k ∧ k ≤ r ∧ k ≤ q.2 := ⟨_, rfl, by split <;> omega, by split <;> omega, by split <;> omega⟩
    have e : stp (0, r) q = (q.1 * k + 0, r - k) := by unfold stp; dsimp only; rw [ek, Int.zero_add, Int.add_zero]
    have hl : lsF (q :: M) (0, r) = (q.1 * k + (lsF M (0, r - k)).1, (lsF M (0, r - k)).2) := by
      show lsF M (stp (0, r) q) = _
      rw [e, lsF_shift]
    rw [hl] at h ⊢
    have ih := dual_le t M (r - k) (by omega) (fun x hx => hq x (List.mem_cons_of_mem _ hx)) h
    have es : svM (q :: M) t = q.2 * pz (t - q.1) + svM M t := rfl
    rw [es]
    show r * t - (q.2 * pz (t - q.1) + svM M t) ≤ q.1 * k + (lsF M (0, r - k)).1
    have e1 : (r - k) * t = r * t - k * t := Int.sub_mul ..
    have key : k * t - q.1 * k ≤ q.2 * pz (t - q.1) := by
      have e2 : k * t - q.1 * k = k * (t - q.1) := by rw [Int.mul_sub, Int.mul_comm q.1 k]
      rw [e2]
      unfold pz
      by_cases z : t - q.1 < 0
      · rw [if_pos z, Int.mul_zero]
        have := Int.mul_le_mul_of_nonneg_left (show t - q.1 ≤ 0 by omega) k0
        simpa using this
      · rw [if_neg z]
        exact Int.mul_le_mul_of_nonneg_right kq (by omega)
    omega
theorem svM_out {θ : Int} : ∀ {M : List (Int × Int)}, (∀ q ∈ M, θ ≤ q.1) → svM M θ = 0
  | [], _ => rfl
  | q :: M, h => by
    have h1 := h q List.mem_cons_self
    have e : svM (q :: M) θ = q.2 * pz (θ - q.1) + svM M θ := rfl
    rw [e, svM_out fun x hx => h x (List.mem_cons_of_mem _ hx), show pz (θ - q.1) = 0 by unfold pz; split <;> omega]
    simp
/-- some threshold, one of the numbers, tells just as much -/
theorem dual_eq : ∀ (M : List (Int × Int)) (r : Int), 1 ≤ r → M.Pairwise (fun p q => p.1 < q.1) → (∀ q ∈ M, 0 ≤ q.2) → r ≤ (M.map (·.2)).sum → ∃ θ ∈ M.map (·.1), (lsF M (0, r)).1 = r * θ - svM M θ
  | [], r, h1, _, _, h => by simp at h; omega
  | q :: M, r, h1, hp, hq, h => by
    have hq1 := hq q List.mem_cons_self
    obtain ⟨hp1, hp2⟩ := List.pairwise_cons.mp hp
    have hq2 : ∀ x ∈ M, 0 ≤ x.2 := fun x hx => hq x (List.mem_cons_of_mem _ hx)
    have es : ∀ t, svM (q :: M) t = q.2 * pz (t - q.1) + svM M t := fun t => rfl
    by_cases z : r ≤ q.2
    · refine ⟨q.1, List.mem_map.mpr ⟨q, List.mem_cons_self, rfl⟩, ?_⟩
      have e : stp (0, r) q = (q.1 * r, 0) := by
        unfold stp
        dsimp only
        by_cases y : r < q.2
        · rw [if_pos y]; simp
        · rw [if_neg y, show q.2 = r by omega]; simp
      show (lsF M (stp (0, r) q)).1 = _
      rw [e, lsF_nought M _ hq2, es, svM_out fun x hx => Int.le_of_lt (hp1 x hx), show pz (q.1 - q.1) = 0 by unfold pz; split <;> omega]
      show q.1 * r = r * q.1 - (q.2 * 0 + 0)
      rw [Int.mul_zero, Int.mul_comm]
      omega
    · rw [List.map_cons, List.sum_cons] at h
      obtain ⟨θ, hm, e⟩ := dual_eq M (r - q.2) (by omega) hp2 hq2 (by omega)
      refine ⟨θ, List.mem_map.mpr ?_, ?_⟩
      · obtain ⟨y, hy, e⟩ := List.mem_map.mp hm
        exact ⟨y, List.mem_cons_of_mem _ hy, e⟩
      · have hlt : q.1 < θ := by
          obtain ⟨y, hy, rfl⟩ := List.mem_map.mp hm
          exact hp1 y hy
        have e2 : stp (0, r) q = (q.1 * q.2 + 0, r - q.2) := by
          unfold stp
          dsimp only
          rw [if_neg (by omega), Int.zero_add, Int.add_zero]
        show (lsF M (stp (0, r) q)).1 = _
        rw [e2, lsF_shift, es, show pz (θ - q.1) = θ - q.1 by unfold pz; split <;> omega]
        show q.1 * q.2 + (lsF M (0, r - q.2)).1 = _
        rw [e, Int.sub_mul, Int.mul_sub, Int.mul_comm q.1 q.2]
        omega
/-- over the values, or over the numbers -/
theorem sumF (f : Int → Int) : ∀ {L : List (Int × Int)} {xs : List Int}, (L.map (·.1)).Nodup → (∀ m c, (m, c) ∈ L ↔ (c = cn xs m ∧ c ≠ 0)) → (L.map fun q => q.2 * f q.1).sum = (xs.map f).sum
  | [], xs, _, h => by
    cases xs with
    | nil => rfl
    | cons x r => exact absurd ((h x (cn (x :: r) x)).mpr ⟨rfl, cn_ne.mpr List.mem_cons_self⟩) List.not_mem_nil
  | (m, c) :: L, xs, nd, h => by
    rw [List.map_cons, List.nodup_cons] at nd
    obtain ⟨h1, h2⟩ := nd
    have hc := (h m c).mp List.mem_cons_self
    have hL : ∀ a b, (a, b) ∈ L ↔ (b = cn (xs.filter fun x => decide (x ≠ m)) a ∧ b ≠ 0) := fun a b => by
      have e : a ≠ m → cn (xs.filter fun x => decide (x ≠ m)) a = cn xs a := fun z => by
        unfold cn
        rw [List.count_filter (by simpa using z)]
      constructor
      · intro hx
        have z : a ≠ m := by
          rintro rfl
          exact h1 (List.mem_map.mpr ⟨_, hx, rfl⟩)
        rw [e z]
        exact (h a b).mp (List.mem_cons_of_mem _ hx)
      · rintro ⟨y1, y2⟩
        have z : a ≠ m := by
          rintro rfl
          refine y2 ?_
          rw [y1, cn_zero]
          simp
        rw [e z] at y1
        rcases List.mem_cons.mp ((h a b).mpr ⟨y1, y2⟩) with q | q
        · cases q; exact absurd rfl z
        · exact q
    rw [List.map_cons, List.sum_cons, sumF f h2 hL, hc.1]
    unfold cn
    have : ∀ ys : List Int, ((ys.count m : Nat) : Int) * f m + ((ys.filter fun x => decide (x ≠ m)).map f).sum = (ys.map f).sum := by
      intro ys
      induction ys with
      | nil => simp
      | cons y r ih =>
        rw [List.count_cons, List.filter_cons]
        by_cases z : y = m
        · subst z
          rw [if_pos (by simp), if_neg (by simp), List.map_cons, List.sum_cons, ← ih, Int.natCast_add, Int.add_mul]
          simp
          omega
        · rw [if_neg (by simpa using z), if_pos (by simpa using z), List.map_cons, List.map_cons, List.sum_cons, List.sum_cons, ← ih]
          simp
          omega
    exact this xs
theorem sv_of {M : List (Int × Int)} {xs : List Int} (h : SprL M (cn xs)) (t : Int) : svM M t = sv xs t := sumF (fun x => pz (t - x)) (spr_nd h) h.2
/-- some of these numbers, each as often at most -/
def Sub (ys xs : List Int) : Prop := ∀ m, cn ys m ≤ cn xs m
theorem perm_sum {xs ys : List Int} (h : xs.Perm ys) : xs.sum = ys.sum := by
  induction h with
  | nil => rfl
  | cons x _ ih => simp [ih]
  | swap x y l => simp only [List.sum_cons]; omega
  | trans _ _ h1 h2 => exact h1.trans h2
theorem sv_ge (t : Int) : ∀ ys : List Int, (ys.length : Int) * t - sv ys t ≤ ys.sum
  | [] => by simp [sv]
  | y :: ys => by
    have ih := sv_ge t ys
    have e : sv (y :: ys) t = pz (t - y) + sv ys t := rfl
    rw [e, List.sum_cons, List.length_cons, Int.natCast_add, Int.add_mul]
    have : t - y ≤ pz (t - y) := by unfold pz; split <;> omega
    simp
    omega
/-- what is told of so many rows -/
structure Lst (xs : List Int) (r v : Int) : Prop where
  le : ∀ t, r * t - sv xs t ≤ v
  eq : ∃ θ ∈ xs, v = r * θ - sv xs θ
theorem lst_of {M : List (Int × Int)} {xs : List Int} {r : Int} (h : SprL M (cn xs)) (h1 : 1 ≤ r) (hr : r ≤ xs.length) : (lsF M (0, r)).2 = 0 ∧ Lst xs r (lsF M (0, r)).1 := by
  have hn := spr_sum_nn h
  have hs := spr_sum h
  have hl : (lsF M (0, r)).2 = 0 := by
    rw [lsF_left M (0, r) (by show (0 : Int) ≤ r; omega) hn, hs]
    exact if_pos hr
  refine ⟨hl, fun t => ?_, ?_⟩
  · rw [← sv_of h]
    exact dual_le t M r (by omega) hn hl
  · obtain ⟨θ, hm, e⟩ := dual_eq M r h1 h.1 hn (by rw [hs]; exact hr)
    exact ⟨θ, (spr_keys h θ).mp hm, by rw [← sv_of h]; exact e⟩
theorem sv_nn (xs : List Int) (t : Int) : 0 ≤ sv xs t := sum_nn fun x hx => by
  obtain ⟨y, _, rfl⟩ := List.mem_map.mp hx
  exact pz_nn _
end Lv

set_option Elab.async false
set_option linter.all false
set_option maxRecDepth 100000
set_option maxHeartbeats 4000000
namespace Lv
open PySem L2
/-! ### numbers whose sum of p to minus the number is at most 1 read no less than the log of like rows -/
theorem bern {p : Int} (hp : 1 ≤ p) : ∀ n : Nat, 1 + (p - 1) * n ≤ p ^ n
  | 0 => by simp
  | n + 1 => by
    have ih := bern hp n
    have h1 : 1 ≤ p ^ n := by
      have : 0 ≤ (p - 1) * (n : Int) := Int.mul_nonneg (by omega) (by omega)
      omega
    rw [Int.pow_succ]
    have h2 : p ^ n * p = p ^ n + p ^ n * (p - 1) := by rw [Int.mul_sub, Int.mul_one]; omega
    have h3 : 1 * (p - 1) ≤ p ^ n * (p - 1) := Int.mul_le_mul_of_nonneg_right h1 (by omega)
    have h4 : (p - 1) * ((n + 1 : Nat) : Int) = (p - 1) * n + (p - 1) := by rw [Int.natCast_add, Int.mul_add]; simp
    omega
theorem pow_pos' {p : Int} (hp : 1 ≤ p) (n : Nat) : 1 ≤ p ^ n := by
  have := bern hp n
  have : 0 ≤ (p - 1) * (n : Int) := Int.mul_nonneg (by omega) (by omega)
  omega
/-- above its line -/
theorem above {p : Int} (hp : 2 ≤ p) (a b : Nat) : p ^ b * (1 + (p - 1) * ((a : Int) - b)) ≤ p ^ a := by
  by_cases h : b ≤ a
  · obtain ⟨c, rfl⟩ : ∃ c, a = b + c := ⟨a - b, by omega⟩
    rw [Int.pow_add]
    have e : ((b + c : Nat) : Int) - b = c := by omega
    rw [e]
    exact Int.mul_le_mul_of_nonneg_left (bern (by omega) c) (by have := pow_pos' (p := p) (by omega) b; omega)
  · have h1 := pow_pos' (p := p) (by omega) a
    have h2 := pow_pos' (p := p) (by omega) b
    have h3 : (p - 1) * ((a : Int) - b) ≤ (p - 1) * (-1) := Int.mul_le_mul_of_nonneg_left (by omega) (by omega)
    have h4 : p ^ b * (1 + (p - 1) * ((a : Int) - b)) ≤ 0 := Int.mul_nonpos_of_nonneg_of_nonpos (by omega) (by omega)
    omega
/-- the sum of p to minus the numbers, over the bottom p ^ M -/
def kr (p : Int) (M : Nat) (ys : List Int) : Int := (ys.map fun y => p ^ (M - y.toNat)).sum
end Lv

set_option Elab.async false
set_option linter.all false
set_option maxRecDepth 100000
set_option maxHeartbeats 4000000
namespace Lv
open PySem L2
/-! ### the play of a level, phase by phase, rows of places -/
section
variable {α : Type}
/-- something that adds up over a row -/
structure Adds (g : List α → Int) : Prop where
  nil : g [] = 0
  app : ∀ a b, g (a ++ b) = g a + g b
def dt (g : List α → Int) : List (List α) → List Int → Int
  | r :: rs, n :: ns => n * g r + dt g rs ns
  | _, _ => 0
def es : List Int → (Nat → Int) → Int
  | [], _ => 0
  | n :: ns, h => (n + 1) * h 0 + es ns fun j => h (j + 1)
end
/-! ### the reels' numbers, turned -/
theorem num_lead2 {p : Nat} (hp : 2 ≤ p) (n : Nat) : ∃ x r, num p n = x :: r ∧ r.length + 1 = p ∧ num p (n + 1) = (r.map (x.map (· + 1) ++ ·)) ++ [x.map (· + 1)] := by
  obtain ⟨x, r, e, hr⟩ := num_split hp n
  refine ⟨x, r, e, hr, ?_⟩
  show nextN (num p n) = _
  rw [e]
  rfl
end Lv

set_option Elab.async false
set_option linter.all false
set_option maxRecDepth 100000
set_option maxHeartbeats 4000000
namespace Lv
open PySem L2
theorem kr_app (p : Int) (M : Nat) (a b : List Int) : kr p M (a ++ b) = kr p M a + kr p M b := by simp [kr]
theorem kr_up {p : Int} {M : Nat} : ∀ x : List Int, (∀ y ∈ x, 0 ≤ y ∧ y + 1 ≤ M) → p * kr p M (x.map (· + 1)) = kr p M x
  | [], _ => by simp [kr]
  | y :: x, h => by
    have ih := kr_up (p := p) x fun z hz => h z (List.mem_cons_of_mem _ hz)
    obtain ⟨y0, y1⟩ := h y List.mem_cons_self
    show p * (p ^ (M - (y + 1).toNat) + kr p M (x.map (· + 1))) = p ^ (M - y.toNat) + kr p M x
    rw [Int.mul_add, ih, show M - y.toNat = (M - (y + 1).toNat) + 1 by omega, Int.pow_succ, Int.mul_comm]
theorem kr_pre (p : Int) (M : Nat) (x : List Int) : ∀ r : List (List Int), kr p M (r.map (x ++ ·)).flatten = (r.length : Int) * kr p M x + kr p M r.flatten
  | [] => by simp [kr]
  | y :: r => by
    rw [List.map_cons, List.flatten_cons, List.flatten_cons, kr_app, kr_app, kr_app, kr_pre p M x r, List.length_cons]
    have : ((r.length + 1 : Nat) : Int) * kr p M x = (r.length : Int) * kr p M x + kr p M x := by
      rw [show ((r.length + 1 : Nat) : Int) = (r.length : Int) + 1 by omega, Int.add_mul, Int.one_mul]
    omega
/-- a level's numbers fill it -/
theorem kr_num {p : Nat} (hp : 2 ≤ p) {M : Nat} : ∀ n, n ≤ M → kr p M (num p n).flatten = (p : Int) ^ M
  | 0, _ => by
    have : (num p 0).flatten = [0] := by
      show (num0 p).flatten = [0]
      simp [num0]
    rw [this]
    simp [kr]
  | n + 1, h => by
    have ih := kr_num (M := M) hp n (by omega)
    obtain ⟨x, r, e, hr, e2⟩ := num_lead2 hp n
    have hx : ∀ y ∈ x, 0 ≤ y ∧ y + 1 ≤ M := fun y hy => by
      have := bd_num p n x (by rw [e]; exact List.mem_cons_self) y hy
      omega
    have hu := kr_up (p := p) (M := M) x hx
    rw [e2, List.flatten_append, kr_app, kr_pre]
    rw [e, List.flatten_cons, kr_app] at ih
    have h1 : ([x.map (· + 1)] : List (List Int)).flatten = x.map (· + 1) := by simp
    rw [h1, ← ih, ← hu]
    have h2 : (p : Int) * kr p M (x.map (· + 1)) = (r.length : Int) * kr p M (x.map (· + 1)) + kr p M (x.map (· + 1)) := by
      rw [show (p : Int) = (r.length : Int) + 1 by omega, Int.add_mul, Int.one_mul]
    omega
end Lv

set_option Elab.async false
set_option linter.all false
set_option maxRecDepth 100000
set_option maxHeartbeats 4000000
namespace Lv
open PySem L2
/-! ### the cascade's counts, in plain Lean -/
def pre : Int → List Int → List Int
  | _, [] => []
  | s, x :: r => (s + x) :: pre (s + x) r
def nextK (c : List Int) : List Int := (pre 0 c).reverse
def casc (p : Nat) : Nat → List Int
  | 0 => firstC p
  | n + 1 => nextK (casc p n)
theorem pre_shift : ∀ (s t : Int) (c : List Int), pre (s + t) c = (pre t c).map (s + ·)
  | _, _, [] => rfl
  | s, t, x :: r => by rw [pre, pre, List.map_cons, Int.add_assoc, pre_shift]
theorem pre_cons (x : Int) (r : List Int) : pre 0 (x :: r) = x :: (pre 0 r).map (x + ·) := by
  have := pre_shift x 0 r
  rw [Int.add_zero] at this
  rw [pre, Int.zero_add, this]
/-! ### pools of three ints -/
end Lv

set_option Elab.async false
set_option linter.all false
set_option maxRecDepth 100000
set_option maxHeartbeats 4000000
namespace L2
open PySem PySem.Spec PyProof.Rows PySem.SeqAt
section
variable {X : Cx}
end
end L2

set_option Elab.async false
set_option linter.all false
set_option maxRecDepth 100000
set_option maxHeartbeats 4000000
namespace Lv
open PySem L2
/-! ### the cascade's numbers, in plain Lean -/
def up1 (A : List Int) : List Int := A.map (· + 1)
def nextKN : List (List Int) → List (List Int)
  | [] => []
  | [Z] => [Z]
  | A :: B :: r => (nextKN (B :: r)).map (up1 A ++ ·) ++ [up1 A]
def casN (p : Nat) : Nat → List (List Int)
  | 0 => num0 p
  | n + 1 => nextKN (casN p n)
def lensK (N : List (List Int)) : List Int := N.map fun xs => (xs.length : Int)
theorem nextK_cons (x : Int) (r : List Int) : nextK (x :: r) = (nextK r).map (x + ·) ++ [x] := by
  rw [nextK, pre_cons, List.reverse_cons, ← List.map_reverse]
  rfl
theorem lensK_next : ∀ N : List (List Int), lensK (nextKN N) = nextK (lensK N)
  | [] => rfl
  | [Z] => by simp [nextKN, lensK, nextK, pre]
  | A :: B :: r => by
    have ih := lensK_next (B :: r)
    have e : lensK (A :: B :: r) = (A.length : Int) :: lensK (B :: r) := rfl
    rw [e, nextK_cons, ← ih]
    simp [nextKN, lensK, up1, Function.comp_def]
theorem nextKN_len : ∀ N : List (List Int), (nextKN N).length = N.length
  | [] => rfl
  | [Z] => rfl
  | A :: B :: r => by
    have := nextKN_len (B :: r)
    simp [nextKN] at this ⊢
    omega
theorem lens_cas {p : Nat} (hp : 1 ≤ p) : ∀ n, lensK (casN p n) = casc p n
  | 0 => by
    simp [casN, lensK, num0, casc, firstC]
  | n + 1 => by rw [casN, lensK_next, lens_cas hp n]; rfl
/-! ### what is read, with what is still to be read -/
def rowAt (r : List (List Int)) (t : Nat) : List Int := r.getD t []
def S (q : Int) (g : Nat → List Int) (a : List Int) : Int := ((List.range a.length).map fun t => ((g t).count q : Int) * a.getD t 0).sum
def pot (q : Int) : List (List (List Int)) → List (List Int) → Int
  | r :: R, a :: N => S q (rowAt r) a + pot q R N
  | _, _ => 0
end Lv
namespace Lv
open PySem L2
/-! ### the numbers, as the program makes them -/
def goN : List Int → List (List Int) → List (List Int)
  | _, [] => []
  | r, A :: I => (r ++ up1 A) :: goN (r ++ up1 A) I
def finN (I : List (List Int)) : List Int := (I.map up1).flatten
theorem goN_map (U : List Int) : ∀ (r : List Int) (I : List (List Int)), goN (U ++ r) I = (goN r I).map (U ++ ·)
  | _, [] => rfl
  | r, A :: I => by rw [goN, goN, List.map_cons, List.append_assoc, goN_map U]
theorem goN_snoc : ∀ (r : List Int) (I : List (List Int)) (A : List Int), goN r (I ++ [A]) = goN r I ++ [r ++ finN I ++ up1 A]
  | r, [], A => by simp [goN, finN]
  | r, B :: I, A => by
    rw [List.cons_append, goN, goN, goN_snoc, List.cons_append]
    simp [finN]
theorem goN_len : ∀ (r : List Int) (I : List (List Int)), (goN r I).length = I.length
  | _, [] => rfl
  | r, A :: I => by rw [goN, List.length_cons, List.length_cons, goN_len]
theorem finN_snoc (I : List (List Int)) (A : List Int) : finN (I ++ [A]) = finN I ++ up1 A := by simp [finN]
theorem nextKN_eq : ∀ (I : List (List Int)) (Z : List Int), nextKN (I ++ [Z]) = (finN I ++ Z) :: (goN [] I).reverse
  | [], Z => by simp [nextKN, finN, goN]
  | A :: I, Z => by
    have ih := nextKN_eq I Z
    have e : nextKN (A :: (I ++ [Z])) = (nextKN (I ++ [Z])).map (up1 A ++ ·) ++ [up1 A] := by
      cases I with
      | nil => rfl
      | cons B r => rfl
    have g : goN (up1 A) I = (goN [] I).map (up1 A ++ ·) := by
      have := goN_map (up1 A) [] I
      rwa [List.append_nil] at this
    rw [List.cons_append, e, ih, goN, List.nil_append, g]
    simp [finN]
theorem casN_len {p : Nat} (hp : 1 ≤ p) : ∀ n, (casN p n).length = p
  | 0 => by simp [casN, num0]; omega
  | n + 1 => by rw [casN, nextKN_len, casN_len hp n]
end Lv
namespace Lv
open PySem L2
theorem sIx_last {n : Nat} : HT.sIx (n + 1) (n + 1) (some (-1)) = n := by
  have := HT.clip_eq (-1) (n + 1) (n + 1)
  rw [if_pos (by decide)] at this
  omega
theorem cut_lastK (xs : List V) (y : V) : cutV (xs ++ [y]) none (some (-1)) = xs := by
  unfold cutV
  rw [show (xs ++ [y]).length = xs.length + 1 by simp, sIx_last]
  show (xs ++ [y]).take (xs.length - 0) = xs
  rw [Nat.sub_zero, List.take_left]
end Lv
namespace Lv
open PySem L2
/-! ### reels of rows in the heap -/
/-! ### sizes -/
end Lv

set_option Elab.async false
set_option linter.all false
set_option maxRecDepth 100000
set_option maxHeartbeats 4000000
namespace Lv
open PySem L2
/-! ### rows of counts -/
def vec (L : Nat) (g : Nat → Int) : List Int := (List.range L).map g
theorem vec_len (L : Nat) (g : Nat → Int) : (vec L g).length = L := by simp [vec]
theorem vec_at {L : Nat} {g : Nat → Int} {j : Nat} (h : j < L) : (vec L g)[j]? = some (g j) := by
  unfold vec
  rw [List.getElem?_map, List.getElem?_range h]; rfl
theorem vec_congr {L : Nat} {g h : Nat → Int} (e : ∀ j, j < L → g j = h j) : vec L g = vec L h := List.map_congr_left fun j hj => e j (List.mem_range.mp hj)
theorem vec_set {L : Nat} {g : Nat → Int} {i : Nat} {x : Int} : (vec L g).set i x = vec L (fun m => if m = i then x else g m) := by
  refine List.ext_getElem? fun j => ?_
  by_cases hj : j < L
  · rw [vec_at hj]
    by_cases e : i = j
    · subst e
      rw [List.getElem?_set_self (by rw [vec_len]; exact hj), if_pos rfl]
    · rw [List.getElem?_set_ne e, vec_at hj, if_neg (fun z => e z.symm)]
  · rw [List.getElem?_eq_none (by rw [List.length_set, vec_len]; omega), List.getElem?_eq_none (by rw [vec_len]; omega)]
def arr (L : Nat) (xs : List Int) : List Int := vec L fun m => cn xs (m : Int)
/-! ### the cascade's next level, by counts -/
def mre (p at_ o : Nat) : Int := if at_ > 0 ∨ o < p - 1 then 1 else 0
theorem fin_trs (I : List (List Int)) (m : Int) : ∀ k, k ≤ I.length → cn (finN (I.take k)) m = trs (fun o => cn (I.getD o []) (m - 1)) k
  | 0, _ => by rw [List.take_zero]; exact cn_nil m
  | k + 1, h => by
    rw [List.take_succ_eq_append_getElem (by omega), finN_snoc, cn_app, fin_trs I m k (by omega), trs]
    have : I.getD k [] = I[k] := by rw [List.getD_eq_getElem?_getD, List.getElem?_eq_getElem (by omega)]; rfl
    rw [this]
    unfold up1
    rw [cn_shift]
theorem goN_at (I : List (List Int)) : ∀ k, k < I.length → (goN [] I)[k]? = some (finN (I.take (k + 1))) := by
  intro k hk
  have : ∀ (r : List Int) (J : List (List Int)) (k : Nat), k < J.length → (goN r J)[k]? = some (r ++ finN (J.take (k + 1))) := by
    intro r J
    induction J generalizing r with
    | nil => intro k h; simp at h
    | cons A J ih =>
      intro k h
      rw [goN]
      cases k with
      | zero => simp [finN]
      | succ k =>
        rw [List.getElem?_cons_succ, ih (r ++ up1 A) k (by simpa using h)]
        simp [finN]
  simpa using this [] I k hk
theorem nextK_cn {N : List (List Int)} {at_ : Nat} {xs : List Int} (h2 : 1 ≤ N.length) (h : (nextKN N)[at_]? = some xs) (m : Int) : cn xs m = trs (fun o => cn (N.getD o []) (m - mre N.length at_ o)) (N.length - at_) := by
  obtain ⟨I, Z, rfl⟩ : ∃ I Z, N = I ++ [Z] := by
    have hne : N ≠ [] := by rintro rfl; simp at h2
    exact ⟨N.dropLast, N.getLast hne, (List.dropLast_concat_getLast hne).symm⟩
  have hl : (I ++ [Z]).length = I.length + 1 := by simp
  have hat := (List.getElem?_eq_some_iff.mp h).1
  rw [nextKN_len, hl] at hat
  rw [nextKN_eq] at h
  have gI : ∀ o, o < I.length → (I ++ [Z]).getD o [] = I.getD o [] := fun o ho => by
    rw [List.getD_eq_getElem?_getD, List.getElem?_append_left ho, List.getD_eq_getElem?_getD]
  rw [hl]
  cases at_ with
  | zero =>
    have h : finN I ++ Z = xs := by simpa using h
    rw [← h, cn_app, Nat.sub_zero, trs]
    have e1 := fin_trs I m I.length (Nat.le_refl _)
    rw [List.take_length] at e1
    rw [e1]
    congr 1
    · refine trs_congr fun o ho => ?_
      rw [gI o ho, mre, if_pos (.inr (by omega))]
    · rw [mre, if_neg (by omega), Int.sub_zero, List.getD_eq_getElem?_getD]
      simp
  | succ a =>
    have h : ((goN [] I).reverse)[a]? = some xs := by simpa using h
    rw [List.getElem?_reverse (by rw [goN_len]; omega), goN_len, goN_at I _ (by omega)] at h
    have h := Option.some.inj h
    rw [← h, fin_trs I m _ (by omega)]
    have : I.length - 1 - a + 1 = I.length + 1 - (a + 1) := by omega
    rw [this]
    refine trs_congr fun o ho => ?_
    rw [gI o (by omega), mre, if_pos (.inl (by omega))]
theorem bd_cas {p : Nat} (hp : 1 ≤ p) : ∀ n : Nat, Bd n (casN p n)
  | 0 => bd_num p 0
  | n + 1 => fun xs a m b => by
    have ih := bd_cas hp n
    obtain ⟨at_, ha⟩ := List.getElem?_of_mem a
    have hm := cn_ne.mpr b
    rw [nextK_cn (by rw [casN_len hp]; exact hp) ha] at hm
    have : ∀ (h : Nat → Int) k, trs h k ≠ 0 → ∃ o, o < k ∧ h o ≠ 0 := by
      intro h k
      induction k with
      | zero => intro z; exact absurd rfl z
      | succ k ihk =>
        intro z
        rw [trs] at z
        by_cases e : h k = 0
        · rw [e, Int.add_zero] at z
          obtain ⟨o, h1, h2⟩ := ihk z
          exact ⟨o, by omega, h2⟩
        · exact ⟨k, by omega, e⟩
    obtain ⟨o, _, ho⟩ := this _ _ hm
    have hmem := cn_ne.mp ho
    rw [List.getD_eq_getElem?_getD] at hmem
    cases e : (casN p n)[o]? with
    | none => rw [e] at hmem; cases hmem
    | some ys =>
      rw [e] at hmem
      have := ih ys (List.mem_of_getElem? e) _ hmem
      have h01 : mre (casN p n).length at_ o = 0 ∨ mre (casN p n).length at_ o = 1 := by unfold mre; split <;> simp
      omega
theorem flatK_len {p : Nat} (hp : 1 ≤ p) (n : Nat) : (((casN p n).flatten.length : Nat) : Int) = (casc p n).sum := by
  rw [← lens_cas hp n]
  have : ∀ N : List (List Int), ((N.flatten.length : Nat) : Int) = (lensK N).sum := by
    intro N
    induction N with
    | nil => rfl
    | cons a r ih =>
      rw [List.flatten_cons, List.length_append, lensK, List.map_cons, List.sum_cons]
      rw [lensK] at ih
      rw [← ih]; omega
  exact this _
end Lv

set_option Elab.async false
set_option linter.all false
set_option maxRecDepth 100000
set_option maxHeartbeats 4000000
namespace Lv
open PySem L2
theorem kr_nn {p : Int} (hp : 2 ≤ p) (M : Nat) (xs : List Int) : 0 ≤ kr p M xs := sum_nn fun x hx => by
  obtain ⟨y, _, rfl⟩ := List.mem_map.mp hx
  have := pow_pos' (p := p) (by omega) (M - y.toNat)
  omega
theorem lenKN : ∀ N : List (List Int), (nextKN N).length = N.length
  | [] => rfl
  | [Z] => rfl
  | A :: B :: r => by
    rw [nextKN, List.length_append, List.length_map, lenKN (B :: r)]
    rfl
theorem kr_nextK {p : Int} (hp : 2 ≤ p) {M : Nat} : ∀ N : List (List Int), (N.length : Int) ≤ p → (∀ xs ∈ N, ∀ y ∈ xs, 0 ≤ y ∧ y + 1 ≤ M) → kr p M (nextKN N).flatten ≤ kr p M N.flatten
  | [], _, _ => Int.le_refl _
  | [Z], _, _ => Int.le_refl _
  | A :: B :: r, hl, h => by
    have ih := kr_nextK hp (B :: r) (by simp at hl ⊢; omega) fun xs hx => h xs (List.mem_cons_of_mem _ hx)
    have hu := kr_up (p := p) (M := M) A (h A List.mem_cons_self)
    have e1 : up1 A = A.map (· + 1) := rfl
    have h1 : ([A.map (· + 1)] : List (List Int)).flatten = A.map (· + 1) := by simp
    have e2 : kr p M (A :: B :: r).flatten = kr p M A + kr p M (B :: r).flatten := by rw [List.flatten_cons, kr_app]
    rw [e2, ← hu, nextKN, List.flatten_append, kr_app, kr_pre, lenKN, e1, h1]
    have hn := kr_nn hp M (A.map (· + 1))
    have h2 : (((B :: r).length : Int) + 1) * kr p M (A.map (· + 1)) ≤ p * kr p M (A.map (· + 1)) := Int.mul_le_mul_of_nonneg_right (by simp at hl ⊢; omega) hn
    rw [Int.add_mul, Int.one_mul] at h2
    omega
theorem lenCas {p : Nat} (hp : 1 ≤ p) : ∀ n, (casN p n).length = p
  | 0 => num_len hp 0
  | n + 1 => by rw [casN, lenKN, lenCas hp n]
/-- the cascade's numbers fill it at most -/
theorem kr_cas {p : Nat} (hp : 2 ≤ p) {M : Nat} : ∀ n, n ≤ M → kr p M (casN p n).flatten ≤ (p : Int) ^ M
  | 0, h => Int.le_of_eq (kr_num hp 0 h)
  | n + 1, h => by
    have ih := kr_cas (M := M) hp n (by omega)
    refine Int.le_trans (kr_nextK (by omega) (casN p n) (by rw [lenCas (by omega)]; omega) fun xs hx y hy => ?_) ih
    have := bd_cas (p := p) (by omega) n xs hx y hy
    omega
end Lv

set_option Elab.async false
set_option linter.all false
set_option maxRecDepth 100000
set_option maxHeartbeats 4000000
namespace Lv
open PySem L2
/-! ### the laying of rows as they come -/
def fill (x y : Int) : List Bool := List.replicate x.toNat false ++ List.replicate y.toNat true
end Lv

set_option Elab.async false
set_option linter.all false
set_option maxRecDepth 100000
set_option maxHeartbeats 4000000
namespace L2
open PySem PySem.Spec PyProof.Rows
/-! ### a list comprehension of two clauses -/
abbrev two (elt t1 i1 : Expr) (f1 : List Expr) (t2 i2 : Expr) (f2 : List Expr) (scope : Scope) (pos : Pos) : Expr := .ListComp elt [⟨t1, i1, f1, 0⟩, ⟨t2, i2, f2, 0⟩] scope pos
section
variable {prog : Program} {w : World} {A : Around} {R : Result → Shared → Prop} {s : Shared} {elt t1 i1 : Expr} {f1 : List Expr} {t2 i2 : Expr} {f2 : List Expr} {scope : Scope} {pos : Pos} {it acc : Value} {env : Env}
end
end L2

set_option Elab.async false
set_option linter.all false
set_option maxRecDepth 100000
set_option maxHeartbeats 4000000
namespace L2
open PySem PySem.Spec PyProof.Rows
section
variable {X : Cx} {scope : Scope} {own : List Str} {js fr : List Nat} {elt t1 i1 : Expr} {f1 : List Expr} {t2 i2 : Expr} {f2 : List Expr} {wi wi2 : TI} {g1 g2 : TG} {tt1 tt2 : TT} {te : TE} {pos : Pos}
end
end L2

set_option Elab.async false
set_option linter.all false
set_option maxRecDepth 100000
set_option maxHeartbeats 4000000
namespace L2
open PySem PySem.Spec PyProof.Rows
end L2
namespace Lv
open PySem L2
/-! ### what a laying reads -/
end Lv

set_option Elab.async false
set_option linter.all false
set_option maxRecDepth 100000
set_option maxHeartbeats 4000000
namespace L2
open PySem PySem.Spec PyProof.Rows
/-! ### a comprehension some of whose own names are captured by one within it -/
section
variable {M : Model} {A : Around} {E : Value → Shared → Prop}
end
section
variable {X : Cx} {pins : List (Addr × Obj)} {σ : St} {H H' : Hp} {s s' : Shared} {scope : Scope} {own : List Str} {js : List Nat} {C : Addr} {fp : List Addr}
structure CompOkK (X : Cx) (scope : Scope) (own : List Str) (js : List Nat) : Prop where
  kind : scope.kind = .function
  free : ∀ y ∈ scope.names, y.2 = .free → X.env.kindOf y.1 = some .cell ∨ X.env.kindOf y.1 = some .free
  names : ∀ y ∈ scope.names, scope.names.lookup y.1 = some y.2
  out : ∀ j ∈ js, ∃ x, X.N[j]? = some x ∧ scope.names.lookup x = some .free
end
section
variable {X : Cx} {scope : Scope} {own : List Str} {js : List Nat} {elt iter target : Expr} {ifs : List Expr} {wi : TI} {g : TG} {tt : TT} {te : TE} {pos : Pos}
end
end L2

set_option Elab.async false
set_option linter.all false
set_option maxRecDepth 100000
set_option maxHeartbeats 4000000
namespace Lv
open PySem L2
/-! ### layings: tuples of tuples of truths -/
end Lv

set_option Elab.async false
set_option linter.all false
set_option maxRecDepth 100000
set_option maxHeartbeats 4000000
namespace Lv
open PySem L2
/-! ### all places of a level, and which are real -/
def nfR (ks : List (Int × Int)) (i : Nat) (x : Int) : List Bool := (List.range x.toNat).map fun (j : Nat) => decide (((i : Int), (j : Int)) ∈ ks)
def nf (ks : List (Int × Int)) : Nat → List Int → List (List Bool)
  | _, [] => []
  | i, x :: c => nfR ks i x :: nf ks (i + 1) c
end Lv

set_option Elab.async false
set_option linter.all false
set_option maxRecDepth 100000
set_option maxHeartbeats 4000000
namespace Lv
open PySem L2
/-! ### what best_reading tells -/
theorem bo_bestN {g : Nat → Option Int} {c : Nat → Int} {N : Nat} (hm : ∀ a b, a ≤ b → b < N → c a ≤ c b) (hg : ∀ n r, n < N → g n = some r → c n ≤ r) : ∀ (k n : Nat) (st : Option (Int × Nat)), n + k ≤ N → IsBest g n st → IsBest g (n + k) (bo g c k n st)
  | 0, n, st, _, h => h
  | k + 1, n, st, hk, h => by
    unfold bo
    by_cases e : boStop c n st = true
    · rw [if_pos e]
      cases st with
      | none => cases e
      | some q =>
        obtain ⟨a, b, d, f⟩ := h
        have e' : c n ≥ q.1 := of_decide_eq_true e
        refine ⟨by omega, b, fun m r hmr hr => ?_, f⟩
        by_cases hlt : m < n
        · exact d m r hlt hr
        · have h1 := hm n m (by omega) (by omega)
          have h2 := hg m r (by omega) hr
          omega
    · rw [if_neg e]
      have := bo_bestN hm hg k (n + 1) _ (by omega) h.step
      rw [show n + (k + 1) = n + 1 + k by omega]
      exact this
theorem flat_tot (p n : Nat) : (((num p n).flatten.length : Nat) : Int) = tot p n := flatN_len n
/-! ### a level of one way more has all that the other one has -/
/-! ### layings read no less -/
end Lv

set_option Elab.async false
set_option linter.all false
set_option maxRecDepth 100000
set_option maxHeartbeats 4000000
namespace Lv
open PySem L2
/-! ### the best over any levels whose least number never falls -/
section
variable {S : Nat → List (List Int)}
def gS (S : Nat → List (List Int)) (r : Int) (n : Nat) : Option Int := leastC (S n).flatten r
def cS (S : Nat → List (List Int)) (r : Int) (n : Nat) : Int := r * ((sprC (S n).flatten).headD (0, 0)).1
/-- what levels must keep -/
structure Lvs (S : Nat → List (List Int)) : Prop where
  bd : ∀ n : Nat, Bd n (S n)
  ne : ∀ n, (S n).flatten ≠ []
  up : ∀ n, ∀ b ∈ (S (n + 1)).flatten, ∃ y ∈ (S n).flatten, y ≤ b
theorem Lvs.le (L : Lvs S) {n : Nat} (hn : n ≤ 300) : ∀ m ∈ (S n).flatten, 0 ≤ m ∧ m ≤ 400 := fun m hm => by
  obtain ⟨xs, hx, hm⟩ := List.mem_flatten.mp hm
  have := L.bd n xs hx m hm
  omega
theorem Lvs.some (L : Lvs S) {n : Nat} {r : Int} (hn : n ≤ 300) (h1 : 1 ≤ r) (hr : r ≤ (S n).flatten.length) : ∃ v, gS S r n = some v ∧ Lst (S n).flatten r v := by
  obtain ⟨l1, l2⟩ := lst_of (sprC_is (L.le hn)) h1 hr
  refine ⟨_, ?_, l2⟩
  unfold gS leastC
  rw [if_neg (by omega)]
theorem Lvs.of (L : Lvs S) {n : Nat} {r v : Int} (hn : n ≤ 300) (h1 : 1 ≤ r) (h : gS S r n = Option.some v) : r ≤ (S n).flatten.length ∧ Lst (S n).flatten r v := by
  have hs := sprC_is (L.le hn)
  have hl := lsF_left (sprC (S n).flatten) (0, r) (by show (0 : Int) ≤ r; omega) (spr_sum_nn hs)
  rw [spr_sum hs] at hl
  have hr : r ≤ (S n).flatten.length := by
    refine Decidable.byContradiction fun z => ?_
    rw [if_neg (by show ¬ r ≤ ((S n).flatten.length : Int); exact z)] at hl
    unfold gS leastC at h
    rw [if_pos (by show (lsF (sprC (S n).flatten) (0, r)).2 > 0; rw [hl]; show r - ((S n).flatten.length : Int) > 0; omega)] at h
    cases h
  refine ⟨hr, ?_⟩
  obtain ⟨u, e, l⟩ := L.some hn h1 hr
  rw [h] at e
  cases e
  exact l
theorem Lvs.head (L : Lvs S) {n : Nat} (hn : n ≤ 300) : LeastOf (S n).flatten ((sprC (S n).flatten).headD (0, 0)).1 := by
  have hs := sprC_is (L.le hn)
  cases e : sprC (S n).flatten with
  | nil =>
    obtain ⟨m, hm⟩ := List.exists_mem_of_ne_nil _ (L.ne n)
    have := (spr_keys hs m).mpr hm
    rw [e] at this
    simp at this
  | cons q M =>
    rw [e] at hs
    exact spr_least hs
theorem Lvs.up' (L : Lvs S) : ∀ (a k : Nat), ∀ b ∈ (S (a + k)).flatten, ∃ y ∈ (S a).flatten, y ≤ b
  | a, 0, b, hb => ⟨b, hb, Int.le_refl _⟩
  | a, k + 1, b, hb => by
    obtain ⟨y, hy, h⟩ := L.up (a + k) b hb
    obtain ⟨z, hz, h2⟩ := L.up' a k y hy
    exact ⟨z, hz, Int.le_trans h2 h⟩
theorem Lvs.best (L : Lvs S) {r : Int} (h1 : 1 ≤ r) {N : Nat} (hN : N ≤ 301) : IsBest (gS S r) N (bo (gS S r) (cS S r) N 0 none) := by
  have := bo_bestN (g := gS S r) (c := cS S r) (N := N) (fun a b hab hb => ?_) (fun n v hn hv => ?_) N 0 none (by omega) (fun n hn => absurd hn (Nat.not_lt_zero _))
  · simpa using this
  · have ha := L.head (show a ≤ 300 by omega)
    have hb' := L.head (show b ≤ 300 by omega)
    refine Int.mul_le_mul_of_nonneg_left ?_ (by omega)
    have hb1 := hb'.1
    rw [show b = a + (b - a) by omega] at hb1
    obtain ⟨y, hy, h⟩ := L.up' a (b - a) _ hb1
    have h2 := ha.2 y hy
    rw [show a + (b - a) = b by omega] at h
    omega
  · obtain ⟨_, l⟩ := L.of (show n ≤ 300 by omega) h1 hv
    have hl := L.head (show n ≤ 300 by omega)
    have := l.le ((sprC (S n).flatten).headD (0, 0)).1
    have hz : sv (S n).flatten ((sprC (S n).flatten).headD (0, 0)).1 = 0 := by
      unfold sv
      have : ((S n).flatten.map fun x => pz (((sprC (S n).flatten).headD (0, 0)).1 - x)) = (S n).flatten.map fun _ => 0 := List.map_congr_left fun x hx => by
        have := hl.2 x hx
        unfold pz
        split <;> omega
      rw [this]
      generalize (S n).flatten = l
      induction l with
      | nil => rfl
      | cons x l ih => rw [List.map_cons, List.sum_cons, ih]; rfl
    rw [hz] at this
    unfold cS
    omega
end
/-! ### the cascade's levels -/
theorem next_up : ∀ (N : List (List Int)), ∀ b ∈ (nextKN N).flatten, ∃ y ∈ N.flatten, y ≤ b
  | [], b, hb => by simp [nextKN] at hb
  | [Z], b, hb => ⟨b, hb, Int.le_refl _⟩
  | A :: B :: r, b, hb => by
    have hA : ∀ c ∈ up1 A, ∃ y ∈ (A :: B :: r).flatten, y ≤ c := fun c hc => by
      obtain ⟨y, hy, rfl⟩ := List.mem_map.mp hc
      exact ⟨y, by rw [List.flatten_cons]; exact List.mem_append_left _ hy, by omega⟩
    rw [nextKN, List.flatten_append] at hb
    rcases List.mem_append.mp hb with h | h
    · obtain ⟨xs, hx, hbx⟩ := List.mem_flatten.mp h
      obtain ⟨ys, hy, rfl⟩ := List.mem_map.mp hx
      rcases List.mem_append.mp hbx with h | h
      · exact hA b h
      · obtain ⟨y, hy2, hle⟩ := next_up (B :: r) b (List.mem_flatten.mpr ⟨ys, hy, h⟩)
        exact ⟨y, by rw [List.flatten_cons]; exact List.mem_append_right _ hy2, hle⟩
    · exact hA b (by simpa using h)
end Lv

set_option Elab.async false
set_option linter.all false
set_option maxRecDepth 100000
set_option maxHeartbeats 4000000
namespace Lv
open PySem L2
/-! ### the least of so many rows is the sum of so many of the numbers -/
theorem sv_step (t : Int) : ∀ xs : List Int, sv xs (t + 1) = sv xs t + ((xs.filter fun x => decide (x ≤ t)).length : Int)
  | [] => rfl
  | x :: xs => by
    have ih := sv_step t xs
    have e : ∀ u, sv (x :: xs) u = pz (u - x) + sv xs u := fun u => rfl
    rw [e, e, ih, List.filter_cons]
    by_cases h : x ≤ t
    · rw [if_pos (by simpa using h), List.length_cons]
      have : pz (t + 1 - x) = pz (t - x) + 1 := by unfold pz; split <;> split <;> omega
      omega
    · rw [if_neg (by simpa using h)]
      have : pz (t + 1 - x) = pz (t - x) := by unfold pz; split <;> split <;> omega
      omega
theorem sv_low (t : Int) : ∀ xs : List Int, sv xs t = ((xs.filter fun x => decide (x ≤ t - 1)).length : Int) * t - (xs.filter fun x => decide (x ≤ t - 1)).sum
  | [] => by simp [sv]
  | x :: xs => by
    have ih := sv_low t xs
    have e : sv (x :: xs) t = pz (t - x) + sv xs t := rfl
    rw [e, ih, List.filter_cons]
    by_cases h : x ≤ t - 1
    · rw [if_pos (by simpa using h), List.length_cons, List.sum_cons]
      have : pz (t - x) = t - x := by unfold pz; split <;> omega
      rw [this, show (((xs.filter fun x => decide (x ≤ t - 1)).length + 1 : Nat) : Int) = ((xs.filter fun x => decide (x ≤ t - 1)).length : Int) + 1 by omega, Int.add_mul, Int.one_mul]
      omega
    · rw [if_neg (by simpa using h)]
      have : pz (t - x) = 0 := by unfold pz; split <;> omega
      omega
theorem low_split (t m : Int) (xs : List Int) : cn (xs.filter fun x => decide (x ≤ t)) m = if m ≤ t then cn xs m else 0 := by
  unfold cn
  by_cases h : m ≤ t
  · rw [if_pos h, List.count_filter (by simpa using h)]
  · rw [if_neg h, List.count_eq_zero.mpr]
    · rfl
    · intro hm
      have := (List.mem_filter.mp hm).2
      exact h (by simpa using this)
theorem low_len (t : Int) : ∀ xs : List Int, ((xs.filter fun x => decide (x ≤ t)).length : Int) = ((xs.filter fun x => decide (x ≤ t - 1)).length : Int) + cn xs t
  | [] => by simp [cn]
  | x :: xs => by
    have ih := low_len t xs
    have e : cn (x :: xs) t = cn xs t + if x = t then 1 else 0 := by
      unfold cn
      rw [List.count_cons]
      by_cases h : x = t
      · rw [if_pos (by simpa using h), if_pos h]; omega
      · rw [if_neg (by simpa using h), if_neg h]; omega
    rw [e, List.filter_cons, List.filter_cons]
    by_cases h1 : x ≤ t - 1
    · rw [if_pos (by simp; omega), if_pos (by simpa using h1), if_neg (by omega), List.length_cons, List.length_cons]
      omega
    · by_cases h2 : x = t
      · rw [if_pos (by simp; omega), if_neg (by simpa using h1), if_pos h2, List.length_cons]
        omega
      · rw [if_neg (by simp; omega), if_neg (by simpa using h1), if_neg h2]
        omega
theorem Lst.list {xs : List Int} {r : Nat} {v : Int} (h : Lst xs r v) : ∃ ys, Sub ys xs ∧ ys.length = r ∧ ys.sum = v := by
  obtain ⟨θ, _, e⟩ := h.eq
  have h1 := h.le (θ + 1)
  have h2 := h.le (θ - 1)
  have s1 := sv_step θ xs
  have s2 := sv_step (θ - 1) xs
  rw [show θ - 1 + 1 = θ by omega] at s2
  have s3 := sv_low θ xs
  have s4 := low_len θ xs
  rw [Int.mul_add] at h1
  rw [Int.mul_sub] at h2
  have s5 := fun m => low_split (θ - 1) m xs
  generalize (xs.filter fun x => decide (x ≤ θ - 1)) = A at s2 s3 s4 s5
  have hr : A.length ≤ r := by omega
  refine ⟨A ++ List.replicate (r - A.length) θ, fun m => ?_, by simp; omega, ?_⟩
  · rw [cn_app, s5]
    by_cases hm : m = θ
    · subst hm
      rw [if_neg (by omega)]
      unfold cn at s4 ⊢
      rw [List.count_replicate_self]
      omega
    · have : cn (List.replicate (r - A.length) θ) m = 0 := by
        unfold cn
        rw [List.count_eq_zero.mpr]
        · rfl
        · intro hx
          exact hm (List.eq_of_mem_replicate hx)
      rw [this]
      split
      · omega
      · have := cn_pos xs m
        omega
  · rw [List.sum_append]
    have : (List.replicate (r - A.length) θ).sum = ((r - A.length : Nat) : Int) * θ := by
      generalize r - A.length = k
      induction k with
      | zero => simp
      | succ k ih => rw [List.replicate_succ, List.sum_cons, ih, show ((k + 1 : Nat) : Int) = (k : Int) + 1 by omega, Int.add_mul]; omega
    rw [this, show ((r - A.length : Nat) : Int) = (r : Int) - A.length by omega, Int.sub_mul, e, s3]
    omega
/-! ### the log of like rows -/
def lj (p r : Int) (t : Nat) : Int := r * t + (r - p ^ t) + -(-(r - p ^ t) / (p - 1))
theorem cdiv_le {o d c : Int} (hd : 0 < d) (h : o ≤ d * c) : -(-o / d) ≤ c := by
  have : -c ≤ -o / d := (Int.le_ediv_iff_mul_le hd).mpr (by rw [Int.neg_mul, Int.mul_comm c d]; omega)
  omega
theorem cdiv_ge {o d : Int} (hd : 0 < d) : o ≤ d * -(-o / d) := by
  have := Int.mul_ediv_self_le (x := -o) (k := d) (by omega)
  rw [Int.mul_neg]
  omega
end Lv

set_option Elab.async false
set_option linter.all false
set_option maxRecDepth 100000
set_option maxHeartbeats 4000000
namespace Lv
open PySem L2
/-- p to the t is within r, p times as much isn't -/
def Wi (p r : Int) (t : Nat) : Prop := p ^ t ≤ r ∧ r < p ^ (t + 1)
theorem pow_le {p : Int} (hp : 1 ≤ p) {a b : Nat} (h : a ≤ b) : p ^ a ≤ p ^ b := by
  obtain ⟨c, rfl⟩ : ∃ c, b = a + c := ⟨b - a, by omega⟩
  rw [Int.pow_add]
  have h1 := pow_pos' hp a
  have h2 := pow_pos' hp c
  have : p ^ a * 1 ≤ p ^ a * p ^ c := Int.mul_le_mul_of_nonneg_left h2 (by omega)
  omega
theorem Wi.uniq {p r : Int} {s t : Nat} (hp : 2 ≤ p) (a : Wi p r s) (b : Wi p r t) : s = t := by
  rcases Nat.lt_trichotomy s t with h | h | h
  · have := pow_le (p := p) (by omega) (show s + 1 ≤ t by omega)
    have := a.2; have := b.1; omega
  · exact h
  · have := pow_le (p := p) (by omega) (show t + 1 ≤ s by omega)
    have := a.1; have := b.2; omega
/-- so many passes of h at once make one row of r -/
def Ps (h r : Int) (k : Nat) : Prop := r ≤ h ^ k ∧ ∀ j, j < k → h ^ j < r
theorem Ps.uniq {h r : Int} {a b : Nat} (x : Ps h r a) (y : Ps h r b) : a = b := by
  rcases Nat.lt_trichotomy a b with z | z | z
  · have := y.2 a z; have := x.1; omega
  · exact z
  · have := x.2 b z; have := y.1; omega
/-! ### levels of numbers that fill them at most -/
structure Fil (S : Nat → List (List Int)) (p : Int) : Prop where
  lv : Lvs S
  kr : ∀ M n, n ≤ M → kr p M (S n).flatten ≤ p ^ M
  z : (S 0).flatten.length = 1
  one : ∀ n, ∀ y ∈ (S (n + 1)).flatten, 1 ≤ y
/-- so many rows' best, and that one row more reads more -/
structure Bst (S : Nat → List (List Int)) (N : Nat) (r : Int) (q : Int × Nat) : Prop where
  lt : q.2 < N
  eq : gS S r q.2 = some q.1
  le : ∀ n v, n < N → gS S r n = some v → q.1 ≤ v
  first : ∀ n v, n < q.2 → gS S r n = some v → q.1 < v
theorem Fil.best {S : Nat → List (List Int)} {p : Int} (F : Fil S p) {r : Int} {N n : Nat} (hN : N ≤ 301) (h1 : 1 ≤ r) (hn : n < N) (hr : r ≤ (S n).flatten.length) : ∃ q, bo (gS S r) (cS S r) N 0 none = some q ∧ Bst S N r q := by
  have h := F.lv.best h1 hN
  cases e : bo (gS S r) (cS S r) N 0 none with
  | none =>
    rw [e] at h
    obtain ⟨v, ev, _⟩ := F.lv.some (show n ≤ 300 by omega) h1 hr
    have := h n hn
    rw [ev] at this
    cases this
  | some q =>
    rw [e] at h
    exact ⟨q, rfl, h.1, h.2.1, h.2.2.1, h.2.2.2⟩
theorem fil_num {p : Nat} (hp : 2 ≤ p) : Fil (num p) p := by
  refine ⟨⟨fun n => bd_num p n, fun n e => ?_, fun n b hb => ?_⟩, fun M n h => Int.le_of_eq (kr_num hp n h), by simp [num, num0], fun n y hy => ?_⟩
  · have h : (n : Int) ∈ (num p n).flatten := (mem_flat hp n n).mpr ⟨Int.le_refl _, by
      have : (1 : Int) * n ≤ p * n := Int.mul_le_mul_of_nonneg_right (by omega) (by omega)
      omega⟩
    rw [e] at h
    simp at h
  · obtain ⟨b1, b2⟩ := (mem_flat hp (n + 1) b).mp hb
    by_cases z : b ≤ n
    · exact ⟨b, (mem_flat hp n b).mpr ⟨z, by omega⟩, Int.le_refl _⟩
    · refine ⟨n, (mem_flat hp n n).mpr ⟨Int.le_refl _, ?_⟩, by omega⟩
      have : (1 : Int) * n ≤ p * n := Int.mul_le_mul_of_nonneg_right (by omega) (by omega)
      omega
  · obtain ⟨a, b⟩ := (mem_flat hp _ y).mp hy
    refine Decidable.byContradiction fun z => ?_
    have : (p : Int) * y ≤ 0 := Int.mul_nonpos_of_nonneg_of_nonpos (by omega) (by omega)
    omega
theorem up1_one {A : List Int} (h : ∀ y ∈ A, 0 ≤ y) : ∀ y ∈ up1 A, 1 ≤ y := fun y hy => by
  obtain ⟨x, hx, rfl⟩ := List.mem_map.mp hy
  have := h x hx
  omega
/-- one pass: what is behind the last reel has been read -/
theorem one_next : ∀ (N : List (List Int)), (∀ x ∈ N, ∀ y ∈ x, 0 ≤ y) → ((∀ x ∈ N, ∀ y ∈ x, 1 ≤ y) ∨ ∃ A R Z, N = A :: (R ++ [Z]) ∧ ∀ y ∈ Z, 1 ≤ y) → ∀ y ∈ (nextKN N).flatten, 1 ≤ y
  | [], _, _, y, hy => by simp [nextKN] at hy
  | [Z], _, h, y, hy => by
    have hy : y ∈ Z := by simpa [nextKN] using hy
    rcases h with h | ⟨A, R, Z', e, h⟩
    · exact h Z List.mem_cons_self y hy
    · cases R <;> simp at e
  | A :: B :: r, h0, h, y, hy => by
    have hA := up1_one fun y hy => h0 A List.mem_cons_self y hy
    have ih := one_next (B :: r) (fun x hx => h0 x (List.mem_cons_of_mem _ hx)) (by
      rcases h with h | ⟨A', R, Z, e, h⟩
      · exact .inl fun x hx => h x (List.mem_cons_of_mem _ hx)
      · simp only [List.cons.injEq] at e
        obtain ⟨rfl, e⟩ := e
        cases R with
        | nil =>
          simp at e
          obtain ⟨rfl, rfl⟩ := e
          exact .inl fun x hx => by rw [List.mem_singleton] at hx; subst hx; exact h
        | cons C R =>
          simp at e
          obtain ⟨rfl, rfl⟩ := e
          exact .inr ⟨B, R, Z, rfl, h⟩)
    rw [nextKN, List.flatten_append] at hy
    rcases List.mem_append.mp hy with h | h
    · obtain ⟨xs, hx, hbx⟩ := List.mem_flatten.mp h
      obtain ⟨ys, hy, rfl⟩ := List.mem_map.mp hx
      rcases List.mem_append.mp hbx with h | h
      · exact hA y h
      · exact ih y (List.mem_flatten.mpr ⟨ys, hy, h⟩)
    · exact hA y (by simpa using h)
theorem next_ne : ∀ (N : List (List Int)), N.flatten ≠ [] → (nextKN N).flatten ≠ []
  | [], h => h
  | [Z], h => h
  | A :: B :: r, h => fun e => by
    rw [nextKN, List.flatten_append, List.append_eq_nil_iff] at e
    obtain ⟨e1, e2⟩ := e
    have hA : A = [] := by simpa [up1] using e2
    subst hA
    have : (nextKN (B :: r)).map (up1 [] ++ ·) = nextKN (B :: r) := by
      rw [show up1 [] = [] from rfl]
      simp
    rw [this] at e1
    exact next_ne (B :: r) (by simpa using h) e1
theorem fil_cas {p : Nat} (hp : 2 ≤ p) : Fil (casN p) p := by
  have h0 : ∀ n, ∀ x ∈ casN p n, ∀ y ∈ x, 0 ≤ y := fun n x hx y hy => (bd_cas (p := p) (by omega) n x hx y hy).1
  have hne : ∀ n, (casN p n).flatten ≠ [] := fun n => by
    induction n with
    | zero => simp [casN, num0]
    | succ n ih => exact next_ne _ ih
  refine ⟨⟨fun n => bd_cas (by omega) n, hne, fun n b hb => next_up _ b hb⟩, fun M n h => kr_cas hp n h, by simp [casN, num0], fun n => ?_⟩
  have hstep : ∀ n, ((∀ x ∈ casN p n, ∀ y ∈ x, 1 ≤ y) ∨ ∃ A R Z, casN p n = A :: (R ++ [Z]) ∧ ∀ y ∈ Z, 1 ≤ y) ∧ ∀ y ∈ (casN p (n + 1)).flatten, 1 ≤ y := fun n => by
    induction n with
    | zero =>
      have h : (∀ x ∈ casN p 0, ∀ y ∈ x, 1 ≤ y) ∨ ∃ A R Z, casN p 0 = A :: (R ++ [Z]) ∧ ∀ y ∈ Z, 1 ≤ y := by
        refine .inr ⟨[0], List.replicate (p - 2) [], [], ?_, by simp⟩
        show num0 p = _
        unfold num0
        rw [show p - 1 = (p - 2) + 1 by omega, List.replicate_succ']
      exact ⟨h, one_next _ (h0 0) h⟩
    | succ n ih =>
      have h : ∀ x ∈ casN p (n + 1), ∀ y ∈ x, 1 ≤ y := fun x hx y hy => ih.2 y (List.mem_flatten.mpr ⟨x, hx, hy⟩)
      exact ⟨.inl h, one_next _ (h0 (n + 1)) (.inl h)⟩
  exact (hstep n).2
/-- level 60 has room for as many -/
theorem far_num {p : Nat} (hp : 2 ≤ p) (h7 : p ≤ 7) : (1000000000001 : Int) ≤ (num p 60).flatten.length := by
  rw [flat_tot]
  rcases (show p = 2 ∨ p = 3 ∨ p = 4 ∨ p = 5 ∨ p = 6 ∨ p = 7 by omega) with rfl | rfl | rfl | rfl | rfl | rfl
  all_goals decide +kernel
theorem far_cas {p : Nat} (hp : 2 ≤ p) (h7 : p ≤ 7) : (1000000000001 : Int) ≤ (casN p 60).flatten.length := by
  rw [flatK_len (by omega)]
  rcases (show p = 2 ∨ p = 3 ∨ p = 4 ∨ p = 5 ∨ p = 6 ∨ p = 7 by omega) with rfl | rfl | rfl | rfl | rfl | rfl
  all_goals decide +kernel
end Lv

set_option Elab.async false
set_option linter.all false
set_option maxRecDepth 100000
set_option maxHeartbeats 4000000
namespace Lv
open PySem L2
/-! ### always joining the p least of rows of one thing each -/
/-- how many the first joining takes -/
def fst1 (p r : Int) : Int := 2 + (r - 2) % (p - 1)
theorem fst1_le {p r : Int} (hp : 2 ≤ p) (hr : 2 ≤ r) : 2 ≤ fst1 p r ∧ fst1 p r ≤ p ∧ fst1 p r ≤ r := by
  unfold fst1
  have h1 := Int.emod_nonneg (r - 2) (show p - 1 ≠ 0 by omega)
  have h2 := Int.emod_lt_of_pos (r - 2) (show 0 < p - 1 by omega)
  have h3 : (r - 2) % (p - 1) ≤ r - 2 := by
    have := Int.emod_def (r - 2) (p - 1)
    have h4 : 0 ≤ (p - 1) * ((r - 2) / (p - 1)) := Int.mul_nonneg (by omega) (Int.ediv_nonneg (by omega) (by omega))
    omega
  omega
/-- rows of p to the k, one odd one, rows of p to the k + 1 -/
structure Od (p r : Nat) (left : List Int) (read : Int) (k x y : Nat) (w e : Int) : Prop where
  is : left = List.replicate x ((p : Int) ^ k) ++ w :: List.replicate y ((p : Int) ^ (k + 1))
  lo : (p : Int) ^ k ≤ w
  hi : w ≤ (p : Int) ^ (k + 1)
  all : (x : Int) * (p : Int) ^ k + w + (y : Int) * (p : Int) ^ (k + 1) = r
  full : ∃ j : Nat, x + y = j * (p - 1)
  rd : read = (x : Int) * (p : Int) ^ k * k + (y : Int) * (p : Int) ^ (k + 1) * (k + 1) + (w * k + e)
  kr : (p : Int) * (w - e) + e + ((p : Int) - fst1 p r) = (p : Int) ^ (k + 1)
theorem sum_repI (n : Nat) (a : Int) : (List.replicate n a).sum = n * a := by
  induction n with
  | zero => simp
  | succ n ih => rw [List.replicate_succ, List.sum_cons, ih, show ((n + 1 : Nat) : Int) = n + 1 by omega, Int.add_mul]; omega
/-- the first joining -/
theorem Od.first {p r : Nat} (hp : 2 ≤ p) (hr : 2 ≤ r) : Od p r (List.replicate (r - (fst1 p r).toNat) 1 ++ [fst1 p r]) (fst1 p r) 0 (r - (fst1 p r).toNat) 0 (fst1 p r) (fst1 p r) := by
  obtain ⟨h1, h2, h3⟩ := fst1_le (p := (p : Int)) (r := r) (by omega) (by omega)
  have e1 : (p : Int) ^ (0 + 1) = p := by rw [Int.pow_succ]; simp
  refine ⟨by simp, by simp; omega, by rw [e1]; exact h2, ?_, ?_, by simp, by rw [e1]; simp; omega⟩
  · simp
    omega
  · have h4 := Int.emod_def ((r : Int) - 2) (p - 1)
    have h5 : 0 ≤ ((r : Int) - 2) / (p - 1) := Int.ediv_nonneg (by omega) (by omega)
    refine ⟨(((r : Int) - 2) / (p - 1)).toNat, ?_⟩
    have e : ((r - (fst1 p r).toNat + 0 : Nat) : Int) = (p - 1) * (((r : Int) - 2) / (p - 1)) := by
      have : fst1 p r = 2 + ((r : Int) - 2) % (p - 1) := rfl
      omega
    have e2 : (((((r : Int) - 2) / (p - 1)).toNat * (p - 1) : Nat) : Int) = (p - 1) * (((r : Int) - 2) / (p - 1)) := by
      rw [Int.natCast_mul, Int.toNat_of_nonneg h5, show ((p - 1 : Nat) : Int) = (p : Int) - 1 by omega, Int.mul_comm]
    omega
/-- a joining of p like ones -/
theorem Od.like {p r : Nat} {left : List Int} {read : Int} {k x y : Nat} {w e : Int} (hp : 2 ≤ p) (o : Od p r left read k x y w e) (hx : p ≤ x) :
    (left.take p).sum = (p : Int) ^ (k + 1) ∧ Od p r (left.drop p ++ [(p : Int) ^ (k + 1)]) (read + (p : Int) ^ (k + 1)) k (x - p) (y + 1) w e := by
  obtain ⟨x', rfl⟩ : ∃ x', x = p + x' := ⟨x - p, by omega⟩
  have hl : left = List.replicate p ((p : Int) ^ k) ++ (List.replicate x' ((p : Int) ^ k) ++ w :: List.replicate y ((p : Int) ^ (k + 1))) := by
    rw [o.is, ← List.replicate_append_replicate, List.append_assoc]
  have et : left.take p = List.replicate p ((p : Int) ^ k) := by
    rw [hl, List.take_append_of_le_length (by simp), List.take_of_length_le (by simp)]
  have ed : left.drop p = List.replicate x' ((p : Int) ^ k) ++ w :: List.replicate y ((p : Int) ^ (k + 1)) := by
    rw [hl, List.drop_append_of_le_length (by simp), List.drop_of_length_le (by simp), List.nil_append]
  have ep : (p : Int) * (p : Int) ^ k = (p : Int) ^ (k + 1) := by rw [Int.pow_succ, Int.mul_comm]
  refine ⟨by rw [et, sum_repI, ep], ?_⟩
  rw [show p + x' - p = x' by omega]
  have e1 : ((p + x' : Nat) : Int) * (p : Int) ^ k = (p : Int) ^ (k + 1) + x' * (p : Int) ^ k := by
    rw [show ((p + x' : Nat) : Int) = (p : Int) + x' by omega, Int.add_mul, ep]
  have e2 : ((y + 1 : Nat) : Int) * (p : Int) ^ (k + 1) = y * (p : Int) ^ (k + 1) + (p : Int) ^ (k + 1) := by
    rw [show ((y + 1 : Nat) : Int) = (y : Int) + 1 by omega, Int.add_mul, Int.one_mul]
  refine ⟨?_, o.lo, o.hi, ?_, ?_, ?_, o.kr⟩
  · rw [ed, List.append_assoc, List.cons_append, List.replicate_succ']
  · have := o.all
    rw [e1] at this
    rw [e2]
    omega
  · obtain ⟨j, hj⟩ := o.full
    have hj1 : 1 ≤ j := by
      refine Decidable.byContradiction fun z => ?_
      have : j = 0 := by omega
      subst this
      omega
    obtain ⟨i, rfl⟩ : ∃ i, j = i + 1 := ⟨j - 1, by omega⟩
    refine ⟨i, ?_⟩
    rw [Nat.add_mul] at hj
    omega
  · rw [o.rd, e1, e2, Int.add_mul, Int.add_mul, Int.mul_add ((p : Int) ^ (k + 1))]
    omega
/-- a joining with the odd one -/
theorem Od.odd {p r : Nat} {left : List Int} {read : Int} {k x y : Nat} {w e : Int} (hp : 2 ≤ p) (o : Od p r left read k x y w e) (hx : x < p) (hn : 1 ≤ x + y) :
    p - 1 ≤ x + y ∧ ∃ w' e', (left.take p).sum = w' ∧ Od p r (left.drop p ++ [w']) (read + w') (k + 1) (y - (p - 1 - x)) 0 w' e' := by
  have hge : p - 1 ≤ x + y := by
    obtain ⟨j, hj⟩ := o.full
    have hj1 : 1 ≤ j := by
      refine Decidable.byContradiction fun z => ?_
      have : j = 0 := by omega
      subst this
      omega
    obtain ⟨i, rfl⟩ : ∃ i, j = i + 1 := ⟨j - 1, by omega⟩
    rw [Nat.add_mul] at hj
    omega
  obtain ⟨z, hz⟩ : ∃ z, p = x + 1 + z := ⟨p - 1 - x, by omega⟩
  obtain ⟨y', rfl⟩ : ∃ y', y = z + y' := ⟨y - z, by omega⟩
  have ez : p - 1 - x = z := by omega
  rw [ez, show z + y' - z = y' by omega]
  generalize hq : (p : Int) ^ k = q at *
  have hq1 : (p : Int) ^ (k + 1) = q * p := by rw [Int.pow_succ, hq]
  have hq2 : (p : Int) ^ (k + 1 + 1) = q * p * p := by rw [Int.pow_succ, hq1]
  have hl : left = (List.replicate x q ++ (w :: List.replicate z (q * p))) ++ List.replicate y' (q * p) := by
    rw [o.is, hq, hq1, ← List.replicate_append_replicate]
    simp
  have hlen : (List.replicate x q ++ (w :: List.replicate z (q * p))).length = p := by simp; omega
  have et : left.take p = List.replicate x q ++ (w :: List.replicate z (q * p)) := by
    rw [hl, List.take_append_of_le_length (by omega), List.take_of_length_le (by omega)]
  have ed : left.drop p = List.replicate y' (q * p) := by
    rw [hl, List.drop_append_of_le_length (by omega), List.drop_of_length_le (by omega), List.nil_append]
  have q0 : 0 ≤ q := by rw [← hq]; exact Int.le_of_lt (pow_pos' (by omega) k)
  have qp : q ≤ q * p := by have : q * 1 ≤ q * p := Int.mul_le_mul_of_nonneg_left (by omega) q0; omega
  refine ⟨hge, (x : Int) * q + (w + z * (q * p)), e + z * (q * p), ?_, ?_⟩
  · rw [et, List.sum_append, List.sum_cons, sum_repI, sum_repI]
  have hlo := o.lo
  have hhi := o.hi
  have hall := o.all
  have hrd := o.rd
  have hkr := o.kr
  rw [hq] at hlo hall hrd
  rw [hq1] at hhi hall hrd hkr
  have ep : (p : Int) = x + 1 + z := by omega
  have hpx : q * (p : Int) = q * x + q + q * z := by rw [ep, Int.mul_add, Int.mul_add, Int.mul_one]
  refine ⟨?_, ?_, ?_, ?_, ?_, ?_, ?_⟩
  · rw [ed, hq1]
    simp
  · rw [hq1]
    have h1 : 0 ≤ (z : Int) * (q * p - q) := Int.mul_nonneg (by omega) (by omega)
    rw [Int.mul_sub] at h1
    have h2 : (z : Int) * q = q * z := Int.mul_comm ..
    have h3 : (x : Int) * q = q * x := Int.mul_comm ..
    omega
  · rw [hq2]
    have h1 : 0 ≤ (x : Int) * (q * p - q) := Int.mul_nonneg (by omega) (by omega)
    rw [Int.mul_sub] at h1
    have h2 : q * p * (p : Int) = x * (q * p) + q * p + z * (q * p) := by
      rw [Int.mul_comm (q * (p : Int)) p]
      conv => lhs; lhs; rw [ep]
      rw [Int.add_mul, Int.add_mul, Int.one_mul]
    omega
  · rw [hq1, show ((z + y' : Nat) : Int) = (z : Int) + y' by omega, Int.add_mul] at *
    simp
    omega
  · obtain ⟨j, hj⟩ := o.full
    have hj1 : 1 ≤ j := by
      refine Decidable.byContradiction fun z => ?_
      have : j = 0 := by omega
      subst this
      omega
    obtain ⟨i, rfl⟩ : ∃ i, j = i + 1 := ⟨j - 1, by omega⟩
    refine ⟨i, ?_⟩
    rw [Nat.add_mul] at hj
    omega
  · rw [hrd, hq1, show ((z + y' : Nat) : Int) = (z : Int) + y' by omega]
    generalize hA : (x : Int) * q = A
    generalize hB : q * (p : Int) = B
    have c1 : ((z : Int) + y') * B * (k + 1) = z * B * (k + 1) + y' * B * (k + 1) := by rw [Int.add_mul, Int.add_mul]
    have c2 : ((k + 1 : Nat) : Int) = (k : Int) + 1 := by omega
    rw [c1, c2]
    generalize hC : (z : Int) * B = C
    generalize hD : (y' : Int) * B = D
    simp [Int.mul_add, Int.add_mul]
    omega
  · rw [hq2]
    have h2 : q * p * (p : Int) = x * (q * p) + q * p + z * (q * p) := by
      rw [Int.mul_comm (q * (p : Int)) p]
      conv => lhs; lhs; rw [ep]
      rw [Int.add_mul, Int.add_mul, Int.one_mul]
    have h3 : (p : Int) * ((x : Int) * q + (w + z * (q * p)) - (e + z * (q * p))) = x * (q * p) + p * (w - e) := by
      rw [show (x : Int) * q + (w + z * (q * p)) - (e + z * (q * p)) = x * q + (w - e) by omega, Int.mul_add, ← Int.mul_assoc, Int.mul_comm (p : Int) x, Int.mul_assoc, Int.mul_comm (p : Int) q]
    rw [h3, h2]
    omega
/-- where one is left -/
theorem Od.last {p r : Nat} {left : List Int} {read : Int} {k : Nat} {w e : Int} (hp : 2 ≤ p) (hr : 2 ≤ r) (o : Od p r left read k 0 0 w e) : ∃ t, Wi p r t ∧ read = lj p r t := by
  have hw : w = r := by have := o.all; simpa using this
  have hrd : read = r * k + e := by have := o.rd; rw [this, hw]; simp
  obtain ⟨f1, f2, _⟩ := fst1_le (p := (p : Int)) (r := r) (by omega) (by omega)
  have hlo := o.lo
  have hhi := o.hi
  have hkr := o.kr
  rw [hw] at hlo hhi hkr
  have hq1 : (p : Int) ^ (k + 1) = (p : Int) ^ k * p := Int.pow_succ ..
  generalize hq : (p : Int) ^ k = q at *
  have hp1 : 0 < (p : Int) - 1 := by omega
  by_cases h : (r : Int) < (p : Int) ^ (k + 1)
  · refine ⟨k, ⟨by rw [hq]; exact hlo, h⟩, ?_⟩
    rw [hrd]
    unfold lj
    rw [hq]
    have g1 := cdiv_ge (o := (r : Int) - q) hp1
    have key : ((p : Int) - 1) * (e - (r - q)) = (r - q) + (p - fst1 p r) := by
      rw [hq1] at hkr
      rw [Int.mul_comm q] at hkr
      simp only [Int.mul_sub, Int.sub_mul, Int.one_mul] at *
      omega
    have g2 := cdiv_le (o := (r : Int) - q) (c := e - (r - q)) hp1 (by rw [key]; omega)
    have g3 : e - (r - q) ≤ -(-((r : Int) - q) / ((p : Int) - 1)) := by
      refine Decidable.byContradiction fun z => ?_
      have h1 : ((p : Int) - 1) * -(-((r : Int) - q) / ((p : Int) - 1)) ≤ ((p : Int) - 1) * (e - (r - q) - 1) := Int.mul_le_mul_of_nonneg_left (by omega) (by omega)
      rw [Int.mul_sub ((p : Int) - 1) (e - (r - q)), key] at h1
      omega
    omega
  · have e1 : (r : Int) = (p : Int) ^ (k + 1) := by omega
    refine ⟨k + 1, ⟨by omega, ?_⟩, ?_⟩
    · rw [Int.pow_succ, ← e1]
      have : (r : Int) * 1 < r * p := Int.mul_lt_mul_of_pos_left (by omega) (by omega)
      omega
    · rw [hrd]
      unfold lj
      rw [← e1, Int.sub_self]
      have key : ((p : Int) - 1) * (e - r) = p - fst1 p r := by
        rw [← e1] at hkr
        simp only [Int.mul_sub, Int.sub_mul, Int.one_mul] at *
        omega
      have ee : e = r := by
        rcases Int.lt_trichotomy (e - r) 0 with z | z | z
        · have : ((p : Int) - 1) * (e - r) ≤ ((p : Int) - 1) * (-1) := Int.mul_le_mul_of_nonneg_left (by omega) (by omega)
          omega
        · omega
        · have : ((p : Int) - 1) * 1 ≤ ((p : Int) - 1) * (e - r) := Int.mul_le_mul_of_nonneg_left (by omega) (by omega)
          omega
      rw [ee, show ((k + 1 : Nat) : Int) = (k : Int) + 1 by omega, Int.mul_add]
      simp
end Lv
namespace Lv
open PySem L2
theorem srtI_eq : ∀ {l m : List Int}, l.Perm m → l.Pairwise (· ≤ ·) → m.Pairwise (· ≤ ·) → l = m
  | [], m, h, _, _ => by rw [List.nil_perm.mp h]
  | a :: l, [], h, _, _ => by simp at h
  | a :: l, b :: m, h, ha, hb => by
    rw [List.pairwise_cons] at ha hb
    have h1 : a = b := by
      have m1 : a ∈ b :: m := h.mem_iff.mp (by simp)
      have m2 : b ∈ a :: l := h.mem_iff.mpr (by simp)
      rcases List.mem_cons.mp m1 with e | m1
      · exact e
      · rcases List.mem_cons.mp m2 with e | m2
        · exact e.symm
        · have := hb.1 a m1
          have := ha.1 b m2
          omega
    subst h1
    rw [srtI_eq h.cons_inv ha.2 hb.2]
theorem Od.srt {p r : Nat} {left : List Int} {read : Int} {k x y : Nat} {w e : Int} (o : Od p r left read k x y w e) : left.Pairwise (· ≤ ·) := by
  have hlo := o.lo
  have hhi := o.hi
  rw [o.is, List.pairwise_append]
  refine ⟨List.pairwise_replicate.mpr (.inr (Int.le_refl _)), ?_, fun a ha b hb => ?_⟩
  · rw [List.pairwise_cons]
    exact ⟨fun b hb => by rw [List.eq_of_mem_replicate hb]; exact hhi, List.pairwise_replicate.mpr (.inr (Int.le_refl _))⟩
  · rw [List.eq_of_mem_replicate ha]
    rcases List.mem_cons.mp hb with rfl | hb
    · exact hlo
    · rw [List.eq_of_mem_replicate hb]
      omega
theorem Od.len {p r : Nat} {left : List Int} {read : Int} {k x y : Nat} {w e : Int} (o : Od p r left read k x y w e) : left.length = x + y + 1 := by
  rw [o.is]
  simp
  omega
theorem cutV_take (cs : List Int) (m : Nat) : cutV (cs.map V.int) none (some (m : Int)) = (cs.take m).map V.int := by
  unfold cutV
  show ((cs.map V.int).drop 0).take (HT.sIx (cs.map V.int).length (cs.map V.int).length (some ((m : Nat) : Int)) - 0) = _
  rw [HT.sIx_nat, Nat.sub_zero, List.drop_zero, List.map_take]
  rcases Nat.le_total m (cs.map V.int).length with h | h
  · rw [Nat.min_eq_left h]
  · rw [Nat.min_eq_right h, List.take_length, List.take_of_length_le h]
theorem cutV_drop (cs : List Int) (m : Nat) : cutV (cs.map V.int) (some (m : Int)) none = (cs.drop m).map V.int := by
  unfold cutV
  show ((cs.map V.int).drop (HT.sIx (cs.map V.int).length 0 (some ((m : Nat) : Int)))).take ((cs.map V.int).length - HT.sIx (cs.map V.int).length 0 (some ((m : Nat) : Int))) = _
  rw [HT.sIx_nat, List.map_drop]
  rcases Nat.le_total m (cs.map V.int).length with h | h
  · rw [Nat.min_eq_left h, List.take_of_length_le (by simp)]
  · rw [Nat.min_eq_right h, List.drop_length, List.drop_of_length_le h]
    simp
/-- what is left, what was read, how many the next joining takes -/
def LogS (p r : Nat) (lv : List Int) (read tk : Int) : Prop := (lv = List.replicate r 1 ∧ read = 0 ∧ tk = fst1 p r) ∨ (2 ≤ r ∧ tk = p ∧ ∃ k x y w e, Od p r lv read k x y w e)
theorem LogS.srt {p r : Nat} {lv : List Int} {read tk : Int} (h : LogS p r lv read tk) : lv.Pairwise (· ≤ ·) := by
  rcases h with ⟨rfl, _⟩ | ⟨_, _, _, _, _, _, _, o⟩
  · exact List.pairwise_replicate.mpr (.inr (Int.le_refl _))
  · exact o.srt
theorem LogS.step {p r : Nat} {lv : List Int} {read tk : Int} (hp : 2 ≤ p) (h : LogS p r lv read tk) (hl : 1 < lv.length) : ∃ m : Nat, tk = m ∧ 2 ≤ m ∧ m ≤ lv.length ∧ LogS p r (lv.drop m ++ [(lv.take m).sum]) (read + (lv.take m).sum) p := by
  rcases h with ⟨rfl, rfl, rfl⟩ | ⟨hr, rfl, k, x, y, w, e, o⟩
  · have hr : 2 ≤ r := by rw [List.length_replicate] at hl; exact hl
    obtain ⟨f1, f2, f3⟩ := fst1_le (p := (p : Int)) (r := r) (by omega) (by omega)
    obtain ⟨m, hm⟩ : ∃ m : Nat, fst1 p r = m := ⟨(fst1 p r).toNat, by omega⟩
    refine ⟨m, hm, by omega, by simp; omega, .inr ⟨hr, rfl, 0, r - m, 0, (m : Int), (m : Int), ?_⟩⟩
    have := Od.first hp hr
    rw [hm] at this
    have e1 : (List.replicate r (1 : Int)).take m = List.replicate m 1 := by rw [List.take_replicate, Nat.min_eq_left (by omega)]
    have e2 : (List.replicate r (1 : Int)).drop m = List.replicate (r - m) 1 := List.drop_replicate ..
    rw [e1, e2, sum_repI, Int.zero_add, Int.mul_one]
    simpa using this
  · have hlen := o.len
    by_cases hx : p ≤ x
    · obtain ⟨h1, h2⟩ := o.like hp hx
      refine ⟨p, rfl, hp, by omega, .inr ⟨hr, rfl, k, x - p, y + 1, w, e, ?_⟩⟩
      rw [h1]
      exact h2
    · obtain ⟨h0, w', e', h1, h2⟩ := o.odd hp (by omega) (by omega)
      refine ⟨p, rfl, hp, by omega, .inr ⟨hr, rfl, k + 1, y - (p - 1 - x), 0, w', e', ?_⟩⟩
      rw [h1]
      exact h2
theorem LogS.last {p r : Nat} {lv : List Int} {read tk : Int} (hp : 2 ≤ p) (hr : 1 ≤ r) (h : LogS p r lv read tk) (hl : ¬ 1 < lv.length) : ∃ t, Wi p r t ∧ read = lj p r t := by
  rcases h with ⟨rfl, rfl, rfl⟩ | ⟨hr2, rfl, k, x, y, w, e, o⟩
  · have e : r = 1 := by simp at hl; omega
    subst e
    refine ⟨0, ⟨by simp, ?_⟩, by simp [lj]⟩
    rw [Int.pow_succ]
    simp
    omega
  · have hlen := o.len
    obtain ⟨rfl, rfl⟩ : x = 0 ∧ y = 0 := by omega
    exact o.last hp hr2
theorem LogS.few {p r : Nat} {lv : List Int} {read tk : Int} (hp : 2 ≤ p) (h : LogS p r lv read tk) (hl : 1 < lv.length) {m : Nat} (hm : tk = m) : (lv.drop m ++ [(lv.take m).sum]).length < lv.length := by
  obtain ⟨m', e, h2, h3, _⟩ := h.step hp hl
  have : m = m' := by omega
  subst this
  simp
  omega
end Lv

set_option Elab.async false
set_option linter.all false
set_option maxRecDepth 100000
set_option maxHeartbeats 4000000
namespace Lv
open PySem L2
/-! ### reels told by how many places have each number -/
def Rp (R xs : List Int) : Prop := R = arr R.length xs ∧ ∀ m ∈ xs, 0 ≤ m ∧ m < R.length
theorem Rp.at {R xs : List Int} (h : Rp R xs) (m : Nat) : R.getD m 0 = cn xs m := by
  by_cases hm : m < R.length
  · have h2 := vec_at (L := R.length) (g := fun m => cn xs (m : Int)) hm
    have h3 : R[m]? = some (cn xs m) := by
      have := h.1
      rw [this]
      exact h2
    rw [List.getD_eq_getElem?_getD, h3]
    rfl
  · rw [List.getD_eq_getElem?_getD, List.getElem?_eq_none (by omega)]
    refine (cn_zero.mpr fun z => ?_).symm
    have := h.2 _ z
    omega
theorem Rp.of {R xs : List Int} (h : ∀ m : Nat, m < R.length → R.getD m 0 = cn xs m) (hb : ∀ m ∈ xs, 0 ≤ m ∧ m < R.length) : Rp R xs := by
  refine ⟨List.ext_getElem? fun m => ?_, hb⟩
  by_cases hm : m < R.length
  · have e2 := h m hm
    rw [List.getD_eq_getElem?_getD, List.getElem?_eq_getElem hm] at e2
    show R[m]? = (vec R.length fun m => cn xs (m : Int))[m]?
    rw [vec_at hm, List.getElem?_eq_getElem hm]
    exact congrArg some e2
  · rw [List.getElem?_eq_none (by omega), List.getElem?_eq_none (by show (vec _ _).length ≤ m; rw [vec_len]; omega)]
theorem Rp.congr {R xs ys : List Int} (h : Rp R xs) (e : ∀ m, cn ys m = cn xs m) : Rp R ys :=
  Rp.of (fun m _ => by rw [h.at m, e]) fun m hm => h.2 m (cn_ne.mp (by rw [← e]; exact cn_ne.mpr hm))
theorem cn_up1 (xs : List Int) (m : Int) : cn (up1 xs) m = cn xs (m - 1) := by
  induction xs with
  | nil => simp [up1, cn_nil]
  | cons x xs ih =>
    rw [show up1 (x :: xs) = (x + 1) :: up1 xs from rfl, cn_cons, cn_cons, ih]
    by_cases h : m = x + 1
    · rw [if_pos h, if_pos (by omega)]
    · rw [if_neg h, if_neg (by omega)]
theorem Rp.up {R xs : List Int} (h : Rp R xs) : Rp (0 :: R) (up1 xs) := by
  refine Rp.of (fun m hm => ?_) fun m hm => ?_
  · rw [cn_up1]
    cases m with
    | zero =>
      refine (cn_zero.mpr fun z => ?_).symm
      have := h.2 _ z
      simp at this
    | succ m =>
      rw [show (0 :: R).getD (m + 1) 0 = R.getD m 0 from rfl, h.at m, show ((m + 1 : Nat) : Int) - 1 = m by omega]
  · obtain ⟨x, hx, rfl⟩ := List.mem_map.mp hm
    have := h.2 x hx
    simp
    omega
/-- lists one by one -/
def RpL (Us Ys : List (List Int)) : Prop := Us.length = Ys.length ∧ ∀ (i : Nat) U Y, Us[i]? = some U → Ys[i]? = some Y → Rp U Y
theorem cn_flat (Ys : List (List Int)) (m : Int) : cn Ys.flatten m = (Ys.map fun Y => cn Y m).sum := by
  induction Ys with
  | nil => simp [cn_nil]
  | cons Y Ys ih => rw [List.flatten_cons, cn_app, ih, List.map_cons, List.sum_cons]
theorem RpL.cons {U Y : List Int} {Us Ys : List (List Int)} (h : RpL (U :: Us) (Y :: Ys)) : Rp U Y ∧ RpL Us Ys :=
  ⟨h.2 0 U Y rfl rfl, by have := h.1; simpa using this, fun i u y a b => h.2 (i + 1) u y (by simpa using a) (by simpa using b)⟩
theorem RpL.sum : ∀ {Us Ys : List (List Int)}, RpL Us Ys → ∀ m : Nat, (Us.map fun U => U.getD m 0).sum = (Ys.map fun Y => cn Y (m : Int)).sum
  | [], [], _, _ => rfl
  | [], _ :: _, h, _ => absurd h.1 (by simp)
  | _ :: _, [], h, _ => absurd h.1 (by simp)
  | U :: Us, Y :: Ys, h, m => by
    obtain ⟨a, b⟩ := h.cons
    rw [List.map_cons, List.sum_cons, List.map_cons, List.sum_cons, a.at m, RpL.sum b m]
/-- all of them together -/
theorem RpL.all {Us Ys : List (List Int)} (h : RpL Us Ys) {L : Nat} (hL : ∀ U ∈ Us, U.length ≤ L) : Rp (vec L fun m => (Us.map fun U => U.getD m 0).sum) Ys.flatten := by
  refine Rp.of (fun m hm => ?_) fun m hm => ?_
  · rw [vec_len] at hm
    rw [List.getD_eq_getElem?_getD, vec_at hm, cn_flat, ← h.sum m]
    rfl
  · rw [vec_len]
    obtain ⟨Y, hY, hmY⟩ := List.mem_flatten.mp hm
    obtain ⟨i, hi, rfl⟩ := List.getElem_of_mem hY
    have hU : Us[i]? = some (Us[i]'(by rw [h.1]; exact hi)) := List.getElem?_eq_getElem _
    have := (h.2 i _ _ hU (List.getElem?_eq_getElem hi)).2 m hmY
    have := hL _ (List.mem_of_getElem? hU)
    omega
/-! ### the numbers in their order -/
def exr (xs : List Int) (i : Nat) : List Int := ((List.range i).map fun (m : Nat) => List.replicate (cn xs m).toNat (m : Int)).flatten
theorem exr_succ (xs : List Int) (i : Nat) : exr xs (i + 1) = exr xs i ++ List.replicate (cn xs i).toNat (i : Int) := by
  unfold exr
  rw [List.range_succ, List.map_append, List.flatten_append]
  simp
theorem exr_lt (xs : List Int) : ∀ i, ∀ y ∈ exr xs i, 0 ≤ y ∧ y < i
  | 0, y, h => by simp [exr] at h
  | i + 1, y, h => by
    rw [exr_succ] at h
    rcases List.mem_append.mp h with h | h
    · have := exr_lt xs i y h
      omega
    · have := List.eq_of_mem_replicate h
      omega
theorem exr_srt (xs : List Int) : ∀ i, (exr xs i).Pairwise (· ≤ ·)
  | 0 => by simp [exr]
  | i + 1 => by
    rw [exr_succ, List.pairwise_append]
    refine ⟨exr_srt xs i, List.pairwise_replicate.mpr (.inr (Int.le_refl _)), fun a ha b hb => ?_⟩
    have := exr_lt xs i a ha
    have := List.eq_of_mem_replicate hb
    omega
theorem cn_rep (n : Nat) (a m : Int) : cn (List.replicate n a) m = if m = a then n else 0 := by
  induction n with
  | zero => simp [cn_nil]
  | succ n ih =>
    rw [List.replicate_succ, cn_cons, ih]
    by_cases h : m = a
    · rw [if_pos h, if_pos h, if_pos h]; omega
    · rw [if_neg h, if_neg h, if_neg h]; omega
theorem exr_cn (xs : List Int) (m : Int) : ∀ i : Nat, cn (exr xs i) m = if 0 ≤ m ∧ m < i then cn xs m else 0
  | 0 => by simp [exr, cn_nil]; omega
  | i + 1 => by
    rw [exr_succ, cn_app, exr_cn xs m i, cn_rep]
    have h0 := cn_pos xs i
    by_cases e : m = i
    · subst e
      rw [if_neg (by omega), if_pos rfl, if_pos (by omega)]
      omega
    · rw [if_neg e]
      by_cases h : 0 ≤ m ∧ m < i
      · rw [if_pos h, if_pos (by omega)]; omega
      · rw [if_neg h, if_neg (by omega)]; omega
theorem perm_of_cn {xs ys : List Int} (h : ∀ m, cn xs m = cn ys m) : xs.Perm ys := List.perm_iff_count.mpr fun m => by
  have := h m
  unfold cn at this
  omega
theorem exr_perm {xs : List Int} {i : Nat} (h : ∀ m ∈ xs, 0 ≤ m ∧ m < i) : (exr xs i).Perm xs := perm_of_cn fun m => by
  rw [exr_cn]
  by_cases z : 0 ≤ m ∧ m < i
  · rw [if_pos z]
  · rw [if_neg z]
    exact (cn_zero.mpr fun w => z (h m w)).symm
theorem pz_sum_lo {t : Int} : ∀ {ys : List Int}, (∀ y ∈ ys, y ≤ t) → sv ys t = (ys.length : Int) * t - ys.sum
  | [], _ => by simp [sv]
  | y :: ys, h => by
    have h1 := h y (by simp)
    have ih := pz_sum_lo fun z hz => h z (List.mem_cons_of_mem _ hz)
    show pz (t - y) + sv ys t = _
    rw [ih, List.sum_cons, List.length_cons, show ((ys.length + 1 : Nat) : Int) = ys.length + 1 by omega, Int.add_mul]
    unfold pz
    rw [if_neg (by omega)]
    omega
theorem pz_sum_hi {t : Int} : ∀ {ys : List Int}, (∀ y ∈ ys, t ≤ y) → sv ys t = 0
  | [], _ => by simp [sv]
  | y :: ys, h => by
    have h1 := h y (by simp)
    have ih := pz_sum_hi fun z hz => h z (List.mem_cons_of_mem _ hz)
    show pz (t - y) + sv ys t = _
    rw [ih]
    unfold pz
    split <;> omega
theorem sv_app (xs ys : List Int) (t : Int) : sv (xs ++ ys) t = sv xs t + sv ys t := by
  unfold sv
  rw [List.map_append, List.sum_append]
theorem sv_perm {xs ys : List Int} (h : xs.Perm ys) (t : Int) : sv xs t = sv ys t := perm_sum (h.map _)
/-- the least numbers, one by one -/
theorem lst_srt {xs Z : List Int} (hp : Z.Perm xs) (hs : Z.Pairwise (· ≤ ·)) {j : Nat} (h1 : 1 ≤ j) (hj : j ≤ Z.length) : Lst xs j (Z.take j).sum := by
  have hl : (Z.take j).length = j := by simp; omega
  have hZ : Z = Z.take j ++ Z.drop j := (List.take_append_drop j Z).symm
  have e : ∀ t, sv xs t = sv (Z.take j) t + sv (Z.drop j) t := fun t => by rw [← sv_perm hp t, ← sv_app, List.take_append_drop]
  constructor
  · intro t
    have a := sv_ge t (Z.take j)
    have b := sv_nn (Z.drop j) t
    rw [hl] at a
    rw [e t]
    omega
  · have hne : Z.take j ≠ [] := fun z => by rw [z] at hl; simp at hl; omega
    refine ⟨(Z.take j).getLast hne, hp.mem_iff.mp (List.mem_of_mem_take (List.getLast_mem hne)), ?_⟩
    rw [hZ, List.pairwise_append] at hs
    obtain ⟨s1, s2, s3⟩ := hs
    have hm := List.getLast_mem hne
    have lo : ∀ y ∈ Z.take j, y ≤ (Z.take j).getLast hne := fun y hy => by
      have hd : Z.take j = (Z.take j).dropLast ++ [(Z.take j).getLast hne] := (List.dropLast_concat_getLast hne).symm
      have s1' := s1
      rw [hd, List.pairwise_append] at s1'
      rw [hd] at hy
      rcases List.mem_append.mp hy with hy | hy
      · exact s1'.2.2 y hy _ (by simp)
      · rw [List.mem_singleton] at hy
        omega
    rw [e, pz_sum_lo lo, pz_sum_hi (ys := Z.drop j) fun y hy => s3 _ hm y hy, hl]
    omega
theorem Lst.uniq {xs : List Int} {r u v : Int} (a : Lst xs r u) (b : Lst xs r v) : u = v := by
  obtain ⟨s, _, e1⟩ := a.eq
  obtain ⟨t, _, e2⟩ := b.eq
  have h1 := b.le s
  have h2 := a.le t
  omega
/-! ### the best of the levels below L, for each number of rows -/
def SS (c : Bool) (p : Nat) : Nat → List (List Int) := if c then casN p else num p
theorem SS_fil {c : Bool} {p : Nat} (hp : 2 ≤ p) : Fil (SS c p) p := by
  cases c
  · exact fil_num hp
  · exact fil_cas hp
/-- what is known of so many rows behind the levels below L -/
def BstJ (S : Nat → List (List Int)) (L : Nat) (j : Int) (v : Int) : Prop := (v = -1 ∧ ∀ n, n < L → gS S j n = none) ∨ (0 ≤ v ∧ (∃ n, n < L ∧ gS S j n = some v) ∧ ∀ n u, n < L → gS S j n = some u → v ≤ u)
theorem Lvs.none' {S : Nat → List (List Int)} (L : Lvs S) {n : Nat} {r : Int} (hn : n ≤ 300) (h1 : 1 ≤ r) (hr : ((S n).flatten.length : Int) < r) : gS S r n = none := by
  cases e : gS S r n with
  | none => rfl
  | some v =>
    have := (L.of hn h1 e).1
    omega
theorem BstJ.skip {S : Nat → List (List Int)} {L : Nat} {j v : Int} (h : BstJ S L j v) (e : gS S j L = none) : BstJ S (L + 1) j v := by
  rcases h with ⟨h1, h2⟩ | ⟨h0, ⟨n, h1, h2⟩, h3⟩
  · refine .inl ⟨h1, fun n hn => ?_⟩
    by_cases z : n = L
    · rw [z]; exact e
    · exact h2 n (by omega)
  · refine .inr ⟨h0, ⟨n, by omega, h2⟩, fun m u hm hu => ?_⟩
    by_cases z : m = L
    · rw [z, e] at hu; cases hu
    · exact h3 m u (by omega) hu
theorem BstJ.put {S : Nat → List (List Int)} {L : Nat} {j v u : Int} (h : BstJ S L j v) (hu : 0 ≤ u) (e : gS S j L = some u) : BstJ S (L + 1) j (if v < 0 ∨ u < v then u else v) := by
  rcases h with ⟨h1, h2⟩ | ⟨h0, ⟨n, h1, h2⟩, h3⟩
  · rw [if_pos (.inl (by omega))]
    refine .inr ⟨hu, ⟨L, by omega, e⟩, fun m w hm hw => ?_⟩
    by_cases z : m = L
    · rw [z, e] at hw; cases hw; exact Int.le_refl _
    · rw [h2 m (by omega)] at hw; cases hw
  · by_cases z : u < v
    · rw [if_pos (.inr z)]
      refine .inr ⟨hu, ⟨L, by omega, e⟩, fun m w hm hw => ?_⟩
      by_cases y : m = L
      · rw [y, e] at hw; cases hw; exact Int.le_refl _
      · have := h3 m w (by omega) hw; omega
    · rw [if_neg (by omega)]
      refine .inr ⟨h0, ⟨n, by omega, h2⟩, fun m w hm hw => ?_⟩
      by_cases y : m = L
      · rw [y, e] at hw; cases hw; omega
      · exact h3 m w (by omega) hw
/-- a level's numbers, the first ones in order -/
theorem first_sums {S : Nat → List (List Int)} (F : Lvs S) {L B : Nat} (hL : L ≤ 300) (hB : ∀ m ∈ (S L).flatten, 0 ≤ m ∧ m < B) {most j : Nat} (h1 : 1 ≤ j) (hj : j ≤ most) :
    gS S j L = if j ≤ ((exr (S L).flatten B).take most).length then some (((exr (S L).flatten B).take most).take j).sum else none := by
  have hp := exr_perm hB
  have hlen := hp.length_eq
  by_cases h : j ≤ (S L).flatten.length
  · have hj2 : j ≤ (exr (S L).flatten B).length := by omega
    rw [if_pos (by simp; omega), List.take_take, Nat.min_eq_left hj]
    obtain ⟨v, ev, lv⟩ := F.some (r := (j : Int)) hL (by omega) (by omega)
    rw [ev, lv.uniq (lst_srt hp (exr_srt _ _) h1 hj2)]
  · rw [if_neg (by simp; omega)]
    exact F.none' hL (by omega) (by omega)
/-! ### from some level on nothing reads so little -/
def low (c : Bool) (p L : Nat) : Nat := if c then L / 2 else (L + p - 1) / p
theorem up1_ge {A : List Int} {b : Int} (h : ∀ y ∈ A, b ≤ y) : ∀ y ∈ up1 A, b + 1 ≤ y := fun y hy => by
  obtain ⟨x, hx, rfl⟩ := List.mem_map.mp hy
  have := h x hx
  omega
/-- behind a pass: all but what the last reel had is one more; the last reel has the first one's -/
theorem next_ge : ∀ (N : List (List Int)) {b : Int} {c : Int}, 2 ≤ N.length → (∀ A ∈ N.dropLast, ∀ y ∈ A, b ≤ y) → (∀ y ∈ N.getLastD [], c ≤ y) → (∀ A ∈ nextKN N, ∀ y ∈ A, min (b + 1) c ≤ y) ∧ ∀ y ∈ (nextKN N).getLastD [], b + 1 ≤ y
  | [], b, c, h, _, _ => by simp at h
  | [Z], b, c, h, _, _ => by simp at h
  | [A, Z], b, c, _, h1, h2 => by
    have hA := up1_ge (h1 A (by simp))
    have hZ : ∀ y ∈ Z, c ≤ y := h2
    refine ⟨fun X hX y hy => ?_, fun y hy => ?_⟩
    · simp [nextKN] at hX
      rcases hX with rfl | rfl
      · rcases List.mem_append.mp hy with z | z
        · have := hA y z; omega
        · have := hZ y z; omega
      · have := hA y hy; omega
    · simp [nextKN] at hy
      exact hA y hy
  | A :: B :: C :: r, b, c, _, h1, h2 => by
    have hA := up1_ge (h1 A (by simp))
    have ih := next_ge (B :: C :: r) (b := b) (c := c) (by simp) (fun X hX => h1 X (by simp at hX ⊢; exact .inr hX)) h2
    refine ⟨fun X hX y hy => ?_, fun y hy => ?_⟩
    · rw [nextKN] at hX
      rcases List.mem_append.mp hX with hX | hX
      · obtain ⟨Y, hY, rfl⟩ := List.mem_map.mp hX
        rcases List.mem_append.mp hy with z | z
        · have := hA y z; omega
        · exact ih.1 Y hY y z
      · rw [List.mem_singleton] at hX
        subst hX
        have := hA y hy; omega
    · rw [nextKN] at hy
      simp at hy
      exact hA y hy
theorem cas_ge {p : Nat} (hp : 2 ≤ p) : ∀ n : Nat, (∀ A ∈ casN p n, ∀ y ∈ A, ((n / 2 : Nat) : Int) ≤ y) ∧ ∀ y ∈ (casN p n).getLastD [], (((n + 1) / 2 : Nat) : Int) ≤ y
  | 0 => by
    refine ⟨fun A hA y hy => (bd_cas (p := p) (by omega) 0 A hA y hy).1, fun y hy => ?_⟩
    show (0 : Int) ≤ y
    have hm : (casN p 0).getLastD [] ∈ casN p 0 := by
      have : casN p 0 ≠ [] := fun e => by have := casN_len (p := p) (by omega) 0; rw [e] at this; simp at this; omega
      rw [List.getLastD_eq_getLast?, List.getLast?_eq_some_getLast this]
      exact List.getLast_mem this
    exact (bd_cas (p := p) (by omega) 0 _ hm y hy).1
  | n + 1 => by
    obtain ⟨i1, i2⟩ := cas_ge hp n
    have hl := casN_len (p := p) (by omega) n
    have := next_ge (casN p n) (b := ((n / 2 : Nat) : Int)) (c := (((n + 1) / 2 : Nat) : Int)) (by omega) (fun A hA => i1 A ((List.dropLast_sublist _).subset hA)) i2
    refine ⟨fun A hA y hy => ?_, fun y hy => ?_⟩
    · have := this.1 A hA y hy
      omega
    · have := this.2 y hy
      omega
theorem low_le {c : Bool} {p : Nat} (hp : 2 ≤ p) {L n : Nat} (h : L ≤ n) : ∀ y ∈ (SS c p n).flatten, ((low c p L : Nat) : Int) ≤ y := fun y hy => by
  cases c
  · obtain ⟨b1, b2⟩ := (mem_flat hp n y).mp hy
    show (((L + p - 1) / p : Nat) : Int) ≤ y
    obtain ⟨m, rfl⟩ : ∃ m : Nat, y = m := ⟨y.toNat, by
      refine (Int.toNat_of_nonneg ?_).symm
      refine Decidable.byContradiction fun z => ?_
      have : (p : Int) * y ≤ (p : Int) * (-1) := Int.mul_le_mul_of_nonneg_left (by omega) (by omega)
      omega⟩
    have h3 : n ≤ p * m := by
      have : ((p * m : Nat) : Int) = (p : Int) * m := Int.natCast_mul ..
      omega
    have : (L + p - 1) / p ≤ m := Nat.le_of_lt_succ ((Nat.div_lt_iff_lt_mul (by omega)).mpr (by
      rw [Nat.succ_mul, Nat.mul_comm m p]
      omega))
    omega
  · obtain ⟨A, hA, hy⟩ := List.mem_flatten.mp hy
    have := (cas_ge hp n).1 A hA y hy
    show ((L / 2 : Nat) : Int) ≤ y
    have : L / 2 ≤ n / 2 := Nat.div_le_div_right h
    omega
/-- all numbers of rows at once -/
structure BestF (S : Nat → List (List Int)) (L most : Nat) (F : List Int) : Prop where
  len : F.length = most + 1
  at_ : ∀ j : Nat, 1 ≤ j → j ≤ most → BstJ S L j (F.getD j 0)
def Opn (most : Nat) (F : List Int) (least : Int) : Prop := F.getD most 0 < 0 ∨ ∃ j : Nat, 1 ≤ j ∧ j ≤ most ∧ (j : Int) * least < F.getD j 0
theorem sum_geB {b : Int} : ∀ {ys : List Int}, (∀ y ∈ ys, b ≤ y) → (ys.length : Int) * b ≤ ys.sum
  | [], _ => by simp
  | y :: ys, h => by
    have := h y (by simp)
    have := sum_geB fun z hz => h z (List.mem_cons_of_mem _ hz)
    rw [List.sum_cons, List.length_cons, show ((ys.length + 1 : Nat) : Int) = ys.length + 1 by omega, Int.add_mul]
    omega
theorem sum_le' {b : Int} : ∀ {ys : List Int}, (∀ y ∈ ys, y ≤ b) → ys.sum ≤ (ys.length : Int) * b
  | [], _ => by simp
  | y :: ys, h => by
    have := h y (by simp)
    have := sum_le' fun z hz => h z (List.mem_cons_of_mem _ hz)
    rw [List.sum_cons, List.length_cons, show ((ys.length + 1 : Nat) : Int) = ys.length + 1 by omega, Int.add_mul]
    omega
theorem Lst.mems {xs : List Int} {r : Nat} {v : Int} (l : Lst xs r v) : ∃ ys : List Int, (∀ y ∈ ys, y ∈ xs) ∧ (ys.length : Int) = r ∧ v = ys.sum := by
  obtain ⟨ys, s, e, rfl⟩ := l.list
  refine ⟨ys, fun y hy => ?_, by rw [e], rfl⟩
  have := s y
  have h2 : cn ys y ≠ 0 := cn_ne.mpr hy
  have h3 := cn_pos ys y
  exact cn_ne.mp (by omega)
theorem wide12 {c : Bool} {p : Nat} (hp : 2 ≤ p) (h7 : p ≤ 7) : (201 : Int) ≤ (SS c p 12).flatten.length := by
  cases c
  · show (201 : Int) ≤ (num p 12).flatten.length
    rw [flat_tot]
    rcases (show p = 2 ∨ p = 3 ∨ p = 4 ∨ p = 5 ∨ p = 6 ∨ p = 7 by omega) with rfl | rfl | rfl | rfl | rfl | rfl
    all_goals decide +kernel
  · show (201 : Int) ≤ (casN p 12).flatten.length
    rw [flatK_len (by omega)]
    rcases (show p = 2 ∨ p = 3 ∨ p = 4 ∨ p = 5 ∨ p = 6 ∨ p = 7 by omega) with rfl | rfl | rfl | rfl | rfl | rfl
    all_goals decide +kernel
theorem low12 {c : Bool} {p L : Nat} (hp : 2 ≤ p) (h7 : p ≤ 7) (h : 84 ≤ L) : 12 ≤ low c p L := by
  cases c
  · show 12 ≤ (L + p - 1) / p
    exact (Nat.le_div_iff_mul_le (by omega)).mpr (by omega)
  · show 12 ≤ L / 2
    omega
theorem BestF.open_lt {c : Bool} {p L most : Nat} {F : List Int} (hp : 2 ≤ p) (h7 : p ≤ 7) (hm : most ≤ 201) (h1 : 1 ≤ most) (B : BestF (SS c p) L most F) (o : Opn most F (low c p L)) : L < 84 := by
  refine Decidable.byContradiction fun hL => ?_
  have hf := (SS_fil (c := c) hp).lv
  have key : ∀ j : Nat, 1 ≤ j → j ≤ most → 0 ≤ F.getD j 0 ∧ F.getD j 0 ≤ (j : Int) * 12 := fun j j1 j2 => by
    have hw := wide12 (c := c) hp h7
    obtain ⟨v, ev, lv⟩ := hf.some (n := 12) (r := (j : Int)) (by omega) (by omega) (by omega)
    obtain ⟨ys, hy, e, rfl⟩ := lv.mems
    have hs := sum_le' (b := 12) (ys := ys) fun y h => by
      obtain ⟨A, hA, hyA⟩ := List.mem_flatten.mp (hy y h)
      have := hf.bd 12 A hA y hyA
      omega
    rcases B.at_ j j1 j2 with ⟨_, z⟩ | ⟨z0, _, z2⟩
    · rw [z 12 (by omega)] at ev
      cases ev
    · have := z2 12 _ (by omega) ev
      rw [e] at hs
      exact ⟨z0, by omega⟩
  have hlow := low12 (c := c) hp h7 (show 84 ≤ L by omega)
  rcases o with o | ⟨j, j1, j2, o⟩
  · have := (key most h1 (Nat.le_refl _)).1
    omega
  · have h2 := (key j j1 j2).2
    have : (j : Int) * 12 ≤ (j : Int) * (low c p L : Nat) := Int.mul_le_mul_of_nonneg_left (by omega) (by omega)
    omega
theorem BestF.done {c : Bool} {p L most N : Nat} {F : List Int} {q : Int × Nat} (hp : 2 ≤ p) (hN : 100 ≤ N) (hN2 : N ≤ 301) (hL : L ≤ 84) (h1 : 1 ≤ most) (B : BestF (SS c p) L most F) (o : ¬ Opn most F (low c p L)) (b : Bst (SS c p) N most q) : F.getD most 0 = q.1 := by
  have hf := (SS_fil (c := c) hp).lv
  have o1 : 0 ≤ F.getD most 0 := Decidable.byContradiction fun z => o (.inl (by omega))
  have o2 : F.getD most 0 ≤ (most : Int) * (low c p L : Nat) := Decidable.byContradiction fun z => o (.inr ⟨most, h1, Nat.le_refl _, by omega⟩)
  rcases B.at_ most h1 (Nat.le_refl _) with ⟨z, _⟩ | ⟨_, ⟨n, z1, z2⟩, z3⟩
  · omega
  · have g1 := b.le n _ (by omega) z2
    by_cases hq : q.2 < L
    · have := z3 q.2 _ hq b.eq
      omega
    · have hlt := b.lt
      obtain ⟨hr, l⟩ := hf.of (n := q.2) (by omega) (by omega) b.eq
      obtain ⟨ys, hy, e, e2⟩ := l.mems
      have hs := sum_geB (b := ((low c p L : Nat) : Int)) (ys := ys) fun y h => low_le hp (by omega) y (hy y h)
      rw [e] at hs
      omega
end Lv

set_option Elab.async false
set_option linter.all false
set_option maxRecDepth 100000
set_option maxHeartbeats 4000000
namespace L2
open PySem PySem.Spec PyProof.Rows PySem.SeqAt
/-! ### walking a list or a tuple, whichever it is -/
def ItlB (b : Bool) (K : PySem.W.Frag) (a : Addr) : It := match b with | true => Itl K a | false => Itt K a
def iSeqB (K : PySem.W.Frag) (tl : TE) : TI := fun σ H R => tl σ H fun x H1 => ∃ a b, x = .ref a ∧ (∃ xs, SqB b K H1 a xs) ∧ R (ItlB b K a) H1
theorem piK_seqB (K : PySem.W.Frag) {X : Cx} {tg l : Expr} {tl : TE} (hl : PE X l tl) (hK : X.K = K := by rfl) : PI X tg l (iSeqB K tl) := by
  subst hK
  intro pins s σ H R I h
  refine thn (hl pins s σ H _ I h) fun v s1 ⟨x, H1, I1, r1, q1⟩ => ?_
  obtain ⟨a, b, e, ⟨xs, hq⟩, q⟩ := q1
  subst e
  cases r1
  have fp : ∀ b ∈ [s1.heap.objs.size], FpOk X pins H1 b := fun b hb => by
    have e : b = s1.heap.objs.size := by simpa using hb
    subst e
    exact I1.fpOk (Nat.le_refl _) (I1.hok.fresh (Nat.le_refl _))
  cases b with
  | true =>
    obtain ⟨its, rv, p, hz⟩ := I1.list hq
    exact wpAny_pyIter_list p.isList ⟨s1.heap.objs.size, [s1.heap.objs.size], _, _, H1, rfl, I1.kept (t' := s1.toks) fun b o e => Heap.get?_push_of_some _ e, turn_list a _, ⟨_, Heap.get?_push_size _ rfl, rfl, rfl⟩, fp, q⟩
  | false =>
    obtain ⟨its, rv, p, hz⟩ := I1.tuple hq
    exact wpAny_pyIter_tuple (show s1.heap.IsTuple a its.toArray from p) ⟨s1.heap.objs.size, [s1.heap.objs.size], _, _, H1, rfl, I1.kept (t' := s1.toks) fun b o e => Heap.get?_push_of_some _ e, turn_tuple a _, ⟨_, Heap.get?_push_size _ rfl, rfl, rfl⟩, fp, q⟩
theorem pi_seqB {X : Cx} {tg l : Expr} {tl : TE} (hl : PE X l tl) : PI X tg l (iSeqB X.K tl) := piK_seqB X.K hl
theorem itlB_go {b : Bool} {K : PySem.W.Frag} {H : Hp} {a : Addr} {xs : List V} {i : Nat} (q : SqB b K H a xs) (hi : i < xs.length) : (ItlB b K a).go i H := by
  cases b <;> exact ⟨xs, xs[i], q, List.getElem?_eq_getElem hi⟩
theorem itlB_yld {b : Bool} {K : PySem.W.Frag} {H H' : Hp} {a : Addr} {xs : List V} {i : Nat} {x : V} (q : SqB b K H a xs) (y : (ItlB b K a).yld i H x H') : H' = H ∧ xs[i]? = some x := by
  cases b <;> exact ⟨y.1, y.2 xs q⟩
theorem itlB_stop {b : Bool} {K : PySem.W.Frag} {H : Hp} {a : Addr} {xs : List V} {i : Nat} (q : SqB b K H a xs) (hi : xs.length ≤ i) : (ItlB b K a).stop i H := by
  cases b <;> exact ⟨xs, q, hi⟩
section
variable {b : Bool} {K : PySem.W.Frag} {own : List Str} {js : List Nat} {g1 g2 g : TG} {tt1 tt2 tt : TT} {wi2 : TI} {te : TE} {σ τ : St} {H1 H6 : Hp} {Q : VK} {a acc : Addr} {xs : List V}
theorem comp_seqB (Pv : Addr → Nat → Hp → Prop) (h0 : ∀ acc, H1 acc = none → Pv acc 0 (upd H1 acc (.lst []))) (hl : ∀ acc i H, H1 acc = none → i ≤ xs.length → Pv acc i H → SqB b K H a xs)
    (hs : ∀ acc i x H, H1 acc = none → xs[i]? = some x → Pv acc i H → g x (blkσ own js σ) H fun τ H4 => tt τ H4 fun c H5 =>
      if c = true then te τ H5 fun y H6 => ∃ ys, H6 acc = some (.lst ys) ∧ ys.length < sizeLine ∧ (i + 1 ≤ xs.length ∧ Pv acc (i + 1) (upd H6 acc (.lst (ys ++ [y])))) else (i + 1 ≤ xs.length ∧ Pv acc (i + 1) H5))
    (hd : ∀ acc H, H1 acc = none → Pv acc xs.length H → Q (.ref acc) H) : tCompW own js g tt te σ (ItlB b K a) H1 Q := by
  intro acc hacc
  refine ⟨fun i H => i ≤ xs.length ∧ Pv acc i H, xs.length, ⟨Nat.zero_le _, h0 acc hacc⟩, ?_⟩
  rintro i H ⟨hi, p⟩
  have q := hl acc i H hacc hi p
  rcases Nat.lt_or_ge i xs.length with hlt | hge
  · refine .inr ⟨hlt, itlB_go q hlt, fun x H' y => ?_⟩
    obtain ⟨rfl, hx⟩ := itlB_yld q y
    exact hs acc i x _ hacc hx p
  · obtain rfl : i = xs.length := by omega
    exact .inl ⟨itlB_stop q (Nat.le_refl _), hd acc H hacc p⟩
/-- for over a list or tuple that the body leaves as it is -/
theorem for_seqB {tb : TS} {D : Ends} {H : Hp} (Pv : Nat → St → Hp → Prop) (h0 : Pv 0 σ H) (hl : ∀ i σ H, i ≤ xs.length → Pv i σ H → SqB b K H a xs)
    (hs : ∀ i x σ H, xs[i]? = some x → Pv i σ H → g x σ H fun σ2 H2 => tb { D with nx := Pv (i + 1), ct := Pv (i + 1), bk := D.nx } σ2 H2) (hd : ∀ σ H, Pv xs.length σ H → D.nx σ H) :
    ∃ W : Nat → Nat → St → Hp → Prop, (∃ m, W 0 m σ H) ∧ ∀ i m σ H, W i m σ H →
      ((ItlB b K a).stop i H ∧ D.nx σ H) ∨ ((ItlB b K a).go i H ∧ ∃ N : St → Hp → Prop, (∀ σ' H', N σ' H' → ∃ m', m' < m ∧ W (i + 1) m' σ' H') ∧ ∀ x H', (ItlB b K a).yld i H x H' → g x σ H' fun σ2 H2 => tb { D with nx := N, ct := N, bk := D.nx } σ2 H2) := by
  refine ⟨fun i m σ H => m = xs.length - i ∧ i ≤ xs.length ∧ Pv i σ H, ⟨xs.length, by simp, Nat.zero_le _, h0⟩, ?_⟩
  rintro i m σ H ⟨rfl, hi, p⟩
  have q := hl i σ H hi p
  rcases Nat.lt_or_ge i xs.length with hlt | hge
  · refine .inr ⟨itlB_go q hlt, Pv (i + 1), fun σ' H' z => ⟨xs.length - (i + 1), by omega, rfl, hlt, z⟩, fun x H' y => ?_⟩
    obtain ⟨rfl, hx⟩ := itlB_yld q y
    exact hs i x σ _ hx p
  · obtain rfl : i = xs.length := by omega
    exact .inl ⟨itlB_stop q (Nat.le_refl _), hd σ H p⟩
end
end L2

set_option Elab.async false
set_option linter.all false
set_option maxRecDepth 100000
set_option maxHeartbeats 4000000
namespace L2
open PySem PySem.Spec PyProof.Rows PySem.SeqAt
end L2
namespace Lv
open PySem L2
theorem Same.sqB {b : Bool} {K : PySem.W.Frag} {H H' : Hp} {a : Addr} {xs : List V} (e : Same H H') (h : SqB b K H a xs) : SqB b K H' a xs := by
  cases b with
  | true => exact e.seq h
  | false => exact e.tup h
/-- a comprehension whose things are told, and leave all as it was -/
theorem comp_mapB {b : Bool} {K : PySem.W.Frag} {own : List Str} {js : List Nat} {g : TG} {te : TE} {σ : St} {H1 : Hp} {Q : VK} {a : Addr} {xs : List V} (ys : List V) (hq : SqB b K H1 a xs) (hl : xs.length = ys.length) (hlen : xs.length ≤ 20000)
    (hs : ∀ (i : Nat) x y, xs[i]? = some x → ys[i]? = some y → ∀ H, Same H1 H → ∀ R : VK, (∀ H', Same H H' → R y H') → g x (blkσ own js σ) H fun τ H4 => te τ H4 R)
    (hd : ∀ acc H, H1 acc = none → Same H1 H → H acc = some (.lst ys) → Q (.ref acc) H) : tCompW own js g tTrue te σ (ItlB b K a) H1 Q := by
  refine comp_seqB (b := b) (K := K) (a := a) (xs := xs) (fun acc i H => Same H1 H ∧ H acc = some (.lst (ys.take i))) (fun acc h0 => ⟨Same.new h0, upd_same⟩) (fun acc i H h0 _ z => ?_) ?_ ?_
  · exact Same.sqB z.1 hq
  · rintro acc i x H h0 hx ⟨s1, hacc⟩
    have hi := (List.getElem?_eq_some_iff.mp hx).1
    have hy := List.getElem?_eq_getElem (l := ys) (i := i) (by omega)
    refine (cast ?_ (hs i x _ hx hy H s1 (fun y H6 => ∃ zs, H6 acc = some (.lst zs) ∧ zs.length < sizeLine ∧ (i + 1 ≤ xs.length ∧ (Same H1 (upd H6 acc (.lst (zs ++ [y]))) ∧ upd H6 acc (.lst (zs ++ [y])) acc = some (.lst (ys.take (i + 1)))))) fun H' s' => ?_))
    · unfold tTrue
      simp only [if_true]
    · refine ⟨_, s' _ _ hacc, ?_, hi, (s1.trans s').put h0, ?_⟩
      · rw [sizeLine_eq, List.length_take]
        omega
      · rw [upd_same, List.take_add_one, hy]
        simp
  · rintro acc H h0 ⟨s1, hacc⟩
    rw [hl, List.take_length] at hacc
    exact hd acc H h0 s1 hacc
end Lv

set_option Elab.async false
set_option linter.all false
set_option maxRecDepth 100000
set_option maxHeartbeats 4000000
namespace Lv
open PySem L2
/-! ### the places, reel by reel -/
end Lv

set_option Elab.async false
set_option linter.all false
set_option maxRecDepth 100000
set_option maxHeartbeats 4000000
namespace L2
open PySem PySem.Spec PyProof.Rows PySem.SeqAt
/-! ### xs != [] -/
/-! ### lists of lists of truths -/
section
variable {X : Cx}
end
end L2

set_option Elab.async false
set_option linter.all false
set_option maxRecDepth 100000
set_option maxHeartbeats 4000000
namespace Lv
open PySem L2
/-! ### turned numbers, in plain Lean -/
def lastR (r : List (List Int)) : List Int := r.getLastD []
def wr (L : List (List (List Int))) : List Int := (L.map lastR).flatten
/-! ### sizes and places -/
/-! ### reels that are read and written in their place -/
end Lv

set_option Elab.async false
set_option linter.all false
set_option maxRecDepth 100000
set_option maxHeartbeats 4000000
namespace Lv
open PySem L2
theorem cut_1 (r0 : V) (rr : List V) : cutV (r0 :: rr) (some 1) none = rr := by
  unfold cutV
  show ((r0 :: rr).drop (HT.sIx (r0 :: rr).length 0 (some ((1 : Nat) : Int)))).take (HT.sIx (r0 :: rr).length (r0 :: rr).length none - HT.sIx (r0 :: rr).length 0 (some ((1 : Nat) : Int))) = _
  rw [HT.sIx_nat]
  rw [show min 1 (r0 :: rr).length = 1 by simp]
  show rr.take ((r0 :: rr).length - 1) = _
  rw [List.take_of_length_le (by simp)]
/-! ### pots of two, the second below 2 ** 31 -/
def PotT (H : Hp) (p : Addr) : Prop := ∃ a b : Int, H p = some (.lst [.int a, .int b]) ∧ 0 ≤ b ∧ b < 2147483648
theorem PotT.put {H : Hp} {p q : Addr} {o : HO} (h : PotT H p) (hq : H q = none) : PotT (upd H q o) p := by
  obtain ⟨a, b, e, z⟩ := h
  exact ⟨a, b, by rw [upd_ne (ne_of_none e hq)]; exact e, z⟩
theorem PotT.ne {H : Hp} {p q : Addr} (h : PotT H p) (hq : H q = none) : q ≠ p := by
  obtain ⟨a, b, e, _⟩ := h
  exact Ne.symm (ne_of_none e hq)
theorem PotT.same {H H' : Hp} {p : Addr} (h : PotT H p) (s : Same H H') : PotT H' p := by
  obtain ⟨a, b, e, z⟩ := h
  exact ⟨a, b, s p _ e, z⟩
def spPotT (K : PySem.W.Frag) : Sp := fun vs H Q _ => ∃ (a : Addr) (ns : List Int) (k : Int), vs = [.ref a, .int k] ∧ SqL K H a (ns.map V.int) ∧ 0 ≤ k ∧ k ≤ 1000 ∧ ∀ p H', H p = none → PotT H' p → Same H H' → Q (.ref p) H'
def spTakeT : Sp := fun vs H Q _ => ∃ p m, vs = [.ref p, .int m] ∧ PotT H p ∧ 0 < m ∧ Builtin.Int.intBits m ≤ 8000 ∧ ∀ d H', 0 ≤ d → d < m → PotT H' p → Sm p H H' → Q (.int d) H'
theorem pow60 : (0 : Int) < 10 ^ Int.toNat 60 * 10 ^ Int.toNat 60 * 10 ^ Int.toNat 60 ∧ Builtin.Int.intBits ((10 : Int) ^ Int.toNat 60) ≤ 1000 ∧ Builtin.Int.intBits ((10 : Int) ^ Int.toNat 60 * 10 ^ Int.toNat 60) ≤ 1000 := by decide +kernel
end Lv

set_option Elab.async false
set_option linter.all false
set_option maxRecDepth 100000
set_option maxHeartbeats 4000000
namespace Fh73
open PySem L2 Lv
def top (i : Nat) : Stmt := PySem.Challenge.pw_fewreels_k73_held_rows_told.main.body.getD i (.Pass ⟨0, 0, 0, 0⟩)
abbrev sWhole : Stmt := top 4
abbrev sWays : Stmt := top 9
abbrev sFirstS : Stmt := top 11
abbrev sBothS : Stmt := top 12
abbrev sNextS : Stmt := top 13
abbrev sOverS : Stmt := top 14
abbrev sLeastS : Stmt := top 15
abbrev sBo : Stmt := top 17
abbrev sBR : Stmt := top 18
abbrev sNextKS : Stmt := top 21
abbrev sBK : Stmt := top 22
abbrev sLike : Stmt := top 24
abbrev sBalP : Stmt := top 25
abbrev sBalR : Stmt := top 26
abbrev sHeld : Stmt := top 27
abbrev sPotT : Stmt := top 29
abbrev sTakeT : Stmt := top 30
abbrev sLCnt : Stmt := top 31
abbrev sFur : Stmt := top 32
abbrev sNms : Stmt := top 33
abbrev sOpn : Stmt := top 34
abbrev sBst : Stmt := top 35
abbrev sLogR : Stmt := top 36
abbrev sLPass : Stmt := top 37
abbrev sLWhole : Stmt := top 38
abbrev sRows : Stmt := top 39
abbrev sLaw : Stmt := top 40
end Fh73

set_option Elab.async false
set_option linter.all false
set_option maxRecDepth 100000
set_option maxHeartbeats 4000000
namespace L2
open PySem PyProof.Rows
section
variable {prog : Program} {w : World} {A : Around} {E : Value → Shared → Prop} {s : Shared} {O : KO} {knd : SortKind} {ok : Keyed → Prop} {st τ : SortSt}
theorem min_few {n : Nat} (h : n < 64) (h1 : 1 ≤ n) : minRun' n n 0 = n := by
  cases n with
  | zero => omega
  | succ k =>
    show (if k + 1 < 64 then k + 1 + 0 else _) = _
    rw [if_pos h]
theorem wpS_sortFew {a₀ : Array Keyed} {Q : Unit → SortSt → Prop} (h64 : a₀.size < 64) (hA : Asks prog w A s O knd ok) (h0 : ∀ x ∈ a₀.toList, ok x) (ha : arrOf st = a₀) (hk : kindOf st = knd) (hf : failedOf st = none) (hp : pendingOf st = #[])
    (h : ∀ τ, (arrOf τ).toList.Perm a₀.toList → failedOf τ = none → O.Srt (arrOf τ).toList → Q () τ) : wpS (model prog w) A E s sortRuns' Q st := by
  refine wpS_bind (wpS_get ?_)
  dsimp only
  have hN : (arrOf st).size = a₀.size := by rw [ha]
  have hN2 : a₀.toList.length = a₀.size := Array.length_toList
  rw [hN]
  refine wpS_bind (wpS_mono (wpS_forRange
    (I := fun x c τ => ∃ lo runs rest, c = ((none : Option Unit), lo) ∧ RI O knd a₀.toList runs rest τ ∧ lo = runs.flatten.length ∧ (x ≤ lo) ∧ runs.length ≤ 1 ∧ (runs = [] ∨ rest = []))
    (Q := fun c τ => ∃ lo runs, c = ((none : Option Unit), lo) ∧ RI O knd a₀.toList runs [] τ ∧ runs.length ≤ 1) ?go ?out ⟨0, [], a₀.toList, rfl, ⟨by rw [ha]; simp, by rw [ha], (fun r hr => nomatch hr), (fun r hr => nomatch hr), hk, hf, by rw [hp]; rfl⟩, rfl, Nat.le_refl 0, Nat.zero_le _, .inl rfl⟩) ?fin)
  case out =>
    rintro c τ ⟨lo, runs, rest, rfl, hR, e1, e2, e3, _⟩
    have q1 := hR.size
    have q2 := hR.size0
    have q3 := hN2
    have : rest = [] := List.length_eq_zero_iff.mp (by
      have q4 : max 0 a₀.size ≤ lo := e2
      omega)
    subst this
    exact ⟨lo, runs, rfl, hR, e3⟩
  case fin =>
    rintro c τ ⟨lo, runs, rfl, hR, e3⟩
    dsimp only
    have q1 := hR.size
    have q3 := hN2
    have q4 := hR.size0
    refine wpS_bind (wpS_mono (wpS_forRange (I := fun x c τ' => c = ((none : Option Unit), ()) ∧ ∃ runs', RI O knd a₀.toList runs' [] τ' ∧ runs'.length ≤ 1)
      (Q := fun c τ' => c = ((none : Option Unit), ()) ∧ ∃ runs', RI O knd a₀.toList runs' [] τ' ∧ runs'.length ≤ 1) ?g2 (fun _ _ z => z) ⟨rfl, runs, hR, e3⟩) ?f2)
    case f2 =>
      rintro c τ' ⟨rfl, runs', hR', e⟩
      refine wpS_pure (h τ' hR'.perm hR'.failed ?_)
      rw [hR'.arr, List.append_nil]
      match runs', e, hR' with
      | [], _, _ => exact List.Pairwise.nil
      | [r], _, hR' => simpa using hR'.srt r (by simp)
    case g2 =>
      rintro x c τ' _ _ ⟨rfl, runs', hR', e⟩
      refine wpS_bind (wpS_get ?_)
      rw [if_pos (show (pendingOf τ').size ≤ 1 by rw [hR'.len]; exact e)]
      exact wpS_pure ⟨rfl, runs', hR', e⟩
  case go =>
    rintro x c τ _ hx ⟨lo, runs, rest, rfl, hR, e1, e2, e3, e4⟩
    have q1 := hR.size
    have q2 := hR.size0
    have q3 := hN2
    dsimp only
    by_cases c0 : lo ≥ a₀.size
    · rw [if_pos c0]
      have : rest = [] := List.length_eq_zero_iff.mp (by omega)
      subst this
      exact wpS_pure ⟨lo, runs, rfl, hR, e3⟩
    rw [if_neg c0]
    have hr0 : runs = [] := by
      rcases e4 with z | z
      · exact z
      · subst z
        simp only [List.length_nil] at q1
        omega
    subst hr0
    have hlo : lo = 0 := e1
    subst hlo
    have sz : (arrOf τ).size = a₀.size := q2.trans q3
    have rl : rest.length = a₀.size := by
      have z : (arrOf τ).size = 0 + rest.length := q1
      rw [sz, Nat.zero_add] at z
      exact z.symm
    have x0 : x = 0 := Nat.le_zero.mp e2
    subst x0
    have sp : 1 ≤ a₀.size := Nat.lt_of_not_le c0
    clear q1 q2 q3 hN e2 e3 e4 hx c0 e1
    have oks : ∀ x ∈ (arrOf τ).toList, ok x := fun x hx => h0 x (hR.perm.mem_iff.mp hx)
    refine wpS_bind (wpS_run (b₀ := arrOf τ) (p₀ := pendingOf τ) (lo := 0) hA oks ⟨Array.Perm.refl _, fun _ _ => rfl, hR.kind, hR.failed, rfl⟩ (by omega) (by omega) fun m τ1 hF m1 m2 u => ?_)
    dsimp only
    have hm := min_few h64 sp
    have hmm : min (a₀.size - 0) (minRun' a₀.size a₀.size 0) = a₀.size := by rw [hm]; omega
    have nob : ∀ {τ2 : SortSt} {r rest' : List Keyed}, RI O knd a₀.toList [] (r ++ rest') τ2 → (pendingOf τ2).back? = none := fun {τ2 r rest'} hR2 => by
      have := hR2.len
      simp only [List.length_nil] at this
      rw [Array.back?_eq_getElem?]
      exact Array.getElem?_eq_none (by omega)
    have nor : ∀ {τ2 : SortSt} {r rest' : List Keyed}, RI O knd a₀.toList [] (r ++ rest') τ2 → r.length = a₀.size → rest' = [] := fun {τ2 r rest'} hR2 hl => by
      have z1 := hR2.size
      have z2 := hR2.size0
      simp only [List.flatten_nil, List.length_nil, List.length_append] at z1
      exact List.length_eq_zero_iff.mp (by omega)
    refine wpS_ite (fun cm => ?_) (fun cm => ?_)
    · refine wpS_bind (wpS_lift (wpAny_rule ⟨rfl, ?_⟩))
      refine wpS_bind (wpS_ins hA oks hF (by rw [sz]; exact Nat.le_of_eq ((Nat.zero_add _).trans hmm)) m1 (Nat.le_trans m2 (Nat.le_of_eq hmm.symm)) u fun τ2 hF2 u2 => ?_)
      simp only [Bool.not_true, Bool.false_eq_true, if_false]
      obtain ⟨r, rest', hr, hs, hl, hR2⟩ := fb_ri (runs := []) hR hF2 u2 (Nat.le_of_eq (hmm.trans rl.symm))
      have h1n : 1 ≤ r.length := by rw [hr.trans hmm]; exact sp
      have hre := nor hR2 (hr.trans hmm)
      rw [hr] at h1n
      refine wpS_bind (wpS_get ?_)
      rw [nob hR2]
      dsimp only
      refine wpS_bind (wpS_modify (wpS_pure ⟨_, [] ++ [r], rest', rfl, hR2.push hs hr h1n rfl, by simp [hr], by omega, by simp, .inr hre⟩))
    · obtain ⟨r, rest', hr, hs, hl, hR2⟩ := fb_ri (runs := []) hR hF u (by rw [rl]; exact m2)
      have h1n : 1 ≤ m := m1
      have cm2 : minRun' a₀.size a₀.size 0 ≤ m := Nat.le_of_not_lt cm
      rw [hm] at cm2
      have hre := nor hR2 (by omega)
      refine wpS_bind (wpS_get ?_)
      rw [nob hR2]
      dsimp only
      exact wpS_bind (wpS_modify (wpS_pure ⟨_, [] ++ [r], rest', rfl, hR2.push hs hr h1n rfl, by simp [hr], by omega, by simp, .inr hre⟩))
theorem sort_few {a : Addr} {vs : List Value} {n : Nat} {P : PySem.Fin → Shared → Prop} (ho : s.heap.get? a = some (seqObj "list" vs.toArray n)) (hz : vs.length ≤ sizeLine) (hfew : vs.length < 64)
    (hkk : ∀ h', (∀ b o, s.heap.get? b = some o → b ≠ a → h'.get? b = some o) → 2 ≤ vs.length → ∀ Q : SortKind → Shared → Prop, Q knd { s with heap := h' } → wpAny (model prog w) A (keyKind' vs.toArray) Q E { s with heap := h' })
    (hA : ∀ h', (∀ b o, s.heap.get? b = some o → b ≠ a → h'.get? b = some o) → Asks prog w A { s with heap := h' } O knd ok) (hok : ∀ v ∈ vs, ok (v, v))
    (h : ∀ us : List Value, us.Perm vs → Ord2 O false us → P (.done (.ret .none)) { s with heap := sortedHeap s.heap a vs us.toArray }) : wpAny (model prog w) A (Builtin.«list.sort» ⟨[.ref a], []⟩) P E s := by
  have ha : a < s.heap.objs.size := Heap.lt_size ho
  have keep := fun (b : Addr) (o : Obj) (hb : s.heap.get? b = some o) (hne : b ≠ a) => sort_heap ho hb hne
  obtain ⟨e1, ho1⟩ : ∃ c, (s.heap.update a (Obj.mapSeq fun _ => #[])).get? a = some (seqObj "list" #[] c) := ⟨_, get?_update_seq ho (fun _ => #[])⟩
  have ho6 := Heap.get?_push_of_some (seqObj "list" #[] 0) (Heap.get?_push_of_some (seqObj "tuple" vs.toArray 0) ho1)
  have hsv : vs.toArray.size = vs.length := List.size_toArray
  have hz1 : vs.toArray.size ≤ sizeLine := by rw [hsv]; exact hz
  have fin : ∀ (τ : SortSt), (arrOf τ).toList.Perm (vs.zip vs) → O.Srt (arrOf τ).toList → P (.done (.ret .none)) { s with heap := sortedHeap s.heap a vs ((arrOf τ).map (·.2)) } := by
    intro τ hp hs
    obtain ⟨us, e, p1, p2⟩ := out_of hp hs false
    have e2 : (arrOf τ).map (·.2) = us.toArray := by rw [← e]; apply Array.toList_inj.mp; simp
    rw [e2]
    exact h us p1 p2
  have osz : ∀ τ : SortSt, (arrOf τ).toList.Perm (vs.zip vs) → ((arrOf τ).map (·.2)).size ≤ sizeLine + 1 := by
    intro τ hp
    rw [Array.size_map, ← Array.length_toList, hp.length_eq, List.length_zip]
    omega
  rw [list_sort_plain]
  refine wpAny_bind (listItems_at ho rfl (wpAny_bind (listUpdate_at ho rfl ?_ hz1 (Nat.zero_le _))))
  refine wpAny_bind (seqEpoch_at ho1 rfl (wpAny_bind (wpAny_newTuple ?_ hz)))
  refine wpAny_bind (wpAny_newList ?_ (Nat.zero_le _))
  refine wpAny_holding ?_
  show wpAny (model prog w) A _ P E ({ s with heap := ((s.heap.update a (Obj.mapSeq fun _ => #[])).push (seqObj "tuple" vs.toArray 0)).push (seqObj "list" #[] 0) } : Shared)
  dsimp only
  by_cases h2 : vs.toArray.size < 2
  · rw [if_pos h2, if_pos h2]
    refine wpAny_bind (wpAny_pure ?_)
    rw [StateT.run_pure]
    have hp0 : (vs.toArray.zip vs.toArray).toList.Perm (vs.zip vs) := by simp
    refine wpAny_bind (wpAny_pure (wpAny_bind (seqEpoch_at ho6 rfl (wpAny_bind (listUpdate_at ho6 rfl ?_ (Nat.zero_le _) (osz (SortSt.mk' general' (vs.toArray.zip vs.toArray) #[] 7 none) hp0))))))
    simp only [bne_self_eq_false, Bool.false_eq_true, if_false]
    refine wpAny_pure (fin (SortSt.mk' general' (vs.toArray.zip vs.toArray) #[] 7 none) hp0 ?_)
    show O.Srt (vs.toArray.zip vs.toArray).toList
    rw [show (vs.toArray.zip vs.toArray).toList = vs.zip vs by simp]
    match vs, h2 with
    | [], _ => exact List.Pairwise.nil
    | [v], _ => exact List.pairwise_singleton _ _
  · rw [if_neg h2, if_neg h2]
    refine wpAny_bind (hkk _ keep (by omega) _ ?_)
    refine wpAny_bind (wpAny_mono (wpS_sortFew (by simpa using hfew) (a₀ := vs.toArray.zip vs.toArray) (st := SortSt.mk' knd (vs.toArray.zip vs.toArray) #[] 7 none) (Q := fun _ τ => (arrOf τ).toList.Perm (vs.zip vs) ∧ failedOf τ = none ∧ O.Srt (arrOf τ).toList)
      (hA _ keep) (fun x hx => ?_) rfl rfl rfl rfl fun τ a1 a2 a3 => ⟨by simpa using a1, a2, a3⟩) ?_ fun _ _ z => z)
    · have hx : x ∈ vs.zip vs := by simpa using hx
      have q := mem_zip_self hx
      rw [show x = (x.1, x.1) from Prod.ext rfl q.1.symm]
      exact hok _ q.2
    · rintro ⟨⟨⟩, τ⟩ s' ⟨rfl, hp, hf, hs⟩
      refine wpAny_bind (seqEpoch_at ho6 rfl (wpAny_bind (listUpdate_at ho6 rfl ?_ (Nat.zero_le _) (osz τ hp))))
      dsimp only
      rw [hf]
      simp only [bne_self_eq_false, Bool.false_eq_true, if_false]
      exact wpAny_pure (fin τ hp hs)
end
end L2
namespace L2
open PySem PySem.Spec PyProof.Rows PySem.SeqAt
section
variable {prog : Program} {w : World} {A : Around} {E : Value → Shared → Prop} {s : Shared} {O : KO}
theorem sortedCf {x : Value} {Pv : List Value → Shared → Prop} {Q : Value → Shared → Prop} (hcol : ∀ (R : List Value → Shared → Prop) (E' : Value → Shared → Prop), (∀ vs s1, Pv vs s1 → R vs s1) → wpAny (model prog w) A.in1 (collect x) R E' s)
    (hz : ∀ vs s1, Pv vs s1 → vs.length ≤ sizeLine) (hfew : ∀ vs s1, Pv vs s1 → vs.length < 64) (hS : ∀ vs s1, Pv vs s1 → ∃ O, Sortable prog w s1 O vs ∧
      ∀ us : List Value, us.Perm vs → Ord2 O false us → Q (.ref s1.heap.objs.size) { s1 with heap := sortedHeap (s1.heap.push (seqObj "list" vs.toArray 0)) s1.heap.objs.size vs us.toArray }) : wpAny (model prog w) A (call (.builtin "sorted") [x]) Q E s := by
  refine Calls.call_function_entry kind_sorted plain_sorted entry_sorted (args_sorted1 _) ?_
  unfold Builtin.«sorted»
  refine wpAny_bind (m := checkCount "sorted" 1 1 _) (wpAny_pure (wpAny_bind (hcol _ _ fun vs s1 hp => wpAny_bind (wpAny_newList ?_ (hz vs s1 hp)))))
  obtain ⟨O, hS1, h⟩ := hS vs s1 hp
  obtain ⟨knd, ok, h1, h2, h3⟩ := hS1.ex
  show wpAny _ _ _ _ _ { s1 with heap := s1.heap.push (seqObj "list" vs.toArray 0) }
  have at1 : (s1.heap.push (seqObj "list" vs.toArray 0)).get? s1.heap.objs.size = some (seqObj "list" vs.toArray 0) := Heap.get?_push_size _ rfl
  have up : ∀ h' : Heap, (∀ b o, (s1.heap.push (seqObj "list" vs.toArray 0)).get? b = some o → b ≠ s1.heap.objs.size → h'.get? b = some o) → ∀ b o, s1.heap.get? b = some o → h'.get? b = some o := fun h' k b o q =>
    k b o (Heap.get?_push_of_some _ q) (Nat.ne_of_lt (Heap.lt_size q))
  exact wpAny_bind (wpAny_holding (wpAny_call_entry slot_list_sort ⟨_, at1, rfl⟩ entry_list_sort (sort_few (s := { s1 with heap := s1.heap.push (seqObj "list" vs.toArray 0) }) at1 (hz vs s1 hp) (hfew vs s1 hp) (fun h' k hl2 Q' q => h3 _ _ h' (up h' k) hl2 Q' q) (fun h' k => h2 _ h' (up h' k)) h1 fun us p1 p2 => ⟨_, rfl, wpAny_pure ⟨_, rfl, h us p1 p2⟩⟩) (args_list_sort _)))
end
section
variable {X : Cx}
theorem call_sortIf (hc : X.calm = true) : CallR X (.builtin "sorted") (fun xs H Q => ∃ (v a : Addr) (ps : List (Int × Int)), xs = [.ref v] ∧ H v = some (VwI v a) ∧ Rd H a (dI ps) ∧ ps.length < 64 ∧
    ∀ l qs (ms : List (Int × Int)) H', H l = none → (∀ q ∈ qs, H q = none) → ms.Perm ps → ms.Pairwise (fun p q => lxB [q.1, q.2] [p.1, p.2] = false) → H' l = some (.lst (qs.map V.ref)) → TTs H' qs (ms.map fun q => [q.1, q.2]) → Same H H' → Q (.ref l) H') := by
  intro pins s σ H xs us Q I r h
  obtain ⟨v, a, ps, rfl, hv, hd, hfew, q⟩ := h
  obtain ⟨u, rfl, r1⟩ := vals1 r
  cases r1
  obtain ⟨hz, hsm, vs, rel, dd⟩ := dk_rd I.hok hd
  obtain ⟨ep, da⟩ := dd.dictAt
  have hl : vs.length = ps.length := by rw [← rel.length, List.length_map]
  rw [List.length_map] at hz
  refine sortedCf (Pv := fun us s1 => ∃ h' tk as, us = as.map Value.ref ∧ s1 = { s with heap := h', toks := tk } ∧ (∀ b o, s.heap.get? b = some o → h'.get? b = some o) ∧ as.length = vs.length ∧ PySem.W.KdxG (mixKind X.prog X.w) vs s.heap.objs.size h' as)
    (fun R E' hR => PySem.W.kdx_collect (A := X.A.in1) (I.ok.hd hc) (vwI_at I hv) da (by rw [hl]; exact hz) fun h' tk as hk hn hG => hR _ _ ⟨h', tk, as, rfl, rfl, hk, hn, hG⟩) ?_ ?_ ?_
  · rintro us s1 ⟨h', tk, as, rfl, rfl, hk, hn, hG⟩
    rw [List.length_map, hn, hl]; exact hz
  · rintro us s1 ⟨h', tk, as, rfl, rfl, hk, hn, hG⟩
    rw [List.length_map, hn, hl]; exact hfew
  · rintro us s1 ⟨h', tk, as, rfl, rfl, hk, hn, hG⟩
    -- the pair at an address
    have pr : ∀ (j : Nat) (b : Addr), as[j]? = some b → ∃ m c t t', ps[j]? = some (m, c) ∧ h'.get? b = some { cls := .type "tuple", data := .seq #[.int m t, .int c t'] } := fun j b hj => by
      obtain ⟨key, k, x, e1, e2, e3⟩ := hG.pairs j b hj
      have hj' : j < ps.length := by rw [← hl, ← hn]; exact (List.getElem?_eq_some_iff.mp hj).1
      obtain ⟨⟨m, c⟩, hm⟩ : ∃ q, ps[j]? = some q := ⟨ps[j], List.getElem?_eq_getElem hj'⟩
      obtain ⟨u, hu, ru⟩ := rel.get (i := j) (k := Sum.inl m) (v := V.int c) (by rw [List.getElem?_map, hm]; rfl)
      rw [e1] at hu
      cases hu
      obtain ⟨t, rfl⟩ := is_kV e2
      obtain ⟨t', rfl⟩ := ru
      exact ⟨m, c, t, t', hm, e3⟩
    let pq : Addr → Int × Int := fun b => ((as.zip ps).lookup b).getD (0, 0)
    have pqj : ∀ (j : Nat) (b : Addr) q, as[j]? = some b → ps[j]? = some q → pq b = q := fun j b q h1 h2 => by
      show ((as.zip ps).lookup b).getD (0, 0) = q
      rw [zip_lookup hG.rise h1 h2]; rfl
    let ks : Addr → List Int := fun b => [(pq b).1, (pq b).2]
    have at_ : ∀ b ∈ as, ∃ t t', h'.get? b = some { cls := .type "tuple", data := .seq #[.int (pq b).1 t, .int (pq b).2 t'] } := fun b hb => by
      obtain ⟨j, hj⟩ := List.getElem?_of_mem hb
      obtain ⟨m, c, t, t', e1, e2⟩ := pr j b hj
      exact ⟨t, t', by rw [pqj j b _ hj e1]; exact e2⟩
    have hT : ∀ v ∈ as.map Value.ref, TupI h' ks v := fun v hv => by
      obtain ⟨b, hb, rfl⟩ := List.mem_map.mp hv
      obtain ⟨t, t', e⟩ := at_ b hb
      exact ⟨b, _, _, _, rfl, e, rfl, rfl, .cons _ _ (.cons _ _ .nil), by show [_, _] ≠ []; exact fun z => nomatch z⟩
    refine ⟨KOt ks, sortable_tups (s := { s with heap := h', toks := tk }) hT, fun us p1 p2 => ?_⟩
    obtain ⟨qs, rfl, pm⟩ := refs_back p1
    have I1 : Inv X pins σ (updAll H as fun b => .tup ((ks b).map V.int)) { s with heap := h', toks := tk } := by
      refine I.laidAll hk (fun b hb => Nat.le_of_lt (hG.above b hb)) fun b hb => ?_
      obtain ⟨t, t', e⟩ := at_ b hb
      refine ⟨?_, [.int (pq b).1 t, .int (pq b).2 t'], .cons ⟨_, rfl⟩ (.cons ⟨_, rfl⟩ .nil), ⟨_, e, rfl, rfl, 0, rfl⟩⟩
      show 2 ≤ sizeLine
      decide
    have nas : ∀ b ∈ as, H b = none := fun b hb => I.hok.fresh (Nat.le_of_lt (hG.above b hb))
    obtain ⟨e, he⟩ := sortedHeap_at (h := h'.push (seqObj "list" (as.map Value.ref).toArray 0)) (a := h'.objs.size) (vs := as.map Value.ref) (out := (qs.map Value.ref).toArray) (Heap.get?_push_size _ rfl)
    have keep : ∀ b o, h'.get? b = some o → (sortedHeap (h'.push (seqObj "list" (as.map Value.ref).toArray 0)) h'.objs.size (as.map Value.ref) (qs.map Value.ref).toArray).get? b = some o := fun b o q => by
      rw [sortedHeap_old (Nat.ne_of_lt (Heap.lt_size q)) (by rw [Heap.size_push]; exact Nat.lt_succ_of_lt (Heap.lt_size q))]
      exact Heap.get?_push_of_some _ q
    have fl : updAll H as (fun b => .tup ((ks b).map V.int)) h'.objs.size = none := I1.hok.fresh (Nat.le_refl _)
    have hna : h'.objs.size ∉ as := fun z => by rw [updAll_in z] at fl; cases fl
    have I2 := I1.laid (a := h'.objs.size) (o := .lst (qs.map V.ref)) (t' := tk) keep (Nat.le_refl _) ⟨by rw [List.length_map, pm.length_eq, hn, hl]; exact hz, qs.map Value.ref, e, refs_vals qs, he⟩
    refine ⟨.ref h'.objs.size, _, I2, rfl, q _ qs (qs.map pq) _ ?_ (fun b hb => nas b (pm.mem_iff.mp hb)) ?_ ?_ upd_same ?_ ?_⟩
    · rw [updAll_out hna] at fl; exact fl
    · have e1 : as.map pq = ps := by
        refine List.ext_getElem? fun j => ?_
        rw [List.getElem?_map]
        cases ej : as[j]? with
        | none =>
          have : as.length ≤ j := List.getElem?_eq_none_iff.mp ej
          exact (List.getElem?_eq_none_iff.mpr (by omega)).symm
        | some b =>
          obtain ⟨m, c, t, t', e1, e2⟩ := pr j b ej
          rw [e1]
          show some (pq b) = _
          rw [pqj j b _ ej e1]
      rw [← e1]
      exact pm.map pq
    · simp only [Ord2, Bool.false_eq_true, if_false] at p2
      exact List.pairwise_map.mpr (List.pairwise_map.mp p2)
    · refine ⟨by simp, fun j b xs h1 h2 => ?_⟩
      rw [List.getElem?_map, List.getElem?_map, h1] at h2
      cases h2
      have hb : b ∈ as := pm.mem_iff.mp (List.mem_of_getElem? h1)
      rw [upd_ne (fun z => hna (by rw [← z]; exact hb)), updAll_in hb]
    · intro b o hb
      have nb : b ∉ as := fun z => by rw [nas b z] at hb; cases hb
      have nb2 : b ≠ h'.objs.size := Nat.ne_of_lt (I1.hok.lt (a := b) (o := o) (by rw [updAll_out nb]; exact hb))
      rw [upd_ne nb2, updAll_out nb]
      exact hb
end
end L2

set_option Elab.async false
set_option linter.all false
set_option maxRecDepth 100000
set_option maxHeartbeats 4000000
namespace Fh73
open PySem L2 Lv
section
variable {P : Program} {w : World} {K : PySem.W.Frag} {mg : Str → Option Value} {base : Heap}
theorem scFirstS : FnScope ["p"] ["p"] (defScope sFirstS) := ⟨rfl, rfl, rfl, by decide +kernel, rfl, by decide +kernel, by decide +kernel⟩
theorem ok_firstS {f : Addr} {fd : FuncData} (F : Fun K "first_spreads" "first_spreads" sFirstS f fd) (T : Txt mg) : FnOk P w K mg base CX0 1 f fd ["p"] spFirstS := by
  refine okW F scFirstS (fun vs H Q E h => ?_) (fun cdv A outer s H vs Q E hr h => ?_)
  · obtain ⟨p, rfl, _⟩ := h
    rfl
  · obtain ⟨p, rfl, h1, h2, k⟩ := h
    refine ⟨_, wss_one (ws_ret (we_op op_cat (we_lst (wa_consE rfl (we_disp1 we_int we_int) wa_nil))
      (we (pe_comp (own := ["reel"]) (js := []) (CompOk.bare (by decide +kernel)) rfl (pi_range1 rfl T.range (pa_cons (pe_op op_sub (pv 0) pe_int) pa_nil)) gkeep_name
        (fun _ _ _ _ _ => pg_name (i := 0) (by show (["reel"] : List Str).Nodup; decide +kernel) rfl (Or.inl rfl) (.inr rfl)) (fun _ _ _ _ _ => pts_nil) (fun _ _ _ _ _ => pe_dnewK))))), ?_⟩
    intro d hd
    refine ⟨upd_same, [(Sum.inl 0, .int 1)], rfl, by decide, (by show 1 ≤ sizeLine; decide), fun l hl => ?_⟩
    rw [upd_upd] at hl ⊢
    have r0 : Rep (mergeK [] [(Sum.inl 0, .int 1)]) (cn [0]) := (Rep.nil.put (m := 0) (c := 1) (by decide)).congr fun m => by
      rw [cn_cons, cn_nil]
      split <;> rfl
    generalize mergeK [] [(Sum.inl 0, V.int 1)] = kv at r0 hl ⊢
    have s1 : Same H (upd H d (.dK kv)) := Same.new hd
    have e1 : upd H d (.dK kv) d = some (.dK kv) := upd_same
    generalize upd H d (.dK kv) = H1 at s1 e1 hl ⊢
    have s2 : Same H1 (upd H1 l (.lst [.ref d])) := Same.new hl
    have e2 : upd H1 l (.lst [.ref d]) l = some (.lst [.ref d]) := upd_same
    generalize upd H1 l (.lst [.ref d]) = H2 at s2 e2 ⊢
    refine ⟨_, rfl, _, _, rfl, rfl, (p : Int) - 1, rfl, by omega, by omega, ?_⟩
    have en : ((p : Int) - 1).toNat = p - 1 := by omega
    rw [en]
    refine comp_range (fun acc i H3 => ∃ qs : List Addr, Same H2 H3 ∧ H3 acc = some (.lst (qs.map V.ref)) ∧ DDs H3 qs (List.replicate i [])) (fun acc h0 => ⟨[], Same.new h0, upd_same, DDs.nil⟩) ?_ ?_
    · rintro acc i H3 h0 hi ⟨qs, s3, hacc, hq⟩
      intro q hq0
      have hne : q ≠ acc := fun z => by rw [z, hacc] at hq0; cases hq0
      refine ⟨_, (Same.new hq0) acc _ hacc, small1000 (by have := hq.1; simp at this ⊢; omega), hi, qs ++ [q], ?_, ?_, ?_⟩
      · exact (s3.put (q := q) (s3.free hq0)).put h0
      · rw [upd_same]; simp
      · rw [List.replicate_succ']
        have hq' : DDs (upd (upd H3 q (.dK [])) acc (.lst (qs.map V.ref ++ [V.ref q]))) qs (List.replicate i []) := ⟨hq.1, fun j r xs a b => by
          obtain ⟨kvs, e, rr⟩ := hq.2 j r xs a b
          have n1 : r ≠ q := ne_of_none e hq0
          have n2 : r ≠ acc := ne_of e hacc (fun z => nomatch z)
          exact ⟨kvs, by rw [upd_ne n2, upd_ne n1]; exact e, rr⟩⟩
        exact hq'.snoc (kvs := []) (by rw [upd_ne hne, upd_same]) (Rep.nil.congr fun m => by rw [cn_nil])
    · rintro acc H3 h0 ⟨qs, s3, hacc, hq⟩
      have hql := hq.1
      rw [List.length_replicate] at hql
      refine ⟨l, acc, _, _, rfl, rfl, s3 l _ e2, hacc, ?_, fun r hr => ?_⟩
      · exact Nat.le_of_lt (small1000 (by simp; omega))
      have s4 : Same H3 (upd H3 r (.lst ([V.ref d] ++ qs.map V.ref))) := Same.new hr
      refine k r (d :: qs) _ (s1.free (s2.free (s3.free hr))) (by rw [upd_same]; rfl) ?_ (((s1.trans s2).trans s3).trans s4)
      exact (hq.same s4).cons (s4 _ _ (s3 _ _ (s2 _ _ e1))) r0

theorem b_dict : bootBuiltins "dict" = some (.type "dict") := by decide +kernel
theorem scBothS : FnScope ["one", "other", "both", "number", "many"] ["one", "other"] (defScope sBothS) := ⟨rfl, rfl, rfl, by decide +kernel, rfl, by decide +kernel, by decide +kernel⟩
theorem ok_bothS {f : Addr} {fd : FuncData} (F : Fun K "both_spreads" "both_spreads" sBothS f fd) (T : Txt mg) (Td : mg "dict" = none) : FnOk P w K mg base CX0 1 f fd ["one", "other"] spBothS := by
  refine F.ok scBothS (fun vs H Q E h => ?_) (fun cdv A outer s H vs Q E hr h => ?_)
  · obtain ⟨a, b, k1, k2, f, g, rfl, _⟩ := h
    rfl
  · obtain ⟨a, b, k1, k2, f, g, rfl, ha, hb, r1, r2, f0, g0, fb, gb, k⟩ := h
    have hu := hu_of hr
    refine ⟨_, pss_cons (ps_set (i := 2) scBothS.nd rfl (Or.inl rfl) (pe_callTy call_dictOf rfl Td b_dict (pa_cons (pv 0) pa_nil)))
      (pss_cons (ps_frz (ps_for PassesOwn.never rfl (pi_items (pe_items (pv 1))) (pg_tup rfl (pgs_cons (pg_name (i := 3) scBothS.nd rfl (Or.inl rfl)) (pgs_cons (pg_name (i := 4) scBothS.nd rfl (Or.inl rfl)) pgs_nil)))
        (pss_one (ps_dput hu (pv 2) (pv 3) (pe_op op_add (pe_dget2 hu (pv 2) (pv 3) pe_int ⟨rfl, rfl, rfl, rfl⟩) (pv 4)) rfl))))
      (pss_one (ps_ret (pv 2)))), ?_⟩
    refine ⟨_, rfl, a, k1, rfl, .inl ha, fun d hd => ?_⟩
    have nbd : b ≠ d := ne_of_none hb hd
    refine .inl ⟨b, k2, by rw [upd_ne nbd]; exact hb, fun o => ?_⟩
    refine ⟨_, rfl, b, k2, rfl, .inr ⟨o, upd_same⟩, fun v hv => ⟨v, b, o, k2, rfl, upd_same, by rw [upd_ne (ne_of_none upd_same hv)]; exact upd_same, ?_⟩⟩
    have nvb : v ≠ b := fun z => by rw [z, upd_same] at hv; cases hv
    have hvH : H v = none := by
      have := hv
      rw [upd_ne nvb] at this
      exact (Same.new hd).free this
    have nvd : v ≠ d := fun z => by rw [z, upd_ne (Ne.symm nbd), upd_same] at hv; cases hv
    refine for_items (kvs := k2) (fun i σ H2 => ∃ (kvs : List (Key × V)) (o3 o4 : Option V), σ = [some (.ref a), some (.ref b), some (.ref d), o3, o4] ∧ H2 b = some (.frz o (.dK k2)) ∧ H2 d = some (.dK kvs) ∧ (∀ c u, H c = some u → c ≠ b → H2 c = some u) ∧
      Rep kvs (fun m => f m + tkn g ((k2.take i).map (·.1)) m)) ?_ (fun i σ H2 _ z => by obtain ⟨_, _, _, _, e, _⟩ := z; exact e) ?_ ?_
    · refine ⟨k1, none, none, rfl, ?_, ?_, fun c u hc nc => ?_, r1.congr fun m => ?_⟩
      · rw [upd_ne (Ne.symm nvb), upd_same]
      · rw [upd_ne (Ne.symm nvd), upd_ne (Ne.symm nbd), upd_same]
      · rw [upd_ne (ne_of_none hc hvH), upd_ne nc, upd_ne (ne_of_none hc hd)]; exact hc
      · rw [List.take_zero, List.map_nil, tkn_nil, Int.add_zero]
    · rintro i kk vv p σ H2 hi ⟨kvs, o3, o4, rfl, eb, ed, sm, rr⟩ hp
      obtain ⟨m, rfl, rfl, hz⟩ := r2.at (List.mem_of_getElem? hi)
      have npd : d ≠ p := ne_of_none ed hp
      have hnot := key_new r2.2.1 hi
      refine ⟨p, _, rfl, SqT.of upd_same, rfl, _, _, rfl, _, _, rfl, rfl, ?_⟩
      refine ⟨_, rfl, d, rfl, .inl ⟨kvs, .inl (by rw [upd_ne npd]; exact ed)⟩, _, rfl, _, DGet.k (k := Sum.inl m) (by rw [upd_ne npd]; exact ed), _, rfl, ?_⟩
      rw [rr.get m, tkn_out hnot, Int.add_zero]
      refine ⟨_, _, rfl, rfl, _, rfl, _, rfl, d, _, rfl, DPut.k (k := Sum.inl m) (by rw [upd_ne npd]; exact ed) ?_, ?_⟩
      · have := rr.len (B := 400) fun j hj => by
          by_cases e : f j = 0
          · exact gb j fun z => hj (by rw [e, tkn_zero z]; rfl)
          · exact fb j e
        exact small1000 (by omega)
      · refine ⟨_, _, _, rfl, ?_, upd_same, fun c u hc nc => ?_, (rr.put (m := m) (c := f m + g m) ?_).congr fun j => ?_⟩
        · rw [upd_ne nbd, upd_ne (ne_of_none eb hp)]; exact eb
        · rw [upd_ne (ne_of_none hc hd), upd_ne (ne_of_none (sm c u hc nc) hp)]; exact sm c u hc nc
        · have := f0 m; have := g0 m; omega
        · rw [keys_take hi, tkn_snoc hnot]
          by_cases e : j = m
          · rw [if_pos e, if_pos e, e]
          · rw [if_neg e, if_neg e]
    · rintro σ H2 ⟨kvs, o3, o4, rfl, eb, ed, sm, rr⟩
      refine ⟨eb, _, rfl, ?_⟩
      refine k d kvs _ hd (by rw [upd_ne (Ne.symm nbd)]; exact ed) (rr.congr fun m => ?_) fun c u hc => ?_
      · rw [List.take_length, tkn_all r2]
      · by_cases e : c = b
        · subst e; rw [upd_same, ← hb, hc]
        · rw [upd_ne e]; exact sm c u hc e

theorem scNextS : FnScope ["spreads", "first"] ["spreads"] (defScope sNextS) := ⟨rfl, rfl, rfl, by decide +kernel, rfl, by decide +kernel, by decide +kernel⟩
theorem cutT {r0 : Addr} {rr : List Addr} : cutV ((r0 :: rr).map V.ref) (some 1) none = rr.map V.ref := by
  unfold cutV
  show (((r0 :: rr).map V.ref).drop (HT.sIx ((r0 :: rr).map V.ref).length 0 (some ((1 : Nat) : Int)))).take (HT.sIx ((r0 :: rr).map V.ref).length ((r0 :: rr).map V.ref).length none - HT.sIx ((r0 :: rr).map V.ref).length 0 (some ((1 : Nat) : Int))) = _
  rw [HT.sIx_nat]
  rw [show min 1 ((r0 :: rr).map V.ref).length = 1 by simp]
  show (rr.map V.ref).take (((r0 :: rr).map V.ref).length - 1) = _
  rw [List.take_of_length_le (by simp)]
theorem ok_nextS {f f1 : Addr} {fd d1 : FuncData} (F : Fun K "next_spreads" "next_spreads" sNextS f fd) (T : Txt mg) (CB : Cal P w K mg base 1 "both_spreads" ["one", "other"] spBothS f1 d1) : FnOk P w K mg base CX0 2 f fd ["spreads"] (spNextS nextN) := by
  refine okW F scNextS (fun vs H Q E h => ?_) (fun cdv A outer s H vs Q E hr h => ?_)
  · obtain ⟨a, rs, N, rfl, _⟩ := h
    rfl
  · obtain ⟨a, rs, N, rfl, hA, hD, hN, hN7, hB, k⟩ := h
    refine ⟨_, wss_cons (ws_set (i := 1) scNextS.nd rfl (Or.inr rfl) (we_frz (we (pe_dcomp (own := ["number", "many"]) (js := []) (CompOk.bare (by decide +kernel)) rfl (pi_items (pe_items (pe_ix ix_list (pv 0) pe_int (fun _ _ => rfl)))) (gkeep_two (i := 0) (k := 1) (K := K))
        (fun _ _ _ _ _ => pgK_tup K rfl (pgs_cons (pg_name (i := 0) (by show (["number", "many"] : List Str).Nodup; decide +kernel) rfl (Or.inl rfl) (.inr rfl)) (pgs_cons (pg_name (i := 1) (by show (["number", "many"] : List Str).Nodup; decide +kernel) rfl (Or.inl rfl) (.inr rfl)) pgs_nil))) (fun _ _ _ _ _ => pts_nil)
        (fun _ _ _ _ _ => pe_op op_add (pv 0) pe_int) (fun _ _ _ _ _ => pv 1)))))
      (wss_one (ws_ret (we_op op_cat (we (pe_comp (own := ["spread"]) (js := [1]) (CompOk.by (sc := defScope sNextS) (N := ["spreads", "first"]) rfl rfl (by decide +kernel)) rfl (pi_list (pe_slice sl_list (pv 0) (po_some pe_int) po_none)) gkeep_name
        (fun _ _ _ _ _ => pg_name (i := 0) (by show (["spread", "first"] : List Str).Nodup; decide +kernel) rfl (Or.inl rfl) (.inr rfl)) (fun _ _ _ _ _ => pts_nil) (fun _ _ _ _ _ => pe_cal CB hr rfl (pa_cons (pv 1) (pa_cons (pv 0) pa_nil)))))
        (we_lst (wa_consE rfl (we (pv 1)) wa_nil))))), ?_⟩
    obtain ⟨x0, Nr, rfl⟩ : ∃ x0 Nr, N = x0 :: Nr := by
      cases N with
      | nil => simp at hN
      | cons x y => exact ⟨x, y, rfl⟩
    obtain ⟨r0, rr, rfl⟩ : ∃ r0 rr, rs = r0 :: rr := by
      cases rs with
      | nil => have := hD.1; simp at this
      | cons x y => exact ⟨x, y, rfl⟩
    obtain ⟨k0, hr0, rp0⟩ := hD.2 0 r0 x0 rfl rfl
    have nar : a ≠ r0 := ne_of hA hr0 (fun z => nomatch z)
    refine .inl ⟨r0, k0, hr0, fun o => ?_⟩
    refine ⟨_, rfl, a, _, 0, .ref r0, rfl, rfl, SqL.of (by rw [upd_ne nar]; exact hA), atI_nat (j := 0) rfl, r0, k0, rfl, .inr ⟨o, upd_same⟩, fun v hv => ⟨v, r0, o, k0, rfl, upd_same, by rw [upd_ne (ne_of_none upd_same hv)]; exact upd_same, ?_⟩⟩
    have nvr : v ≠ r0 := fun z => by rw [z, upd_same] at hv; cases hv
    have hvH : H v = none := by rw [upd_ne nvr] at hv; exact hv
    have hnn : ∀ acc, upd (upd H r0 (.frz o (.dK k0))) v (VwI v r0) acc = none → acc ≠ r0 ∧ H acc = none := fun acc z => by
      have n1 : acc ≠ v := fun y => by rw [y, upd_same] at z; cases z
      rw [upd_ne n1] at z
      have n2 : acc ≠ r0 := fun y => by rw [y, upd_same] at z; cases z
      rw [upd_ne n2] at z
      exact ⟨n2, z⟩
    refine dcomp_items (kvs := k0) (fun acc i H2 => ∃ kvs : List (Key × V), H2 acc = some (.dK kvs) ∧ H2 r0 = some (.frz o (.dK k0)) ∧ (∀ c u, H c = some u → c ≠ r0 → H2 c = some u) ∧ Rep kvs (fun m => tkn (cn x0) ((k0.take i).map (·.1)) (m - 1))) ?_ (fun acc i H2 h0 _ z => by obtain ⟨_, _, e, _⟩ := z; exact e) ?_ ?_
    · intro acc h0
      obtain ⟨n2, hacc⟩ := hnn acc h0
      refine ⟨[], upd_same, ?_, fun c u hc nc => ?_, Rep.nil.congr fun m => ?_⟩
      · rw [upd_ne (Ne.symm n2), upd_ne (Ne.symm nvr), upd_same]
      · rw [upd_ne (ne_of_none hc hacc), upd_ne (ne_of_none hc hvH), upd_ne nc]; exact hc
      · rw [List.take_zero, List.map_nil, tkn_nil]
    · rintro acc i kk vv p H2 h0 hi ⟨kvs, ea, er, sm, rp⟩ hp
      obtain ⟨n2, hacc⟩ := hnn acc h0
      obtain ⟨m, rfl, rfl, hz⟩ := rp0.at (List.mem_of_getElem? hi)
      have hi' := (List.getElem?_eq_some_iff.mp hi).1
      have hnot := key_new rp0.2.1 hi
      refine ⟨p, _, rfl, SqT.of upd_same, rfl, _, _, rfl, _, _, rfl, rfl, ?_⟩
      refine ⟨_, rfl, _, _, rfl, rfl, _, rfl, Sum.inl (m + 1), kvs, rfl, by rw [upd_ne (ne_of_none ea hp)]; exact ea, ?_, hi', _, upd_same, ?_, fun c u hc nc => ?_, (rp.put (m := m + 1) (c := cn x0 m) hz).congr fun j => ?_⟩
      · have := rp.len (B := 400) fun j hj => by
          have h1 : cn x0 (j - 1) ≠ 0 := fun z => hj (tkn_zero z)
          have := hB x0 List.mem_cons_self _ (cn_ne.mp h1)
          omega
        exact small1000 (by omega)
      · rw [upd_ne (Ne.symm n2), upd_ne (ne_of_none er hp)]; exact er
      · rw [upd_ne (ne_of_none hc hacc), upd_ne (ne_of_none (sm c u hc nc) hp)]; exact sm c u hc nc
      · rw [keys_take hi, tkn_snoc hnot]
        by_cases e : j = m + 1
        · rw [if_pos e, if_pos (by omega)]
        · rw [if_neg e, if_neg (by omega)]
    · rintro acc H2 h0 ⟨k1, ea, er, sm, rp⟩
      obtain ⟨n2, hacc⟩ := hnn acc h0
      have rp1 : Rep k1 (cn (fstN (x0 :: Nr))) := rp.congr fun m => by
        rw [List.take_length, tkn_all rp0, fstN, List.headD_cons, cn_shift]
      refine ⟨er, ?_⟩
      have s1 : Same H (upd H2 r0 (.dK k0)) := fun c u hc => by
        by_cases e : c = r0
        · subst e; rw [upd_same, ← hr0, hc]
        · rw [upd_ne e]; exact sm c u hc e
      have e1 : upd H2 r0 (.dK k0) acc = some (.dK k1) := by rw [upd_ne n2]; exact ea
      generalize upd H2 r0 (.dK k0) = H3 at s1 e1 ⊢
      have hD3 := (hD.same s1).tail
      refine ⟨_, rfl, 1, rfl, a, _, rfl, SqL.of (s1 a _ hA), fun p1 hp1 => ⟨p1, rfl, ⟨_, SqL.of upd_same⟩, ?_⟩⟩
      rw [cutT]
      have s2 : Same H3 (upd H3 p1 (.lst (rr.map V.ref))) := Same.new hp1
      have e2 : upd H3 p1 (.lst (rr.map V.ref)) p1 = some (.lst (rr.map V.ref)) := upd_same
      generalize upd H3 p1 (.lst (rr.map V.ref)) = H4 at s2 e2 ⊢
      have hrl := hD3.1
      have hNr : Nr.length ≤ 6 := by simpa using hN7
      refine comp_list (xs := rr.map V.ref) (fun acc2 i H5 => ∃ qs : List Addr, Same H4 H5 ∧ H5 acc2 = some (.lst (qs.map V.ref)) ∧ (∀ q ∈ qs, q ≠ acc2) ∧ DDs H5 qs ((Nr.take i).map (fstN (x0 :: Nr) ++ ·))) (fun acc2 h2 => ⟨[], Same.new h2, upd_same, (fun q hq => nomatch hq), DDs.nil⟩) (fun acc2 i H5 h2 _ z => by obtain ⟨_, sz, _⟩ := z; exact SqL.of (sz _ _ e2)) ?_ ?_
      · rintro acc2 i x H5 h2 hx ⟨qs, s5, e5, ne5, hq5⟩
        obtain ⟨r, hr', rfl⟩ := map_ref_get hx
        have hi := (List.getElem?_eq_some_iff.mp hr').1
        obtain ⟨xs, k2, hxs, hk2, rp2⟩ := (hD3.same (s2.trans s5)).at hr'
        refine ⟨_, rfl, _, rfl, acc, r, k1, k2, cn (fstN (x0 :: Nr)), cn xs, rfl, s5 _ _ (s2 _ _ e1), hk2, rp1, rp2, cn_pos _, cn_pos _, fun m hm => ?_, fun m hm => ?_, fun l kvs H6 hl6 e6 rp6 s6 => ?_⟩
        · rw [fstN, List.headD_cons, cn_shift] at hm
          have := hB x0 List.mem_cons_self _ (cn_ne.mp hm)
          omega
        · have := hB xs (List.mem_cons_of_mem _ (List.mem_of_getElem? hxs)) _ (cn_ne.mp hm)
          omega
        · have nla : l ≠ acc2 := fun z => by rw [z, e5] at hl6; cases hl6
          refine ⟨_, s6 _ _ e5, small1000 (by have := hq5.1; simp at this ⊢; omega), by rw [List.length_map]; exact hi, qs ++ [l], (s5.trans s6).put h2, by rw [upd_same]; simp, fun q hq => ?_, ?_⟩
          · rcases List.mem_append.mp hq with z | z
            · exact ne5 q z
            · rw [List.mem_singleton.mp z]; exact nla
          · rw [List.take_add_one, hxs]
            have hq6 : DDs (upd H6 acc2 (.lst (qs.map V.ref ++ [V.ref l]))) qs ((Nr.take i).map (fstN (x0 :: Nr) ++ ·)) := ⟨hq5.1, fun j q ys a b => by
              obtain ⟨kv, e, rr⟩ := hq5.2 j q ys a b
              exact ⟨kv, by rw [upd_ne (ne5 q (List.mem_of_getElem? a))]; exact s6 _ _ e, rr⟩⟩
            rw [List.map_append]
            exact hq6.snoc (by rw [upd_ne nla]; exact e6) (rp6.congr fun m => by rw [cn_app])
      · rintro acc2 H5 h2 ⟨qs, s5, e5, ne5, hq5⟩
        have e5a := s5 _ _ (s2 _ _ e1)
        have ql := hq5.1
        rw [List.length_map, List.length_map, hrl, List.take_length] at ql
        refine ⟨_, rfl, (by show 1 ≤ sizeLine; decide), fun p2 hp2 => ?_⟩
        have s6 : Same H5 (upd H5 p2 (.lst [V.ref acc])) := Same.new hp2
        refine ⟨acc2, p2, _, _, rfl, rfl, s6 _ _ e5, upd_same, ?_, fun p3 hp3 => ?_⟩
        · exact Nat.le_of_lt (small1000 (by simp; omega))
        have s7 := s6.trans (Same.new (o := .lst (qs.map V.ref ++ [V.ref acc])) hp3)
        have sAll := ((s1.trans s2).trans s5).trans s7
        refine k p3 (qs ++ [acc]) _ (((s1.trans s2).trans s5).trans s6 |>.free hp3) (by rw [upd_same]; simp) ?_ sAll
        rw [List.length_map, hrl, List.take_length] at hq5
        exact (hq5.same s7).snoc (s7 _ _ e5a) rp1

theorem nd_few : ∀ (B : Nat) (L : List Int), L.Nodup → (∀ x ∈ L, 0 ≤ x ∧ x < (B : Int)) → L.length ≤ B
  | 0, L, _, h => by
    cases L with
    | nil => exact Nat.le_refl _
    | cons x L => have := h x List.mem_cons_self; omega
  | B + 1, L, nd, h => by
    by_cases hm : (B : Int) ∈ L
    · have h1 := nd_few B (L.erase B) (nd.erase _) fun x hx => by
        have h2 := h x (List.mem_of_mem_erase hx)
        have h3 : x ≠ B := fun e => (List.Nodup.mem_erase_iff nd).mp (e ▸ hx) |>.1 rfl
        omega
      rw [List.length_erase_of_mem hm] at h1
      omega
    · have := nd_few B L nd fun x hx => by
        have h2 := h x hx
        have h3 : x ≠ B := fun e => hm (e ▸ hx)
        omega
      omega
def spOverF : Sp := fun vs H Q _ => ∃ (a : Addr) (rs : List Addr) (N : List (List Int)), vs = [.ref a] ∧ H a = some (.lst (rs.map V.ref)) ∧ DDs H rs N ∧ N.length ≤ 7 ∧ Bd 60 N ∧ ∀ l qs L H', H l = none → H' l = some (.tup (qs.map V.ref)) → TTs H' qs (L.map pr2) → SprL L (cn N.flatten) → Same H H' → Q (.ref l) H'
theorem scOverS : FnScope ["spreads", "spread", "on_reel"] ["spreads"] (defScope sOverS) := ⟨rfl, rfl, rfl, by decide +kernel, rfl, by decide +kernel, by decide +kernel⟩
theorem ok_overS {f f1 : Addr} {fd d1 : FuncData} (F : Fun K "spread_over" "spread_over" sOverS f fd) (T : Txt mg) (CB : Cal P w K mg base 1 "both_spreads" ["one", "other"] spBothS f1 d1) : FnOk P w K mg base CX0 2 f fd ["spreads"] spOverF := by
  refine okW F scOverS (fun vs H Q E h => ?_) (fun cdv A outer s H vs Q E hr h => ?_)
  · obtain ⟨a, rs, N, rfl, _⟩ := h
    rfl
  · obtain ⟨a, rs, N, rfl, hA, hD, hN7, hBF, k⟩ := h
    have hB : Bd 400 N := hBF.mono (by decide)
    refine ⟨_, wss_cons (ws_set (i := 1) scOverS.nd rfl (Or.inl rfl) (we pe_dnewK))
      (wss_cons (ws (ps_for PassesOwn.never rfl (pi_list (pv 0)) (pg_name (i := 2) scOverS.nd rfl (Or.inl rfl)) (pss_one (ps_set (i := 1) scOverS.nd rfl (Or.inl rfl) (pe_cal CB hr rfl (pa_cons (pv 1) (pa_cons (pv 2) pa_nil)))))))
      (wss_one (ws_ret (we (pe_callTy call_tuple_of rfl T.tuple b_tuple (pa_cons (pe_callB (call_sortIf rfl) rfl T.sorted b_sorted (pa_cons (pe_items (pv 1)) pa_nil)) pa_nil)))))), ?_⟩
    intro d hd
    have s1 : Same H (upd H d (.dK [])) := Same.new hd
    have e1 : upd H d (.dK []) d = some (.dK []) := upd_same
    generalize upd H d (.dK []) = H1 at s1 e1 ⊢
    refine ⟨_, rfl, a, rfl, ⟨_, SqL.of (s1 _ _ hA)⟩, for_list (xs := rs.map V.ref) (fun i σ H2 => ∃ (d : Addr) (kvs : List (Key × V)) (o2 : Option V), σ = [some (.ref a), some (.ref d), o2] ∧ H2 d = some (.dK kvs) ∧ Rep kvs (cn (N.take i).flatten) ∧ Same H H2)
      ⟨d, [], none, rfl, e1, Rep.nil.congr fun m => by rw [List.take_zero, List.flatten_nil, cn_nil], s1⟩ (fun i σ H2 _ z => by obtain ⟨_, _, _, _, _, _, sz⟩ := z; exact SqL.of (sz _ _ hA)) ?_ ?_⟩
    · rintro i x σ H2 hx ⟨d, kvs, o2, rfl, e2, rp, s2⟩
      obtain ⟨r, hr', rfl⟩ := map_ref_get hx
      obtain ⟨xs, k2, hxs, hk2, rp2⟩ := (hD.same s2).at hr'
      refine ⟨_, rfl, _, rfl, d, r, kvs, k2, _, _, rfl, e2, hk2, rp, rp2, cn_pos _, cn_pos _, ?_, ?_, fun l kv H6 hl6 e6 rp6 s6 => ?_⟩
      · exact fun m hm => bd_flat (N := N.take i) (fun ys hy => hB ys (List.mem_of_mem_take hy)) m hm
      · exact fun m hm => hB xs (List.mem_of_getElem? hxs) m (cn_ne.mp hm)
      · refine ⟨l, kv, _, rfl, e6, rp6.congr fun m => ?_, s2.trans s6⟩
        rw [List.take_add_one, hxs, List.flatten_append, cn_app]
        simp
    · rintro σ H2 ⟨d, kvs, o2, rfl, e2, rp, s2⟩
      rw [List.length_map, hD.1, List.take_length] at rp
      refine ⟨_, rfl, d, kvs, rfl, .inl e2, fun v hv => ⟨v, d, kvs.map Lv.dec, rfl, upd_same, .inl ?_, ?_, fun l qs ms H3 hl hq hp hs e3 ht s3 => ?_⟩⟩
      · rw [upd_ne (ne_of_none e2 hv), e2]
        exact congrArg (fun z => some (HO.dK z)) rp.dec
      · have hn := nd_few 61 ((kvs.map Lv.dec).map (·.1)) rp.nd fun x hx => by
          obtain ⟨y, hy, rfl⟩ := List.mem_map.mp hx
          have h1 := (rp.mem y.1 y.2).mp hy
          obtain ⟨xs, h2, h3⟩ := List.mem_flatten.mp (cn_ne.mp (by rw [← h1.1]; exact h1.2))
          have := hBF xs h2 y.1 h3
          omega
        rw [List.length_map, List.length_map] at hn
        rw [List.length_map]
        omega
      · have s4 : Same H2 H3 := (Same.new hv).trans s3
        refine ⟨l, _, rfl, .inl ⟨SqL.of e3, fun l2 hl2 => ?_⟩⟩
        have s5 := s4.trans (Same.new (o := .tup (qs.map V.ref)) hl2)
        refine k l2 qs ms _ (s2.free (s4.free hl2)) upd_same (TTs.same ht (Same.new hl2)) (spr_of rp hp hs) (s2.trans s5)

theorem scNextKS : FnScope ["spreads", "read", "reels", "spread"] ["spreads"] (defScope sNextKS) := ⟨rfl, rfl, rfl, by decide +kernel, rfl, by decide +kernel, by decide +kernel⟩
theorem ok_nextKS {f f1 : Addr} {fd d1 : FuncData} (F : Fun K "next_cascade_spreads" "next_cascade_spreads" sNextKS f fd) (T : Txt mg) (CB : Cal P w K mg base 1 "both_spreads" ["one", "other"] spBothS f1 d1) : FnOk P w K mg base CX0 2 f fd ["spreads"] (spNextS nextKN) := by
  refine okW F scNextKS (fun vs H Q E h => ?_) (fun cdv A outer s H vs Q E hr h => ?_)
  · obtain ⟨a, rs, N, rfl, _⟩ := h
    rfl
  · obtain ⟨a, rs, N, rfl, hA, hD, hN, hN7, hB, k⟩ := h
    refine ⟨_, wss_cons (ws_set (i := 1) scNextKS.nd rfl (Or.inl rfl) (we pe_dnewK))
      (wss_cons (ws_set (i := 2) scNextKS.nd rfl (Or.inl rfl) (we (pe_lst pa_nil)))
      (wss_cons (ws (ps_for PassesOwn.never rfl (pi_list (pe_slice sl_list (pv 0) po_none (po_some (pe_un un_neg pe_int)))) (pg_name (i := 3) scNextKS.nd rfl (Or.inl rfl))
        (WSs.out (wss_cons (ws_set (i := 1) scNextKS.nd rfl (Or.inl rfl) (we (pe_cal CB hr rfl (pa_cons (pv 1) (pa_cons (pe_frz (pe_dcomp (own := ["number", "many"]) (js := []) (CompOk.bare (by decide +kernel)) rfl (pi_items (pe_items (pv 3))) (gkeep_two (i := 0) (k := 1) (K := K))
            (fun _ _ _ _ _ => pgK_tup K rfl (pgs_cons (pg_name (i := 0) (by show (["number", "many"] : List Str).Nodup; decide +kernel) rfl (Or.inl rfl) (.inr rfl)) (pgs_cons (pg_name (i := 1) (by show (["number", "many"] : List Str).Nodup; decide +kernel) rfl (Or.inl rfl) (.inr rfl)) pgs_nil))) (fun _ _ _ _ _ => pts_nil)
            (fun _ _ _ _ _ => pe_op op_add (pv 0) pe_int) (fun _ _ _ _ _ => pv 1))) pa_nil)))))
          (wss_one (ws (ps_expr (pe_bm PySem.F.plainAttrs_list PySem.F.slot_list_append PySem.F.type_list_append mt_append (pv 2) (pa_cons (pv 1) pa_nil)))))))))
      (wss_one (ws_ret (we_op op_cat (we_lst (wa_consE rfl (we (pe_cal CB hr rfl (pa_cons (pv 1) (pa_cons (pe_ix ix_list (pv 0) (pe_un un_neg pe_int) (fun _ _ => rfl)) pa_nil)))) wa_nil)) (we (pe_rev (pv 2) (po_some (pe_un un_neg pe_int))))))))), ?_⟩
    obtain ⟨I, Z, rfl⟩ : ∃ I Z, N = I ++ [Z] := by
      have hne : N ≠ [] := by rintro rfl; simp at hN
      exact ⟨N.dropLast, N.getLast hne, (List.dropLast_concat_getLast hne).symm⟩
    obtain ⟨rs', z, rfl⟩ : ∃ rs' z, rs = rs' ++ [z] := by
      have hne : rs ≠ [] := by rintro rfl; have := hD.1; simp at this
      exact ⟨rs.dropLast, rs.getLast hne, (List.dropLast_concat_getLast hne).symm⟩
    have hrl : rs'.length = I.length := by have := hD.1; simpa using this
    have hIl : I.length ≤ 6 := by simp at hN7; omega
    have hD' : DDs H rs' I := ⟨hrl, fun j r xs a b => hD.2 j r xs (by rw [List.getElem?_append_left (List.getElem?_eq_some_iff.mp a).1]; exact a) (by rw [List.getElem?_append_left (List.getElem?_eq_some_iff.mp b).1]; exact b)⟩
    obtain ⟨kz, hz, rpz⟩ := hD.2 I.length z Z (by rw [← hrl]; simp) (by simp)
    have bup : ∀ i m, cn (finN (I.take i)) m ≠ 0 → 0 ≤ m ∧ m ≤ 400 := fun i m hm => by
      have hm := cn_ne.mp hm
      unfold finN at hm
      obtain ⟨ys, hy, hm⟩ := List.mem_flatten.mp hm
      obtain ⟨xs, hx, rfl⟩ := List.mem_map.mp hy
      obtain ⟨x, hx2, rfl⟩ := List.mem_map.mp hm
      have := hB xs (List.mem_append_left _ (List.mem_of_mem_take hx)) x hx2
      omega
    intro d0 hd0
    refine ⟨Nat.zero_le _, fun rl e1 => ?_⟩
    have s1 := (Same.new (o := .dK []) hd0).trans (Same.new (o := .lst []) e1)
    have hrlH : H rl = none := (Same.new (o := .dK []) hd0).free e1
    have ed0 : (upd (upd H d0 (.dK [])) rl (.lst [])) d0 = some (.dK []) := (Same.new e1) d0 _ upd_same
    have hrl1 : (upd (upd H d0 (.dK [])) rl (.lst [])) rl = some (.lst []) := upd_same
    generalize (upd (upd H d0 (.dK [])) rl (.lst [])) = H1 at s1 ed0 hrl1 ⊢
    refine ⟨_, rfl, 1, rfl, -1, rfl, a, _, rfl, SqL.of (s1 a _ hA), fun p1 e2 => ⟨p1, rfl, ⟨_, SqL.of upd_same⟩, ?_⟩⟩
    have ec : cutV ((rs' ++ [z]).map V.ref) none (some (-1)) = rs'.map V.ref := by
      rw [List.map_append]
      exact cut_lastK _ _
    rw [ec]
    have s2 := s1.trans (Same.new (o := .lst (rs'.map V.ref)) e2)
    have hp1 : (upd H1 p1 (.lst (rs'.map V.ref))) p1 = some (.lst (rs'.map V.ref)) := upd_same
    have ed2 := (Same.new (o := .lst (rs'.map V.ref)) e2) d0 _ ed0
    have hrl2 := (Same.new (o := .lst (rs'.map V.ref)) e2) rl _ hrl1
    have nprl : p1 ≠ rl := Ne.symm (ne_of_none hrl1 e2)
    generalize (upd H1 p1 (.lst (rs'.map V.ref))) = H2 at s2 hp1 ed2 hrl2 ⊢
    refine for_list (xs := rs'.map V.ref) (fun i σ H3 => ∃ (rd : Addr) (kr : List (Key × V)) (qs : List Addr) (o : Option V), σ = [some (.ref a), some (.ref rd), some (.ref rl), o] ∧ H3 rd = some (.dK kr) ∧ Rep kr (cn (finN (I.take i))) ∧ H3 rl = some (.lst (qs.map V.ref)) ∧ DDs H3 qs (goN [] (I.take i)) ∧ H3 p1 = some (.lst (rs'.map V.ref)) ∧ Same H H3)
      ⟨d0, [], [], none, rfl, ed2, Rep.nil.congr fun m => by rw [List.take_zero]; exact (cn_nil m).symm, hrl2, DDs.nil, hp1, s2⟩ (fun i σ H3 _ ⟨_, _, _, _, _, _, _, _, _, h, _⟩ => SqL.of h) ?_ ?_
    · rintro i x σ H3 hx ⟨rd, kr, qs, o, rfl, hrd, rpr, hrl3, hq3, hp3, s3⟩
      obtain ⟨q, hq, rfl⟩ := map_ref_get hx
      have hi : i < I.length := by have := (List.getElem?_eq_some_iff.mp hq).1; omega
      obtain ⟨xs, kx, hxs, hqx, rpx⟩ := (hD'.same s3).at hq
      refine ⟨_, rfl, ?_⟩
      refine .inl ⟨q, kx, hqx, fun ob => ?_⟩
      refine ⟨_, rfl, q, kx, rfl, .inr ⟨ob, upd_same⟩, fun v hv => ⟨v, q, ob, kx, rfl, upd_same, by rw [upd_ne (ne_of_none upd_same hv)]; exact upd_same, ?_⟩⟩
      have nvr : v ≠ q := fun z => by rw [z, upd_same] at hv; cases hv
      have hvH : H3 v = none := by rw [upd_ne nvr] at hv; exact hv
      have hnn : ∀ acc, upd (upd H3 q (.frz ob (.dK kx))) v (VwI v q) acc = none → acc ≠ q ∧ H3 acc = none := fun acc z => by
        have n1 : acc ≠ v := fun y => by rw [y, upd_same] at z; cases z
        rw [upd_ne n1] at z
        have n2 : acc ≠ q := fun y => by rw [y, upd_same] at z; cases z
        rw [upd_ne n2] at z
        exact ⟨n2, z⟩
      have hbx : ∀ m, m ∈ xs → 0 ≤ m ∧ m ≤ 399 := fun m hm => hB xs (List.mem_append_left _ (List.mem_of_getElem? hxs)) m hm
      refine dcomp_items (kvs := kx) (fun acc i H2 => ∃ kvs : List (Key × V), H2 acc = some (.dK kvs) ∧ H2 q = some (.frz ob (.dK kx)) ∧ (∀ c u, H3 c = some u → c ≠ q → H2 c = some u) ∧ Rep kvs (fun m => tkn (cn xs) ((kx.take i).map (·.1)) (m - 1))) ?_ (fun acc i H2 h0 _ z => by obtain ⟨_, _, e, _⟩ := z; exact e) ?_ ?_
      · intro acc h0
        obtain ⟨n2, hacc⟩ := hnn acc h0
        refine ⟨[], upd_same, ?_, fun c u hc nc => ?_, Rep.nil.congr fun m => ?_⟩
        · rw [upd_ne (Ne.symm n2), upd_ne (Ne.symm nvr), upd_same]
        · rw [upd_ne (ne_of_none hc hacc), upd_ne (ne_of_none hc hvH), upd_ne nc]; exact hc
        · rw [List.take_zero, List.map_nil, tkn_nil]
      · rintro acc t kk vv p H4 h0 ht ⟨kvs, ea, er, sm, rp⟩ hp
        obtain ⟨n2, hacc⟩ := hnn acc h0
        obtain ⟨m, rfl, rfl, hz⟩ := rpx.at (List.mem_of_getElem? ht)
        have ht' := (List.getElem?_eq_some_iff.mp ht).1
        have hnot := key_new rpx.2.1 ht
        refine ⟨p, _, rfl, SqT.of upd_same, rfl, _, _, rfl, _, _, rfl, rfl, ?_⟩
        refine ⟨_, rfl, _, _, rfl, rfl, _, rfl, Sum.inl (m + 1), kvs, rfl, by rw [upd_ne (ne_of_none ea hp)]; exact ea, ?_, ht', _, upd_same, ?_, fun c u hc nc => ?_, (rp.put (m := m + 1) (c := cn xs m) hz).congr fun j => ?_⟩
        · have := rp.len (B := 400) fun j hj => by
            have h1 : cn xs (j - 1) ≠ 0 := fun z => hj (tkn_zero z)
            have := hbx _ (cn_ne.mp h1)
            omega
          exact small1000 (by omega)
        · rw [upd_ne (Ne.symm n2), upd_ne (ne_of_none er hp)]; exact er
        · rw [upd_ne (ne_of_none hc hacc), upd_ne (ne_of_none (sm c u hc nc) hp)]; exact sm c u hc nc
        · rw [keys_take ht, tkn_snoc hnot]
          by_cases e : j = m + 1
          · rw [if_pos e, if_pos (by omega)]
          · rw [if_neg e, if_neg (by omega)]
      · rintro acc H4 h0 ⟨k1, ea, er, sm, rp⟩
        obtain ⟨n2, hacc⟩ := hnn acc h0
        have rp1 : Rep k1 (cn (up1 xs)) := rp.congr fun m => by
          rw [List.take_length, tkn_all rpx]
          exact (cn_shift xs m).symm
        refine ⟨er, ?_⟩
        have s4 : Same H3 (upd H4 q (.dK kx)) := fun c u hc => by
          by_cases e : c = q
          · subst e; rw [upd_same, ← hqx, hc]
          · rw [upd_ne e]; exact sm c u hc e
        have e4 : upd H4 q (.dK kx) acc = some (.dK k1) := by rw [upd_ne n2]; exact ea
        generalize upd H4 q (.dK kx) = H5 at s4 e4 ⊢
        refine ⟨rd, acc, kr, k1, _, _, rfl, s4 _ _ hrd, e4, rpr, rp1, cn_pos _, cn_pos _, bup i, fun m hm => ?_, fun r kv H6 hr0 hr6 rp6 s6 => ?_⟩
        · obtain ⟨x, hx2, rfl⟩ := List.mem_map.mp (cn_ne.mp hm)
          have := hbx x hx2
          omega
        have s36 := s4.trans s6
        have hrl6 := s36 rl _ hrl3
        refine ⟨_, rfl, .inl ⟨rfl, _, SqL.of hrl6⟩, _, rfl, rl, _, _, rfl, rfl, hrl6, ?_, ?_⟩
        · have := hq3.1
          rw [goN_len, List.length_take] at this
          exact small1000 (by rw [List.length_map]; omega)
        have hrne : r ≠ rl := by intro zz; subst zz; rw [hrl6] at hr6; cases hr6
        have exs : xs = I[i] := by rw [List.getElem?_eq_getElem hi] at hxs; exact (Option.some.inj hxs).symm
        have rp7 : Rep kv (cn (finN (I.take (i + 1)))) := rp6.congr fun m => by
          rw [List.take_succ_eq_append_getElem hi, finN_snoc, cn_app, exs]
        have hr7 : (upd H6 rl (.lst (qs.map V.ref ++ [.ref r]))) r = some (.dK kv) := by rw [upd_ne hrne]; exact hr6
        refine ⟨r, kv, qs ++ [r], _, rfl, hr7, rp7, by rw [upd_same]; simp, ?_, ?_, (s3.trans s36).put hrlH⟩
        · rw [List.take_succ_eq_append_getElem hi, goN_snoc, List.nil_append]
          refine DDs.snoc ⟨hq3.1, fun j r' ys h' h'' => ?_⟩ hr7 (rp7.congr fun m => by rw [List.take_succ_eq_append_getElem hi, finN_snoc])
          obtain ⟨kc, hkc, rpc⟩ := hq3.2 j r' ys h' h''
          exact ⟨kc, by rw [upd_ne (ne_of hkc hrl3 (fun z => nomatch z))]; exact s36 _ _ hkc, rpc⟩
        · rw [upd_ne nprl]
          exact s36 p1 _ hp3
    · rintro σ H3 ⟨rd, kr, qs, o, rfl, hrd, rpr, hrl3, hq3, hp3, s3⟩
      rw [List.length_map, hrl, List.take_length] at rpr hq3
      have hz3 := s3 z _ hz
      refine ⟨_, rfl, _, rfl, 1, rfl, a, _, -1, .ref z, rfl, rfl, SqL.of (s3 a _ hA), ?_, ?_⟩
      · rw [List.map_append]
        exact atI_last _ _
      refine ⟨rd, z, kr, kz, _, _, rfl, hrd, hz3, rpr, rpz, cn_pos _, cn_pos _, ?_, fun m hm => ?_, fun r kv H4 hr0 hr4 rp4 s4 => ?_⟩
      · have := bup I.length
        rwa [List.take_length] at this
      · have := hB Z (by simp) m (cn_ne.mp hm)
        omega
      refine ⟨(by show 1 ≤ sizeLine; decide), fun p2 e3 => ?_⟩
      have s5 := s4.trans (Same.new (o := .lst [.ref r]) e3)
      refine ⟨_, rfl, 1, rfl, -1, rfl, rfl, rl, _, rfl, SqL.of (s5 rl _ hrl3), fun p3 e4 => ?_⟩
      have s6 := s5.trans (Same.new (o := .lst (qs.map V.ref).reverse) e4)
      have hql := hq3.1
      rw [goN_len] at hql
      refine ⟨p2, p3, _, _, rfl, rfl, (Same.new e4) p2 _ upd_same, upd_same, ?_, fun p4 e5 => ?_⟩
      · exact Nat.le_of_lt (small1000 (by simp; omega))
      have s7 := s6.trans (Same.new (o := .lst ([V.ref r] ++ (qs.map V.ref).reverse)) e5)
      have s47 := ((Same.new (o := .lst [.ref r]) e3).trans (Same.new (o := .lst (qs.map V.ref).reverse) e4)).trans (Same.new (o := .lst ([V.ref r] ++ (qs.map V.ref).reverse)) e5)
      refine k p4 (r :: qs.reverse) _ (s3.free (s6.free e5)) (by rw [upd_same, List.map_cons, List.map_reverse]; rfl) ?_ (s3.trans s7)
      rw [nextKN_eq]
      have hqr : DDs H3 qs.reverse (goN [] I).reverse := by
        refine ⟨by rw [List.length_reverse, List.length_reverse, hq3.1], fun j r' ys h' h'' => ?_⟩
        have hj := (List.getElem?_eq_some_iff.mp h').1
        rw [List.length_reverse] at hj
        rw [List.getElem?_reverse hj] at h'
        rw [List.getElem?_reverse (by rw [goN_len]; omega), goN_len, ← hql] at h''
        exact hq3.2 _ r' ys h' h''
      exact (hqr.same s7).cons (s47 _ _ hr4) (rp4.congr fun m => by rw [cn_app])

end
end Fh73

set_option Elab.async false
set_option linter.all false
set_option maxRecDepth 100000
set_option maxHeartbeats 4000000
namespace Lv
open PySem L2
/-! ### which reels are taken together for the next level's i-th one: their places, and if one number more -/
def SL (c : Bool) (n i : Nat) : List (Nat × Bool) :=
  if c then (if i = 0 then (List.range (n - 1)).map (fun o => (o, true)) ++ [(n - 1, false)] else (List.range (n - i)).map (fun o => (o, true)))
  else if i + 1 = n then [(0, true)] else [(0, true), (i + 1, false)]
def pk {α : Type} (A B : List α) (d : α) (q : Nat × Bool) : α := (if q.2 then A else B).getD q.1 d
theorem SL_lt {c : Bool} {n i : Nat} (h2 : 2 ≤ n) (hi : i < n) : ∀ q ∈ SL c n i, q.1 < n := fun q hq => by
  unfold SL at hq
  split at hq
  · split at hq
    · rcases List.mem_append.mp hq with z | z
      · obtain ⟨o, ho, rfl⟩ := List.mem_map.mp z
        have := List.mem_range.mp ho
        show o < n
        omega
      · rw [List.mem_singleton] at z
        subst z
        show n - 1 < n
        omega
    · obtain ⟨o, ho, rfl⟩ := List.mem_map.mp hq
      have := List.mem_range.mp ho
      show o < n
      omega
  · split at hq
    · rw [List.mem_singleton] at hq
      subst hq
      show 0 < n
      omega
    · simp at hq
      rcases hq with rfl | rfl
      · show 0 < n
        omega
      · show i + 1 < n
        omega
theorem SL_len {c : Bool} {n i : Nat} (h2 : 2 ≤ n) (hi : i < n) : 1 ≤ (SL c n i).length ∧ (SL c n i).length ≤ n := by
  unfold SL
  split
  · split
    · simp
      omega
    · simp
      omega
  · split
    · simp
      omega
    · simp
      omega
theorem take_pk {α : Type} {A B : List α} {d : α} : ∀ {k : Nat}, k ≤ A.length → A.take k = ((List.range k).map fun o => (o, true)).map (pk A B d)
  | 0, _ => by simp
  | k + 1, h => by
    rw [List.take_add_one, take_pk (Nat.le_of_succ_le h), List.range_succ, List.map_append, List.map_append, List.getElem?_eq_getElem (by omega)]
    congr 1
    show [A[k]] = [A.getD k d]
    rw [List.getD_eq_getElem?_getD, List.getElem?_eq_getElem (by omega)]
    rfl
theorem cn_pk (N : List (List Int)) (m : Int) (b : Bool) (o : Nat) : cn (pk (N.map up1) N [] (o, b)) m = cn (N.getD o []) (m - (if b then 1 else 0)) := by
  cases b
  · show cn (N.getD o []) m = cn (N.getD o []) (m - 0)
    rw [Int.sub_zero]
  · show cn ((N.map up1).getD o []) m = cn (N.getD o []) (m - 1)
    rw [← cn_up1, List.getD_eq_getElem?_getD, List.getD_eq_getElem?_getD, List.getElem?_map]
    cases N[o]? <;> rfl
theorem rng_trs (N : List (List Int)) (m : Int) : ∀ k : Nat, ((((List.range k).map fun o => (o, true)).map (pk (N.map up1) N [])).map fun Y => cn Y m).sum = trs (fun o => cn (N.getD o []) (m - 1)) k
  | 0 => rfl
  | k + 1 => by
    rw [List.range_succ, List.map_append, List.map_append, List.map_append, List.sum_append, rng_trs N m k, trs]
    show _ + (cn (pk (N.map up1) N [] (k, true)) m + 0) = _
    rw [cn_pk, Int.add_zero]
    rfl
theorem SL_cnK {N : List (List Int)} {i : Nat} (h2 : 2 ≤ N.length) (hi : i < N.length) (m : Int) : cn ((nextKN N).getD i []) m = cn ((SL true N.length i).map (pk (N.map up1) N [])).flatten m := by
  have hi' : i < (nextKN N).length := by rw [nextKN_len]; exact hi
  have hx : (nextKN N)[i]? = some (nextKN N)[i] := List.getElem?_eq_getElem hi'
  rw [cn_flat, List.getD_eq_getElem?_getD, hx, Option.getD_some, nextK_cn (by omega) hx]
  show _ = (((if i = 0 then (List.range (N.length - 1)).map (fun o => (o, true)) ++ [(N.length - 1, false)] else (List.range (N.length - i)).map (fun o => (o, true))).map _).map _).sum
  split
  · rename_i z
    subst z
    rw [List.map_append, List.map_append, List.sum_append, rng_trs]
    show _ = _ + (cn (pk (N.map up1) N [] (N.length - 1, false)) m + 0)
    rw [cn_pk, Int.add_zero, show N.length - 0 = (N.length - 1) + 1 by omega, trs]
    congr 1
    · refine trs_congr fun j hj => ?_
      rw [show mre N.length 0 j = 1 from if_pos (Or.inr hj)]
    · show cn _ (m - mre N.length 0 (N.length - 1)) = cn _ (m - 0)
      rw [show mre N.length 0 (N.length - 1) = 0 from if_neg (by omega)]
  · rename_i z
    rw [rng_trs]
    refine trs_congr fun j hj => ?_
    rw [show mre N.length i j = 1 from if_pos (Or.inl (by omega))]
theorem SL_cnN {N : List (List Int)} {i : Nat} (h2 : 2 ≤ N.length) (hi : i < N.length) (m : Int) : cn ((nextN N).getD i []) m = cn ((SL false N.length i).map (pk (N.map up1) N [])).flatten m := by
  obtain ⟨A, B, rfl⟩ : ∃ A B, N = A :: B := by
    cases N with
    | nil => simp at h2
    | cons A B => exact ⟨A, B, rfl⟩
  have e : nextN (A :: B) = B.map (up1 A ++ ·) ++ [up1 A] := rfl
  rw [e]
  show _ = cn (((if i + 1 = (A :: B).length then [(0, true)] else [(0, true), (i + 1, false)])).map _).flatten m
  simp only [List.length_cons] at hi ⊢
  split
  · rename_i z
    rw [List.getD_eq_getElem?_getD, List.getElem?_append_right (by rw [List.length_map]; omega), List.length_map, show i - B.length = 0 by omega]
    show cn (up1 A) m = cn (up1 A ++ []) m
    rw [List.append_nil]
  · rename_i z
    have hB : i < B.length := by omega
    rw [List.getD_eq_getElem?_getD, List.getElem?_append_left (by rw [List.length_map]; omega), List.getElem?_map]
    show _ = cn (up1 A ++ (((A :: B).getD (i + 1) []) ++ [])) m
    rw [List.append_nil, List.getD_eq_getElem?_getD, List.getElem?_cons_succ, List.getElem?_eq_getElem hB]
    rfl
theorem pk_rp {Rs N : List (List Int)} (h : RpL Rs N) {q : Nat × Bool} (hq : q.1 < N.length) : Rp (pk (Rs.map (0 :: ·)) Rs [] q) (pk (N.map up1) N [] q) := by
  obtain ⟨o, b⟩ := q
  have ho : o < N.length := hq
  have ho' : o < Rs.length := by rw [h.1]; exact ho
  have e1 : Rs[o]? = some Rs[o] := List.getElem?_eq_getElem ho'
  have e2 : N[o]? = some N[o] := List.getElem?_eq_getElem ho
  have r := h.2 o _ _ e1 e2
  cases b
  · show Rp (Rs.getD o []) (N.getD o [])
    rw [List.getD_eq_getElem?_getD, List.getD_eq_getElem?_getD, e1, e2]
    exact r
  · show Rp ((Rs.map (0 :: ·)).getD o []) ((N.map up1).getD o [])
    rw [List.getD_eq_getElem?_getD, List.getD_eq_getElem?_getD, List.getElem?_map, List.getElem?_map, e1, e2]
    exact r.up
theorem pk_rpl {Rs N : List (List Int)} (h : RpL Rs N) {L : List (Nat × Bool)} (hL : ∀ q ∈ L, q.1 < N.length) : RpL (L.map (pk (Rs.map (0 :: ·)) Rs [])) (L.map (pk (N.map up1) N [])) := by
  refine ⟨by simp, fun i U Y h1 h2 => ?_⟩
  rw [List.getElem?_map, Option.map_eq_some_iff] at h1 h2
  obtain ⟨q, hq, rfl⟩ := h1
  obtain ⟨q', hq', rfl⟩ := h2
  rw [hq] at hq'
  cases hq'
  exact pk_rp h (hL q (List.mem_of_getElem? hq))
theorem pk_len {Rs : List (List Int)} {M : Nat} (h : ∀ R ∈ Rs, R.length ≤ M) {q : Nat × Bool} (hq : q.1 < Rs.length) : (pk (Rs.map (0 :: ·)) Rs [] q).length ≤ M + 1 := by
  obtain ⟨o, b⟩ := q
  have ho : o < Rs.length := hq
  have e1 : Rs[o]? = some Rs[o] := List.getElem?_eq_getElem ho
  have := h _ (List.getElem_mem ho)
  cases b
  · show (Rs.getD o []).length ≤ _
    rw [List.getD_eq_getElem?_getD, e1]
    exact Nat.le_succ_of_le this
  · show ((Rs.map (0 :: ·)).getD o []).length ≤ _
    rw [List.getD_eq_getElem?_getD, List.getElem?_map, e1]
    exact Nat.succ_le_succ this
theorem pk_lls {H : Hp} {ms rs : List Addr} {Rs : List (List Int)} {d : Addr} (h1 : LLs H ms (Rs.map (0 :: ·))) (h2 : LLs H rs Rs) {L : List (Nat × Bool)} (hL : ∀ q ∈ L, q.1 < Rs.length) : LLs H (L.map (pk ms rs d)) (L.map (pk (Rs.map (0 :: ·)) Rs [])) := by
  have l1 : ms.length = Rs.length := by rw [h1.1, List.length_map]
  have l2 := h2.1
  refine ⟨by simp, fun i U Y h1' h2' => ?_⟩
  rw [List.getElem?_map, Option.map_eq_some_iff] at h1' h2'
  obtain ⟨q, hq, rfl⟩ := h1'
  obtain ⟨q', hq', rfl⟩ := h2'
  rw [hq] at hq'
  cases hq'
  have ho := hL q (List.mem_of_getElem? hq)
  obtain ⟨o, b⟩ := q
  have ho : o < Rs.length := ho
  cases b
  · show H (rs.getD o d) = some (.lst ((Rs.getD o []).map V.int))
    rw [List.getD_eq_getElem?_getD, List.getD_eq_getElem?_getD, List.getElem?_eq_getElem ho, List.getElem?_eq_getElem (by omega : o < rs.length)]
    exact h2.2 o _ _ (List.getElem?_eq_getElem (by omega : o < rs.length)) (List.getElem?_eq_getElem ho)
  · show H (ms.getD o d) = some (.lst (((Rs.map (0 :: ·)).getD o []).map V.int))
    have ho' : o < (Rs.map (0 :: ·)).length := by rw [List.length_map]; exact ho
    rw [List.getD_eq_getElem?_getD, List.getD_eq_getElem?_getD, List.getElem?_eq_getElem ho', List.getElem?_eq_getElem (by omega : o < ms.length)]
    exact h1.2 o _ _ (List.getElem?_eq_getElem (by omega : o < ms.length)) (List.getElem?_eq_getElem ho')
theorem lls_had {H : Hp} {us : List Addr} {Us : List (List Int)} (h : LLs H us Us) : ∀ u ∈ us, ∃ o, H u = some o := fun u hu => by
  obtain ⟨j, hj⟩ := List.getElem?_of_mem hu
  have hl := (List.getElem?_eq_some_iff.mp hj).1
  rw [h.1] at hl
  exact ⟨_, h.2 j u _ hj (List.getElem?_eq_getElem hl)⟩
theorem SL_z (n : Nat) : SL true n 0 = (List.range (n - 1)).map (fun o => (o, true)) ++ [(n - 1, false)] := rfl
theorem SL_s {n i : Nat} (h : i ≠ 0) : SL true n i = (List.range (n - i)).map (fun o => (o, true)) := by
  unfold SL
  rw [if_pos rfl, if_neg h]
theorem SL_l {n i : Nat} (h : i + 1 = n) : SL false n i = [(0, true)] := by
  unfold SL
  rw [if_neg (by decide), if_pos h]
theorem SL_m {n i : Nat} (h : i + 1 ≠ n) : SL false n i = [(0, true), (i + 1, false)] := by
  unfold SL
  rw [if_neg (by decide), if_neg h]
theorem take_last {α : Type} {xs : List α} {n : Nat} (d : α) (h : xs.length = n + 1) : xs = xs.take n ++ [xs.getD n d] := by
  have : xs.take (n + 1) = xs := List.take_of_length_le (by omega)
  rw [List.take_add_one, List.getElem?_eq_getElem (by omega)] at this
  rw [List.getD_eq_getElem?_getD, List.getElem?_eq_getElem (by omega)]
  exact this.symm
theorem at_last {xs : List Addr} {n : Nat} (d : Addr) (h : xs.length = n + 1) : atI (xs.map V.ref) (-1) = some (.ref (xs.getD n d)) :=
  (congrArg (fun z : List Addr => atI (z.map V.ref) (-1)) (take_last d h)).trans (by rw [List.map_append]; exact atI_last _ _)
theorem at_ref {xs : List Addr} {n : Nat} (d : Addr) (h : n < xs.length) : atI (xs.map V.ref) (n : Int) = some (.ref (xs.getD n d)) := by
  refine atI_nat ?_
  rw [List.getElem?_map, List.getD_eq_getElem?_getD, List.getElem?_eq_getElem h]
  rfl
theorem cut_nat {xs : List Addr} {k : Nat} (h : k ≤ xs.length) : cutV (xs.map V.ref) none (some (k : Int)) = (xs.take k).map V.ref := by
  show ((xs.map V.ref).drop 0).take (HT.sIx (xs.map V.ref).length (xs.map V.ref).length (some ((k : Nat) : Int)) - 0) = _
  rw [HT.sIx_nat, Nat.sub_zero, List.drop_zero, List.length_map, Nat.min_eq_left h, List.map_take]
theorem cut_last {xs : List Addr} {n : Nat} (h : xs.length = n + 1) : cutV (xs.map V.ref) none (some (-1)) = (xs.take n).map V.ref := by
  show ((xs.map V.ref).drop 0).take ((-1 + ((xs.map V.ref).length : Int)).toNat - 0) = _
  rw [Nat.sub_zero, List.drop_zero, List.length_map, List.map_take, show (-1 + (xs.length : Int)).toNat = n by omega]
theorem RpL.snoc {Us Ys : List (List Int)} {U Y : List Int} (h : RpL Us Ys) (r : Rp U Y) : RpL (Us ++ [U]) (Ys ++ [Y]) := by
  refine ⟨by simp [h.1], fun i A B h1 h2 => ?_⟩
  rcases Nat.lt_or_ge i Us.length with z | z
  · rw [List.getElem?_append_left z] at h1
    rw [List.getElem?_append_left (by rw [← h.1]; exact z)] at h2
    exact h.2 i A B h1 h2
  · rw [List.getElem?_append_right z] at h1
    rw [List.getElem?_append_right (by rw [← h.1]; exact z)] at h2
    have e1 : A = U := by simpa using List.mem_of_getElem? h1
    have e2 : B = Y := by simpa using List.mem_of_getElem? h2
    subst e1 e2
    exact r
theorem rep_vec (n : Nat) : (List.replicate n [V.int 0]).flatten = (vec n fun _ => 0).map V.int := by
  have : (List.replicate n [V.int 0]).flatten = List.replicate n (V.int 0) := by
    induction n with
    | zero => rfl
    | succ n ih => rw [List.replicate_succ, List.flatten_cons, ih, List.replicate_succ]; rfl
  rw [this]
  unfold vec
  rw [List.map_map]
  refine (List.ext_getElem? fun j => ?_)
  rw [List.getElem?_replicate, List.getElem?_map]
  by_cases h : j < n
  · rw [if_pos h, List.getElem?_range h]; rfl
  · rw [if_neg h, List.getElem?_eq_none (by simpa using h)]; rfl
theorem early73 {c : Bool} {p : Nat} {r : Int} (hp : 2 ≤ p) (h7 : p ≤ 7) (h1 : 1 ≤ r) (hr : r ≤ 201) : ∃ m v, m < 60 ∧ gS (SS c p) r m = some v ∧ v ≤ cS (SS c p) r 60 := by
  obtain ⟨m, hm, hw, hl⟩ : ∃ m : Nat, m ≤ 12 ∧ (201 : Int) ≤ (SS c p m).flatten.length ∧ m ≤ low c p 60 := by
    cases c
    · rcases (show p = 2 ∨ p = 3 ∨ p = 4 ∨ p = 5 ∨ p = 6 ∨ p = 7 by omega) with rfl | rfl | rfl | rfl | rfl | rfl
      · exact ⟨11, by decide, by show (201 : Int) ≤ (num 2 11).flatten.length; rw [flat_tot]; decide +kernel, by decide⟩
      · exact ⟨9, by decide, by show (201 : Int) ≤ (num 3 9).flatten.length; rw [flat_tot]; decide +kernel, by decide⟩
      · exact ⟨9, by decide, by show (201 : Int) ≤ (num 4 9).flatten.length; rw [flat_tot]; decide +kernel, by decide⟩
      · exact ⟨9, by decide, by show (201 : Int) ≤ (num 5 9).flatten.length; rw [flat_tot]; decide +kernel, by decide⟩
      · exact ⟨9, by decide, by show (201 : Int) ≤ (num 6 9).flatten.length; rw [flat_tot]; decide +kernel, by decide⟩
      · exact ⟨9, by decide, by show (201 : Int) ≤ (num 7 9).flatten.length; rw [flat_tot]; decide +kernel, by decide⟩
    · exact ⟨12, Nat.le_refl _, wide12 hp h7, by show 12 ≤ 60 / 2; decide⟩
  have hf := (SS_fil (c := c) hp).lv
  obtain ⟨rn, rfl⟩ : ∃ rn : Nat, r = rn := ⟨r.toNat, by omega⟩
  obtain ⟨v, ev, lv⟩ := hf.some (n := m) (r := (rn : Int)) (by omega) h1 (by omega)
  obtain ⟨ys, hy, e, rfl⟩ := lv.mems
  have hs := sum_le' (b := (m : Int)) (ys := ys) fun y h => by
    obtain ⟨A, hA, hyA⟩ := List.mem_flatten.mp (hy y h)
    have := hf.bd m A hA y hyA
    omega
  have hd := hf.head (n := 60) (by decide)
  have hlow := low_le (c := c) hp (Nat.le_refl 60) _ hd.1
  refine ⟨m, _, by omega, ev, ?_⟩
  unfold cS
  rw [e] at hs
  generalize ((sprC (SS c p 60).flatten).headD (0, 0)).1 = hh at hlow
  have : (rn : Int) * m ≤ rn * hh := Int.mul_le_mul_of_nonneg_left (by omega) (by omega)
  omega
theorem SS_t (p : Nat) : SS true p = casN p := rfl
theorem SS_f (p : Nat) : SS false p = num p := rfl
theorem early73N {p : Nat} {r : Int} (hp : 2 ≤ p) (h7 : p ≤ 7) (h1 : 1 ≤ r) (hr : r ≤ 201) : ∃ m v, m < 60 ∧ gS (num p) r m = some v ∧ v ≤ cS (num p) r 60 := by
  have h := early73 (c := false) hp h7 h1 hr
  rw [SS_f] at h
  exact h
theorem early73K {p : Nat} {r : Int} (hp : 2 ≤ p) (h7 : p ≤ 7) (h1 : 1 ≤ r) (hr : r ≤ 201) : ∃ m v, m < 60 ∧ gS (casN p) r m = some v ∧ v ≤ cS (casN p) r 60 := by
  have h := early73 (c := true) hp h7 h1 hr
  rw [SS_t] at h
  exact h
end Lv

set_option Elab.async false
set_option linter.all false
set_option maxRecDepth 100000
set_option maxHeartbeats 4000000
namespace Fh73
open PySem L2 Lv
section
variable {P : Program} {w : World} {K : PySem.W.Frag} {mg : Str → Option Value} {base : Heap}
theorem scLeastS : FnScope ["spread", "rows", "reading", "left", "number", "many"] ["spread", "rows"] (defScope sLeastS) := ⟨rfl, rfl, rfl, by decide +kernel, rfl, by decide +kernel, by decide +kernel⟩
theorem prL_at {H : Hp} {qs : List Addr} {L : List (Int × Int)} (ht : TTs H qs (L.map pr2)) {i : Nat} {x : V} (hx : (qs.map V.ref)[i]? = some x) : ∃ (q : Addr) (m c : Int), x = .ref q ∧ L[i]? = some (m, c) ∧ H q = some (.tup [.int m, .int c]) ∧ i < qs.length := by
  obtain ⟨q, hq, rfl⟩ := map_ref_get hx
  have hi := (List.getElem?_eq_some_iff.mp hq).1
  have hi2 : i < L.length := by have := ht.1; rw [List.length_map] at this; omega
  have e : L[i]? = some L[i] := List.getElem?_eq_getElem hi2
  exact ⟨q, _, _, rfl, e, ht.2 i q (pr2 L[i]) hq (by rw [List.getElem?_map, e]; rfl), hi⟩
theorem ok_leastS {f : Addr} {fd : FuncData} (F : Fun K "least_of_spread" "least_of_spread" sLeastS f fd) (T : Txt mg) : FnOk P w K mg base CX0 1 f fd ["spread", "rows"] spLeastS := by
  refine okW F scLeastS (fun vs H Q E h => ?_) (fun cdv A outer s H vs Q E hr h => ?_)
  · obtain ⟨l, qs, M, r, rfl, _⟩ := h
    rfl
  · obtain ⟨l, qs, M, r, rfl, hl, ht, hb, k⟩ := h
    refine ⟨_, (wss_cons (ws (ps_set (i := 2) scLeastS.nd rfl (Or.inl rfl) pe_int))
      (wss_cons (ws (ps_set (i := 3) scLeastS.nd rfl (Or.inl rfl) (pv 1)))
      (wss_cons (ws (ps_for PassesOwn.never rfl (pi_tup (pv 0)) (pg_tup rfl (pgs_cons (pg_name (i := 4) scLeastS.nd rfl (Or.inl rfl)) (pgs_cons (pg_name (i := 5) scLeastS.nd rfl (Or.inl rfl)) pgs_nil)))
      (WSs.out (wss_cons (ws (ps_aug (i := 2) scLeastS.nd rfl (Or.inl rfl) (pe_op op_mul (pv 4) (pe_callB (call_min2 rfl) rfl T.min b_min (pa_cons (pv 5) (pa_cons (pv 3) pa_nil)))) ip_add))
        (wss_one (ws (ps_aug (i := 3) scLeastS.nd rfl (Or.inl rfl) (pe_callB (call_min2 rfl) rfl T.min b_min (pa_cons (pv 5) (pa_cons (pv 3) pa_nil))) ip_sub)))))))
      (wss_one (ws (ps_ret (pe_ifExp (pt_cmpR op_gt (pv 3) pe_int (nomark _)) pe_non (pv 2)))))))), ?_⟩
    refine ⟨_, rfl, ?_⟩
    refine ⟨_, rfl, l, rfl, ⟨_, SqT.of hl⟩, ?_⟩
    have hql : qs.length = M.length := by have := ht.1; rwa [List.length_map] at this
    refine for_tup (xs := qs.map V.ref) (fun i σ H2 => ∃ (o4 o5 : Option V), σ = [some (.ref l), some (.int r), some (.int (lsF (M.take i) (0, r)).1), some (.int (lsF (M.take i) (0, r)).2), o4, o5] ∧ Same H H2)
      ⟨_, _, rfl, Same.refl _⟩ (fun i σ H2 _ z => by obtain ⟨_, _, _, sz⟩ := z; exact SqT.of (sz _ _ hl)) ?_ ?_
    · rintro i x σ H2 hx ⟨o4, o5, rfl, s2⟩
      obtain ⟨q, m, c, rfl, hMi, hq, hi⟩ := prL_at ht hx
      have hmb := hb _ (List.mem_of_getElem? hMi)
      refine ⟨q, _, rfl, SqT.of (s2 _ _ hq), rfl, _, _, rfl, _, _, rfl, rfl, ?_⟩
      refine ⟨_, rfl, _, rfl, _, rfl, _, rfl, _, _, rfl, _, _, rfl, rfl, .inl ⟨by omega, by omega⟩, _, _, rfl, rfl, ?_⟩
      refine ⟨_, rfl, _, rfl, _, rfl, _, _, rfl, _, _, rfl, rfl, ?_⟩
      refine ⟨some (.int m), some (.int c), ?_, s2⟩
      rw [lsF_take hMi]
      rfl
    · rintro σ H2 ⟨o4, o5, rfl, s2⟩
      rw [List.length_map, hql, List.take_length]
      refine ⟨_, rfl, _, _, rfl, rfl, _, rfl, ite2 (fun hc => ?_) fun hc => ?_⟩
      · have := k H2 s2
        rwa [if_pos (of_decide_eq_true hc)] at this
      · have := k H2 s2
        rw [if_neg (fun z => hc (decide_eq_true z))] at this
        exact ⟨_, rfl, this⟩

/-- what best is: None, or (reading, level) -/
def BoV (H : Hp) (v : V) : Option (Int × Nat) → Prop
  | none => v = .non
  | some q => ∃ l, v = .ref l ∧ H l = some (.tup [.int q.1, .int q.2])
theorem BoV.same {H H' : Hp} {v : V} {st : Option (Int × Nat)} (h : BoV H v st) (s : Same H H') : BoV H' v st := by
  cases st with
  | none => exact h
  | some q => obtain ⟨l, e, hl⟩ := h; exact ⟨l, e, s _ _ hl⟩
/-- the least number of a level, so many times -/
def cBo (S : Nat → Nat → List (List Int)) (p : Nat) (rows : Int) (n : Nat) : Int := rows * ((sprC (S p n).flatten).headD (0, 0)).1
def gBo (S : Nat → Nat → List (List Int)) (p : Nat) (rows : Int) (n : Nat) : Option Int := leastC (S p n).flatten rows
def spBo (fn : Addr) (S : Nat → Nat → List (List Int)) : Sp := fun vs H Q _ => ∃ (p last : Nat) (rows : Int), vs = [.int p, .int rows, .int last, .ref fn] ∧ 2 ≤ p ∧ p ≤ 7 ∧ last ≤ 300 ∧ 0 ≤ rows ∧ (∃ m v, m < 60 ∧ gBo S p rows m = some v ∧ v ≤ cBo S p rows 60) ∧ ∀ v H', BoV H' v (bo (gBo S p rows) (cBo S p rows) (last + 1) 0 none) → Same H H' → Q v H'
theorem scBo : FnScope ["p", "rows", "last", "following", "best", "spreads", "n", "spread", "least", "reading"] ["p", "rows", "last", "following"] (defScope sBo) := ⟨rfl, rfl, rfl, by decide +kernel, rfl, by decide +kernel, by decide +kernel⟩
theorem ok_bo {f f1 f2 f3 f4 : Addr} {fd d1 d2 d3 d4 : FuncData} {y : Str} {S : Nat → Nat → List (List Int)} {nx : List (List Int) → List (List Int)} (S0 : ∀ p, S p 0 = num0 p) (S1 : ∀ p n, S p (n + 1) = nx (S p n)) (SB : ∀ p n : Nat, 2 ≤ p → Bd n (S p n)) (SL : ∀ p n : Nat, 2 ≤ p → (S p n).length = p) (SN : ∀ p n : Nat, 2 ≤ p → (S p n).flatten ≠ [])
    (F : Fun K "best_over" "best_over" sBo f fd) (T : Txt mg) (CF : Cal P w K mg base 1 "first_spreads" ["p"] spFirstS f1 d1) (CN : Cal P w K mg base 2 y ["spreads"] (spNextS nx) f2 d2) (CO : Cal P w K mg base 2 "spread_over" ["spreads"] spOverF f3 d3) (CL : Cal P w K mg base 1 "least_of_spread" ["spread", "rows"] spLeastS f4 d4) : FnOk P w K mg base CX0 3 f fd ["p", "rows", "last", "following"] (spBo f2 S) := by
  refine okW F scBo (fun vs H Q E h => ?_) (fun cdv A outer s H vs Q E hr h => ?_)
  · obtain ⟨p, last, rows, rfl, _⟩ := h
    rfl
  · obtain ⟨p, last, rows, rfl, h1, h2, h3, h0, ⟨m60, v60, hm60, hg60, hc60⟩, k⟩ := h
    have hr1 : Room 1 _ := hr.mono (by decide)
    refine ⟨_, (wss_cons (ws (ps_set (i := 4) scBo.nd rfl (Or.inl rfl) pe_non))
      (wss_cons (ws (ps_set (i := 5) scBo.nd rfl (Or.inl rfl) (pe_cal CF hr1 rfl (pa_cons (pv 0) pa_nil))))
      (wss_cons (ws (ps_for PassesOwn.never rfl (pi_range1 rfl T.range (pa_cons (pe_op op_add (pv 2) pe_int) pa_nil)) (pg_name (i := 6) scBo.nd rfl (Or.inl rfl))
      (WSs.out (wss_cons (ws (ps_set (i := 7) scBo.nd rfl (Or.inl rfl) (pe_cal CO hr rfl (pa_cons (pv 5) pa_nil))))
        (wss_cons (ws (ps_set (i := 8) scBo.nd rfl (Or.inl rfl) (pe_ix ix_tup (pe_ix ix_tup (pv 7) pe_int (fun _ _ => rfl)) pe_int (fun _ _ => rfl))))
        (wss_cons (ws_if (PW.pt (pw_and (pt_cmpR op_notN (pv 4) pe_non (nomark _)) (pw_and1 (pt_cmpR op_ge (pe_op op_mul (pv 1) (pv 8)) (pe_ix ix_tup (pv 4) pe_int (fun _ _ => rfl)) (nomark _)))))
        (wss_one (ws (ps_ret (pv 4))))
        wss_nil)
        (wss_cons (ws (ps_set (i := 9) scBo.nd rfl (Or.inl rfl) (pe_cal CL hr1 rfl (pa_cons (pv 7) (pa_cons (pv 1) pa_nil)))))
        (wss_cons (ws_if (PW.pt (pw_and (pt_cmpR op_notN (pv 9) pe_non (nomark _)) (pw_and1 (PW.pt (pw_or (pt_cmpR op_isN (pv 4) pe_non (nomark _)) (pw_or1 (pt_cmpR op_lt (pv 9) (pe_ix ix_tup (pv 4) pe_int (fun _ _ => rfl)) (nomark _))))))))
        (wss_one (ws (ps_set (i := 4) scBo.nd rfl (Or.inl rfl) (pe_tup (pa_cons (pv 9) (pa_cons (pv 6) pa_nil))))))
        wss_nil)
        (wss_one (ws (ps_set (i := 5) scBo.nd rfl (Or.inl rfl) (pe_calV 3 CN hr (pa_cons (pv 5) pa_nil)))))))))))))
      (wss_one (ws (ps_ret (pv 4))))))), ?_⟩
    refine ⟨_, rfl, p, rfl, h1, h2, fun l0 q0 H1 hl0 hl1 hq1 s1 => ?_⟩
    refine ⟨_, rfl, _, _, rfl, rfl, last + 1, rfl, by omega, by omega, for_range (fun i σ H2 => ∃ (l : Addr) (qs : List Addr) (bv : V) (st : Option (Int × Nat)) (o6 o7 o8 o9 : Option V), σ = [some (.int p), some (.int rows), some (.int last), some (.ref f2), some bv, some (.ref l), o6, o7, o8, o9] ∧ H2 l = some (.lst (qs.map V.ref)) ∧ DDs H2 qs (S p i) ∧ BoV H2 bv st ∧ bo (gBo S p rows) (cBo S p rows) (last + 1 - i) i st = bo (gBo S p rows) (cBo S p rows) (last + 1) 0 none ∧ (i ≤ 60 ∧ IsBest (gBo S p rows) i st) ∧ Same H H2)
      ⟨l0, q0, .non, none, none, none, none, none, rfl, hl1, by rw [S0]; exact hq1, rfl, rfl, ⟨Nat.zero_le _, fun n hn => absurd hn (Nat.not_lt_zero _)⟩, s1⟩ ?_ ?_⟩
    · rintro i σ H2 hi ⟨l, qs, bv, st, o6, o7, o8, o9, rfl, hl2, hq, hb, hbo, ⟨hi60, hIB⟩, s2⟩
      have hlen := SL p i h1
      have hB := SB p i h1
      refine ⟨_, rfl, l, qs, S p i, rfl, hl2, hq, by omega, hB.mono (by omega), fun ls qs3 L H3 h30 h3 ht sp s3 => ?_⟩
      have hi3 : i ≤ last := by omega
      have hb4 : ∀ m ∈ (S p i).flatten, 0 ≤ m ∧ m ≤ 400 := fun m hm => by
        obtain ⟨xs, hx, hmx⟩ := List.mem_flatten.mp hm
        have := hB xs hx m hmx
        omega
      have eL := sprC_of hb4 sp
      obtain ⟨q, M, rfl⟩ : ∃ q M, L = q :: M := by
        cases L with
        | cons q M => exact ⟨q, M, rfl⟩
        | nil =>
          exfalso
          obtain ⟨m, hm⟩ := List.exists_mem_of_ne_nil _ (SN p i h1)
          have := (spr_keys sp m).mpr hm
          simp at this
      have hql := ht.1
      rw [List.length_map, List.length_cons] at hql
      obtain ⟨a0, ha0⟩ : ∃ a0, qs3[0]? = some a0 := ⟨qs3[0]'(by omega), List.getElem?_eq_getElem (by omega)⟩
      have hq0 : H3 a0 = some (.tup [.int q.1, .int q.2]) := ht.2 0 a0 [q.1, q.2] ha0 rfl
      have at0 : atI (qs3.map V.ref) 0 = some (.ref a0) := by
        have := atI_nat (xs := qs3.map V.ref) (j := 0) (v := .ref a0) (by rw [List.getElem?_map, ha0]; rfl)
        exact this
      have hqb := hb4 q.1 ((spr_keys sp q.1).mp (List.mem_map.mpr ⟨q, List.mem_cons_self, rfl⟩))
      have ec : cBo S p rows i = rows * q.1 := by unfold cBo; rw [← eL]; rfl
      have hb3 := hb.same s3
      have ek : last + 1 - i = (last - i) + 1 := by omega
      rw [ek] at hbo
      replace hbo : (if boStop (cBo S p rows) i st = true then st else bo (gBo S p rows) (cBo S p rows) (last - i) (i + 1) (boStep (gBo S p rows) i st)) = bo (gBo S p rows) (cBo S p rows) (last + 1) 0 none := hbo
      refine ⟨_, rfl, ls, _, 0, .ref a0, rfl, rfl, SqT.of h3, at0, a0, _, 0, .int q.1, rfl, rfl, SqT.of hq0, rfl, ?_⟩
      dsimp only
      refine cutG (fun σ' H' => σ' = [some (.int p), some (.int rows), some (.int last), some (.ref f2), some bv, some (.ref l), some (.int (0 + (i : Int))), some (.ref ls), some (.int q.1), o9] ∧ H' = H3 ∧ ¬ boStop (cBo S p rows) i st = true) (fun R hR => ?_) ?_
      · cases st with
        | none =>
          cases (show bv = .non from hb)
          exact ⟨_, rfl, rfl, _, rfl, iteF (iteF (hR _ _ ⟨rfl, rfl, fun z => nomatch z⟩))⟩
        | some qq =>
          obtain ⟨lb, rfl, hlb⟩ := hb3
          refine ⟨_, rfl, rfl, _, rfl, iteT ⟨_, rfl, _, rfl, _, _, rfl, rfl, .inr ⟨by omega, by omega⟩, _, rfl, lb, _, 0, .int qq.1, rfl, rfl, SqT.of hlb, rfl, _, _, rfl, rfl, _, rfl, ite2 (fun hc => ?_) (fun hc => ?_)⟩⟩
          · have hs : boStop (cBo S p rows) i (some qq) = true := by
              show decide (cBo S p rows i ≥ qq.1) = true
              rw [ec]; exact hc
            rw [if_pos hs] at hbo
            refine ⟨_, rfl, k _ H3 ?_ (s2.trans s3)⟩
            rw [← hbo]
            exact ⟨lb, rfl, hlb⟩
          · refine hR _ _ ⟨rfl, rfl, fun z => hc ?_⟩
            have : decide (cBo S p rows i ≥ qq.1) = true := z
            rw [ec] at this
            exact this
      · rintro σ' H' ⟨rfl, rfl, hns⟩
        rw [if_neg hns] at hbo
        have hi59 : i < 60 := by
          refine Nat.lt_of_le_of_ne hi60 fun e => hns ?_
          rw [e] at hIB ⊢
          cases st with
          | none =>
            have := hIB m60 hm60
            rw [hg60] at this
            cases this
          | some qq =>
            have := hIB.2.2.1 m60 v60 hm60 hg60
            exact decide_eq_true (by show cBo S p rows 60 ≥ qq.1; omega)
        refine ⟨_, rfl, _, rfl, ls, qs3, q :: M, rows, rfl, h3, ht, fun y hy => ?_, fun H4 s4 => ?_⟩
        · have := hb4 y.1 ((spr_keys sp y.1).mp (List.mem_map.mpr ⟨y, hy, rfl⟩))
          omega
        have hb5 := hb3.same s4
        have eg : gBo S p rows i = if (lsF (q :: M) (0, rows)).2 > 0 then none else some (lsF (q :: M) (0, rows)).1 := by unfold gBo leastC; rw [← eL]
        generalize lsF (q :: M) (0, rows) = z at eg ⊢
        dsimp only
        refine cutG (fun σ' H' => ∃ bv' o9', σ' = [some (.int p), some (.int rows), some (.int last), some (.ref f2), some bv', some (.ref l), some (.int (0 + (i : Int))), some (.ref ls), some (.int q.1), o9'] ∧ BoV H' bv' (boStep (gBo S p rows) i st) ∧ Same H4 H') (fun R hR => ?_) ?_
        · by_cases hz : z.2 > 0
          · rw [if_pos hz] at eg ⊢
            refine ⟨_, rfl, rfl, _, rfl, iteF (iteF (hR _ _ ⟨bv, _, rfl, ?_, Same.refl _⟩))⟩
            unfold boStep
            rw [eg]
            exact hb5
          · rw [if_neg hz] at eg ⊢
            refine ⟨_, rfl, rfl, _, rfl, iteT ?_⟩
            cases st with
            | none =>
              cases (show bv = .non from hb)
              refine ⟨_, rfl, rfl, _, rfl, iteT (iteT ⟨_, rfl, _, rfl, (by show 2 ≤ sizeLine; decide), fun t nt => hR _ _ ⟨.ref t, _, rfl, ?_, Same.new nt⟩⟩)⟩
              unfold boStep
              rw [eg]
              exact ⟨t, rfl, by rw [upd_same, Int.zero_add]⟩
            | some qq =>
              obtain ⟨lb, rfl, hlb⟩ := hb5
              refine ⟨_, rfl, rfl, _, rfl, iteF ⟨_, rfl, _, rfl, lb, _, 0, .int qq.1, rfl, rfl, SqT.of hlb, rfl, _, _, rfl, rfl, _, rfl, ite2 (fun hc => ?_) (fun hc => ?_)⟩⟩
              · have hc' : z.1 < qq.1 := of_decide_eq_true hc
                refine ⟨_, rfl, _, rfl, (by show 2 ≤ sizeLine; decide), fun t nt => hR _ _ ⟨.ref t, _, rfl, ?_, Same.new nt⟩⟩
                unfold boStep
                rw [eg]
                show BoV _ _ (if z.1 < qq.1 then some (z.1, i) else some qq)
                rw [if_pos hc']
                exact ⟨t, rfl, by rw [upd_same, Int.zero_add]⟩
              · have hc' : ¬ z.1 < qq.1 := fun y => hc (decide_eq_true y)
                refine hR _ _ ⟨.ref lb, _, rfl, ?_, Same.refl _⟩
                unfold boStep
                rw [eg]
                show BoV _ _ (if z.1 < qq.1 then some (z.1, i) else some qq)
                rw [if_neg hc']
                exact ⟨lb, rfl, hlb⟩
        · rintro σ' H5 ⟨bv', o9', rfl, hbv, s5⟩
          have s25 := (s3.trans s4).trans s5
          refine ⟨rfl, _, rfl, l, qs, S p i, rfl, s25 _ _ hl2, hq.same s25, by omega, by omega, hB.mono (by omega), fun l6 q6 H6 _ h6 hq6 s6 => ?_⟩
          refine ⟨l6, q6, bv', _, _, _, _, _, rfl, h6, by rw [S1]; exact hq6, hbv.same s6, ?_, ⟨by omega, hIB.step⟩, (s2.trans s25).trans s6⟩
          rw [← hbo, show last + 1 - (i + 1) = last - i by omega]
    · rintro σ H2 ⟨l, qs, bv, st, o6, o7, o8, o9, rfl, hl2, hq, hb, hbo, _, s2⟩
      have en : ((last : Int) + 1).toNat = last + 1 := by omega
      rw [en, Nat.sub_self] at hbo
      refine ⟨_, rfl, k bv H2 ?_ s2⟩
      rw [← hbo]
      exact hb

end
end Fh73

set_option Elab.async false
set_option linter.all false
set_option maxRecDepth 100000
set_option maxHeartbeats 4000000
namespace Fh73
open PySem L2 Lv
section
variable {P : Program} {w : World} {K : PySem.W.Frag} {mg : Str → Option Value} {base : Heap}
theorem ip_mul {X : Cx} : PIp X .Mult (rI CMul fun i j => .int (i * j)) := iop_mul
/-- the log of so many like rows -/
def spLike : Sp := fun vs H Q _ => ∃ (p : Nat) (r : Int), vs = [.int p, .int r] ∧ 2 ≤ p ∧ p ≤ 7 ∧ 1 ≤ r ∧ r ≤ 1000000000001 ∧ ∀ t, Wi p r t → Q (.int (lj p r t)) H
theorem pow_t {p : Int} (hp : 2 ≤ p) {t : Nat} : (t : Int) + 1 ≤ p ^ t := by
  have h1 := bern (p := p) (by omega) t
  have : 1 * (t : Int) ≤ (p - 1) * t := Int.mul_le_mul_of_nonneg_right (by omega) (by omega)
  omega
theorem scLike : FnScope ["p", "rows", "power", "times", "over"] ["p", "rows"] (defScope sLike) := ⟨rfl, rfl, rfl, by decide +kernel, rfl, by decide +kernel, by decide +kernel⟩
theorem ok_like {f : Addr} {fd : FuncData} (F : Fun K "like_join" "like_join" sLike f fd) : FnOk P w K mg base CX0 1 f fd ["p", "rows"] spLike := by
  refine F.ok scLike (fun vs H Q E h => ?_) (fun cdv A outer s H vs Q E hr h => ?_)
  · obtain ⟨p, r, rfl, _⟩ := h
    rfl
  · obtain ⟨p, r, rfl, h1, h2, r1, r2, k⟩ := h
    refine ⟨_, (pss_cons (ps_set (i := 2) scLike.nd rfl (Or.inl rfl) pe_int)
      (pss_cons (ps_set (i := 3) scLike.nd rfl (Or.inl rfl) pe_int)
      (pss_cons (ps_while PassesOwn.never (pt_cmpR op_le (pe_op op_mul (pv 2) (pv 0)) (pv 1) (nomark _))
      (pss_cons (ps_aug (i := 2) scLike.nd rfl (Or.inl rfl) (pv 0) ip_mul)
        (pss_one (ps_aug (i := 3) scLike.nd rfl (Or.inl rfl) pe_int ip_add))))
      (pss_cons (ps_set (i := 4) scLike.nd rfl (Or.inl rfl) (pe_op op_sub (pv 1) (pv 2)))
      (pss_one (ps_ret (pe_op op_add (pe_op op_add (pe_op op_mul (pv 1) (pv 3)) (pv 4)) (pe_un un_neg (pe_op op_fdiv (pe_un un_neg (pv 4)) (pe_op op_sub (pv 0) pe_int)))))))))), ?_⟩
    refine ⟨fun m σ H2 => ∃ t : Nat, σ = [some (.int p), some (.int r), some (.int ((p : Int) ^ t)), some (.int t), none] ∧ H2 = H ∧ (p : Int) ^ t ≤ r ∧ m = (r - (p : Int) ^ t).toNat, ⟨_, 0, rfl, rfl, by simpa using r1, rfl⟩, ?_⟩
    rintro m σ H2 ⟨t, rfl, rfl, ht, rfl⟩
    have w1 := pow_t (p := (p : Int)) (by omega) (t := t)
    have e1 : (p : Int) ^ (t + 1) = (p : Int) ^ t * p := Int.pow_succ ..
    have h3 : (p : Int) ^ t * 2 ≤ (p : Int) ^ t * p := Int.mul_le_mul_of_nonneg_left (by omega) (by omega)
    refine ⟨_, rfl, _, rfl, _, _, rfl, rfl, .inr ⟨by omega, by omega⟩, _, rfl, _, _, rfl, rfl, _, rfl, ?_⟩
    refine ite2 (fun hc => ?_) (fun hc => ?_)
    · have hc' : (p : Int) ^ t * p ≤ r := of_decide_eq_true hc
      refine ⟨fun σ H' => σ = [some (.int p), some (.int r), some (.int ((p : Int) ^ (t + 1))), some (.int ((t + 1 : Nat) : Int)), none] ∧ H' = H2, ?_, ?_⟩
      · rintro σ' H' ⟨rfl, rfl⟩
        exact ⟨_, by omega, t + 1, rfl, rfl, by omega, rfl⟩
      · refine ⟨_, rfl, _, rfl, _, _, rfl, rfl, .inr ⟨by omega, by omega⟩, _, rfl, _, _, rfl, rfl, ?_, rfl⟩
        rw [e1]
        rfl
    · have hc' : ¬ (p : Int) ^ t * p ≤ r := fun z => hc (decide_eq_true z)
      have := k t ⟨ht, by omega⟩
      refine ⟨_, rfl, _, rfl, _, _, rfl, rfl, ?_⟩
      refine ⟨_, rfl, _, rfl, _, _, rfl, rfl, .inr ⟨by omega, by omega⟩, _, rfl, _, _, rfl, rfl, ?_⟩
      exact ⟨_, rfl, _, rfl, _, rfl, _, _, rfl, rfl, _, _, rfl, rfl, ⟨by omega, by omega⟩, _, rfl, _, _, rfl, rfl, this⟩

/-- how many passes -/
def spBalP : Sp := fun vs H Q _ => ∃ (p : Nat) (r : Int), vs = [.int p, .int r] ∧ 3 ≤ p ∧ p ≤ 7 ∧ 1 ≤ r ∧ r ≤ 1000000000001 ∧ ∀ k : Nat, Ps ((p : Int) / 2 + (p : Int) % 2) r k → Q (.int k) H
theorem half_eq (p : Nat) : ((p : Int) + 1) / 2 = (p : Int) / 2 + (p : Int) % 2 := by omega
theorem Ps.step {h r : Int} {k : Nat} (hk : ∀ j, j < k → h ^ j < r) (hc : h ^ k < r) : ∀ j, j < k + 1 → h ^ j < r := fun j hj => by
  by_cases e : j = k
  · rw [e]; exact hc
  · exact hk j (by omega)
theorem scBalP : FnScope ["p", "rows", "half", "reach", "passes"] ["p", "rows"] (defScope sBalP) := ⟨rfl, rfl, rfl, by decide +kernel, rfl, by decide +kernel, by decide +kernel⟩
theorem ok_balp {f : Addr} {fd : FuncData} (F : Fun K "balanced_passes" "balanced_passes" sBalP f fd) : FnOk P w K mg base CX0 1 f fd ["p", "rows"] spBalP := by
  refine F.ok scBalP (fun vs H Q E h => ?_) (fun cdv A outer s H vs Q E hr h => ?_)
  · obtain ⟨p, r, rfl, _⟩ := h
    rfl
  · obtain ⟨p, r, rfl, h1, h2, r1, r2, k⟩ := h
    refine ⟨_, (pss_cons (ps_set (i := 2) scBalP.nd rfl (Or.inl rfl) (pe_op op_fdiv (pe_op op_add (pv 0) pe_int) pe_int))
      (pss_cons (ps_set (i := 3) scBalP.nd rfl (Or.inl rfl) pe_int)
      (pss_cons (ps_set (i := 4) scBalP.nd rfl (Or.inl rfl) pe_int)
      (pss_cons (ps_while PassesOwn.never (pt_cmpR op_lt (pv 3) (pv 1) (nomark _))
      (pss_cons (ps_aug (i := 3) scBalP.nd rfl (Or.inl rfl) (pv 2) ip_mul)
        (pss_one (ps_aug (i := 4) scBalP.nd rfl (Or.inl rfl) pe_int ip_add))))
      (pss_one (ps_ret (pv 4))))))), ?_⟩
    refine ⟨_, rfl, _, _, rfl, rfl, _, _, rfl, rfl, ⟨by decide, by decide⟩, ?_⟩
    dsimp only
    rw [half_eq]
    obtain ⟨h, hh, h2', h7⟩ : ∃ h : Int, (p : Int) / 2 + (p : Int) % 2 = h ∧ 2 ≤ h ∧ h ≤ 7 := ⟨_, rfl, by omega, by omega⟩
    rw [hh] at k ⊢
    refine ⟨fun m σ H2 => ∃ t : Nat, σ = [some (.int p), some (.int r), some (.int h), some (.int (h ^ t)), some (.int t)] ∧ H2 = H ∧ (∀ j, j < t → h ^ j < r) ∧ m = (r - h ^ t).toNat, ⟨_, 0, by rw [Int.pow_zero]; rfl, rfl, fun j hj => absurd hj (Nat.not_lt_zero _), rfl⟩, ?_⟩
    rintro m σ H2 ⟨t, rfl, rfl, ht, rfl⟩
    have w1 := pow_t h2' (t := t)
    have e1 : h ^ (t + 1) = h ^ t * h := Int.pow_succ ..
    have h3 : h ^ t * 2 ≤ h ^ t * h := Int.mul_le_mul_of_nonneg_left (by omega) (by omega)
    refine ⟨_, rfl, _, rfl, _, _, rfl, rfl, _, rfl, ?_⟩
    refine ite2 (fun hc => ?_) (fun hc => ?_)
    · have hc' : h ^ t < r := of_decide_eq_true hc
      refine ⟨fun σ H' => σ = [some (.int p), some (.int r), some (.int h), some (.int (h ^ (t + 1))), some (.int ((t + 1 : Nat) : Int))] ∧ H' = H2, ?_, ?_⟩
      · rintro σ' H' ⟨rfl, rfl⟩
        exact ⟨_, by omega, t + 1, rfl, rfl, Ps.step ht hc', rfl⟩
      · refine ⟨_, rfl, _, rfl, _, _, rfl, rfl, .inr ⟨by omega, by omega⟩, _, rfl, _, _, rfl, rfl, ?_, rfl⟩
        rw [e1]
        rfl
    · have hc' : ¬ h ^ t < r := fun z => hc (decide_eq_true z)
      exact ⟨_, rfl, k t ⟨by omega, ht⟩⟩

/-- what balanced passes read, or None -/
def BalV (p : Nat) (r : Int) (v : V) : Prop := (p = 2 ∧ v = .non) ∨ (3 ≤ p ∧ ∃ k : Nat, Ps ((p : Int) / 2 + (p : Int) % 2) r k ∧ v = .int (r * k))
theorem BalV.uniq {p : Nat} {r : Int} {u v : V} (a : BalV p r u) (b : BalV p r v) : u = v := by
  rcases a with ⟨a1, rfl⟩ | ⟨a1, k, hk, rfl⟩ <;> rcases b with ⟨b1, rfl⟩ | ⟨b1, j, hj, rfl⟩
  · rfl
  · omega
  · omega
  · rw [hk.uniq hj]
def spBalR : Sp := fun vs H Q _ => ∃ (p : Nat) (r : Int), vs = [.int p, .int r, .int r] ∧ 2 ≤ p ∧ p ≤ 7 ∧ 1 ≤ r ∧ r ≤ 1000000000001 ∧ ∀ v, BalV p r v → Q v H
theorem scBalR : FnScope ["p", "rows", "things"] ["p", "rows", "things"] (defScope sBalR) := ⟨rfl, rfl, rfl, by decide +kernel, rfl, by decide +kernel, by decide +kernel⟩
theorem ok_balr {f f1 : Addr} {fd d1 : FuncData} (F : Fun K "balanced_reading" "balanced_reading" sBalR f fd) (CP : Cal P w K mg base 1 "balanced_passes" ["p", "rows"] spBalP f1 d1) : FnOk P w K mg base CX0 2 f fd ["p", "rows", "things"] spBalR := by
  refine F.ok scBalR (fun vs H Q E h => ?_) (fun cdv A outer s H vs Q E hr h => ?_)
  · obtain ⟨p, r, rfl, _⟩ := h
    rfl
  · obtain ⟨p, r, rfl, h1, h2, r1, r2, k⟩ := h
    refine ⟨_, (pss_one (ps_ret (pe_ifExp (pt_cmpR op_eq (pv 0) pe_int (nomark _)) pe_non (pe_op op_mul (pv 2) (pe_cal CP hr rfl (pa_cons (pv 0) (pa_cons (pv 1) pa_nil))))))), ?_⟩
    refine ⟨_, rfl, rfl, _, rfl, ite2 (fun hc => ?_) (fun hc => ?_)⟩
    · have e : (p : Int) = 2 := V.int.inj (of_decide_eq_true hc)
      exact k _ (.inl ⟨by omega, rfl⟩)
    · have e : p ≠ 2 := fun e => hc (decide_eq_true (by rw [e]; rfl))
      refine ⟨_, rfl, _, rfl, _, rfl, p, r, rfl, by omega, h2, r1, r2, fun t ht => ?_⟩
      have w1 := pow_t (p := (p : Int) / 2 + (p : Int) % 2) (by omega) (t := t - 1)
      refine ⟨_, _, rfl, rfl, .inl ⟨by omega, by omega⟩, k _ (.inr ⟨by omega, t, ht, rfl⟩)⟩

theorem FnOk.or0 {cx : CXT} {d : Nat} {f : Addr} {fd : FuncData} {ps : List Str} {A B : Sp} (a : FnOk P w K mg base cx d f fd ps A) (b : FnOk P w K mg base cx d f fd ps B) : FnOk P w K mg base cx d f fd ps (fun vs H Q E => A vs H Q E ∨ B vs H Q E) :=
  ⟨fun vs H Q E h => h.elim (a.len vs H Q E) (b.len vs H Q E), fun A outer s H args us vs Q E hr he hb hv h => h.elim (a.run A outer s H args us vs Q E hr he hb hv) (b.run A outer s H args us vs Q E hr he hb hv)⟩
/-- best over one kind of levels or the other -/
def spBo2 (f2 f5 : Addr) : Sp := fun vs H Q E => spBo f2 num vs H Q E ∨ spBo f5 casN vs H Q E
def spBR : Sp := fun vs H Q _ => ∃ (p : Nat) (r : Int), vs = [.int p, .int r] ∧ 2 ≤ p ∧ p ≤ 7 ∧ 1 ≤ r ∧ r ≤ 201 ∧ ∀ l q H', Bst (num p) 301 r q → H' l = some (.tup [.int q.1, .int q.2]) → Same H H' → Q (.ref l) H'
def spBK : Sp := fun vs H Q _ => ∃ (p : Nat) (r : Int), vs = [.int p, .int r] ∧ 2 ≤ p ∧ p ≤ 7 ∧ 1 ≤ r ∧ r ≤ 201 ∧ ∀ l q H', Bst (casN p) 101 r q → H' l = some (.tup [.int q.1, .int q.2]) → Same H H' → Q (.ref l) H'
theorem scBR : FnScope ["p", "rows"] ["p", "rows"] (defScope sBR) := ⟨rfl, rfl, rfl, by decide +kernel, rfl, by decide +kernel, by decide +kernel⟩
theorem ok_br {f f1 f2 f3 f5 : Addr} {fd d1 d2 d3 : FuncData} {tL : Tok} (F : Fun K "best_reading" "best_reading" sBR f fd) (hLL : mg "LAST_LEVEL" = some (.int 300 tL)) (CW : Cal P w K mg base 2 "check_ways" ["p"] spWays f1 d1) (CN : Cal P w K mg base 2 "next_spreads" ["spreads"] (spNextS nextN) f2 d2) (CB : Cal P w K mg base 3 "best_over" ["p", "rows", "last", "following"] (spBo2 f2 f5) f3 d3) : FnOk P w K mg base CX0 4 f fd ["p", "rows"] spBR := by
  refine F.ok scBR (fun vs H Q E h => ?_) (fun cdv A outer s H vs Q E hr h => ?_)
  · obtain ⟨p, r, rfl, _⟩ := h
    rfl
  · obtain ⟨p, r, rfl, h1, h2, h3, h4, k⟩ := h
    have hr2 : Room 2 _ := hr.mono (by decide)
    refine ⟨_, (pss_cons (ps_expr (pe_cal CW hr2 rfl (pa_cons (pv 0) pa_nil)))
      (pss_one (ps_ret (pe_cal CB hr rfl (pa_cons (pv 0) (pa_cons (pv 1) (pa_cons (pe_gint rfl hLL) (pa_cons (pe_gfn CN rfl) pa_nil)))))))), ?_⟩
    refine ⟨_, rfl, (p : Int), rfl, by omega, by omega, ?_⟩
    refine ⟨_, rfl, _, rfl, .inl ⟨p, 300, r, rfl, h1, h2, by omega, by omega, early73N h1 h2 h3 h4, fun v H1 hv s1 => ?_⟩⟩
    obtain ⟨q, eq, b⟩ := (fil_num h1).best (r := r) (N := 301) (n := 60) (by omega) h3 (by omega) (by have := far_num h1 h2; omega)
    have hv' : BoV H1 v (bo (gS (num p) r) (cS (num p) r) 301 0 none) := hv
    rw [eq] at hv'
    obtain ⟨l, rfl, hl⟩ := hv'
    exact k l q H1 b hl s1

theorem scBK : FnScope ["p", "rows"] ["p", "rows"] (defScope sBK) := ⟨rfl, rfl, rfl, by decide +kernel, rfl, by decide +kernel, by decide +kernel⟩
theorem ok_bk {f f1 f2 f3 f5 : Addr} {fd d1 d2 d3 : FuncData} {tL : Tok} (F : Fun K "best_cascade" "best_cascade" sBK f fd) (hLC : mg "LAST_CASCADE" = some (.int 100 tL)) (CW : Cal P w K mg base 2 "check_ways" ["p"] spWays f1 d1) (CN : Cal P w K mg base 2 "next_cascade_spreads" ["spreads"] (spNextS nextKN) f2 d2) (CB : Cal P w K mg base 3 "best_over" ["p", "rows", "last", "following"] (spBo2 f5 f2) f3 d3) : FnOk P w K mg base CX0 4 f fd ["p", "rows"] spBK := by
  refine F.ok scBK (fun vs H Q E h => ?_) (fun cdv A outer s H vs Q E hr h => ?_)
  · obtain ⟨p, r, rfl, _⟩ := h
    rfl
  · obtain ⟨p, r, rfl, h1, h2, h3, h4, k⟩ := h
    have hr2 : Room 2 _ := hr.mono (by decide)
    refine ⟨_, (pss_cons (ps_expr (pe_cal CW hr2 rfl (pa_cons (pv 0) pa_nil)))
      (pss_one (ps_ret (pe_cal CB hr rfl (pa_cons (pv 0) (pa_cons (pv 1) (pa_cons (pe_gint rfl hLC) (pa_cons (pe_gfn CN rfl) pa_nil)))))))), ?_⟩
    refine ⟨_, rfl, (p : Int), rfl, by omega, by omega, ?_⟩
    refine ⟨_, rfl, _, rfl, .inr ⟨p, 100, r, rfl, h1, h2, by omega, by omega, early73K h1 h2 h3 h4, fun v H1 hv s1 => ?_⟩⟩
    obtain ⟨q, eq, b⟩ := (fil_cas h1).best (r := r) (N := 101) (n := 60) (by omega) h3 (by omega) (by have := far_cas h1 h2; omega)
    have hv' : BoV H1 v (bo (gS (casN p) r) (cS (casN p) r) 101 0 none) := hv
    rw [eq] at hv'
    obtain ⟨l, rfl, hl⟩ := hv'
    exact k l q H1 b hl s1

/-- four readings -/
def Four (p : Nat) (r : Int) (a b c : Int) (v : V) : Prop := (∃ t, Wi p r t ∧ a = lj p r t) ∧ (∃ q, Bst (num p) 301 r q ∧ b = q.1) ∧ (∃ q, Bst (casN p) 101 r q ∧ c = q.1) ∧ BalV p r v
def spHeld : Sp := fun vs H Q _ => ∃ (p : Nat) (r : Int), vs = [.int p, .int r] ∧ 2 ≤ p ∧ p ≤ 7 ∧ 1 ≤ r ∧ r ≤ 201 ∧ ∀ l a b c v H', Four p r a b c v → H' l = some (.tup [.int a, .int b, .int c, v]) → Same H H' → Q (.ref l) H'
theorem scHeld : FnScope ["p", "rows", "balanced"] ["p", "rows"] (defScope sHeld) := ⟨rfl, rfl, rfl, by decide +kernel, rfl, by decide +kernel, by decide +kernel⟩
theorem ok_held {f f1 f2 f3 f4 f5 : Addr} {fd d1 d2 d3 d4 d5 : FuncData} (F : Fun K "held_rows" "held_rows" sHeld f fd) (CW : Cal P w K mg base 2 "check_ways" ["p"] spWays f1 d1) (CV : Cal P w K mg base 2 "balanced_reading" ["p", "rows", "things"] spBalR f2 d2) (CL : Cal P w K mg base 1 "like_join" ["p", "rows"] spLike f3 d3) (CR : Cal P w K mg base 4 "best_reading" ["p", "rows"] spBR f4 d4) (CK : Cal P w K mg base 4 "best_cascade" ["p", "rows"] spBK f5 d5) : FnOk P w K mg base CX0 5 f fd ["p", "rows"] spHeld := by
  refine F.ok scHeld (fun vs H Q E h => ?_) (fun cdv A outer s H vs Q E hr h => ?_)
  · obtain ⟨p, r, rfl, _⟩ := h
    rfl
  · obtain ⟨p, r, rfl, h1, h2, h3, h4, k⟩ := h
    have hr1 : Room 1 _ := hr.mono (by decide)
    have hr2 : Room 2 _ := hr.mono (by decide)
    refine ⟨_, (pss_cons (ps_expr (pe_cal CW hr2 rfl (pa_cons (pv 0) pa_nil)))
      (pss_cons (ps_set (i := 2) scHeld.nd rfl (Or.inl rfl) (pe_cal CV hr2 rfl (pa_cons (pv 0) (pa_cons (pv 1) (pa_cons (pv 1) pa_nil)))))
      (pss_one (ps_ret (pe_tup (pa_cons (pe_cal CL hr1 rfl (pa_cons (pv 0) (pa_cons (pv 1) pa_nil))) (pa_cons (pe_ix ix_tup (pe_cal CR hr rfl (pa_cons (pv 0) (pa_cons (pv 1) pa_nil))) pe_int (fun _ _ => rfl)) (pa_cons (pe_ix ix_tup (pe_cal CK hr rfl (pa_cons (pv 0) (pa_cons (pv 1) pa_nil))) pe_int (fun _ _ => rfl)) (pa_cons (pv 2) pa_nil))))))))), ?_⟩
    refine ⟨_, rfl, (p : Int), rfl, by omega, by omega, ?_⟩
    refine ⟨_, rfl, _, rfl, _, rfl, p, r, rfl, h1, h2, h3, by omega, fun v hv => ?_⟩
    refine ⟨_, rfl, _, rfl, p, r, rfl, h1, h2, h3, by omega, fun t ht => ?_⟩
    refine ⟨_, rfl, _, rfl, p, r, rfl, h1, h2, h3, h4, fun l1 q1 H1 b1 hl1 s1 => ?_⟩
    refine ⟨l1, _, 0, .int q1.1, rfl, rfl, SqT.of hl1, rfl, ?_⟩
    refine ⟨_, rfl, _, rfl, p, r, rfl, h1, h2, h3, h4, fun l2 q2 H2 b2 hl2 s2 => ?_⟩
    refine ⟨l2, _, 0, .int q2.1, rfl, rfl, SqT.of hl2, rfl, ?_⟩
    refine ⟨_, rfl, (by show 4 ≤ sizeLine; decide), fun l hl => k l _ _ _ _ _ ⟨⟨t, ht, rfl⟩, ⟨q1, b1, rfl⟩, ⟨q2, b2, rfl⟩, hv⟩ upd_same ((s1.trans s2).trans (Same.new hl))⟩

end
end Fh73

set_option Elab.async false
set_option linter.all false
set_option maxRecDepth 100000
set_option maxHeartbeats 4000000
namespace Fh73
open PySem L2 Lv
section
variable {P : Program} {w : World} {K : PySem.W.Frag} {mg : Str → Option Value} {base : Heap}
/-! ### is_whole -/
theorem scWhole : FnScope ["thing"] ["thing"] (defScope sWhole) := ⟨rfl, rfl, rfl, by decide +kernel, rfl, by decide +kernel, by decide +kernel⟩
theorem ok_whole {f : Addr} {fd : FuncData} (F : Fun K "is_whole" "is_whole" sWhole f fd) (T : Txt mg) : FnOk P w K mg base CX0 1 f fd ["thing"] spWhole := by
  refine F.ok scWhole (fun vs H Q E h => ?_) (fun cdv A outer s H vs Q E hr h => ?_)
  · obtain ⟨i, rfl, _⟩ := h
    rfl
  · obtain ⟨i, rfl, k⟩ := h
    refine ⟨_, pss_one (ps_ret (pe_and (pe_callB call_isinst rfl T.isinstance b_isinstance (pa_cons (pv 0) (pa_cons (pe_ty rfl T.int b_int) pa_nil)))
      (pe_one (pe_not (pe_callB call_isinst rfl T.isinstance b_isinstance (pa_cons (pv 0) (pa_cons (pe_ty rfl T.bool b_bool) pa_nil))))))), ?_⟩
    refine ⟨_, rfl, .int i, "int", _, true, rfl, .int i, kit_int_int, true, rfl, iteT ?_⟩
    exact ⟨_, rfl, .int i, "bool", _, false, rfl, .int i, kit_int_bool, false, rfl, k⟩
/-! ### check_ways -/
theorem scWays : FnScope ["p"] ["p"] (defScope sWays) := ⟨rfl, rfl, rfl, by decide +kernel, rfl, by decide +kernel, by decide +kernel⟩
theorem ok_ways {f fW : Addr} {fd dW : FuncData} {t2 t7 : Tok} (F : Fun K "check_ways" "check_ways" sWays f fd) (T : Txt mg) (hL : mg "LEAST_WAYS" = some (.int 2 t2)) (hM : mg "MOST_WAYS" = some (.int 7 t7)) (CW : Cal P w K mg base 1 "is_whole" ["thing"] spWhole fW dW) :
    FnOk P w K mg base CX0 2 f fd ["p"] spWays := by
  refine F.ok scWays (fun vs H Q E h => ?_) (fun cdv A outer s H vs Q E hr h => ?_)
  · obtain ⟨i, rfl, _⟩ := h
    rfl
  · obtain ⟨i, rfl, h1, h2, k⟩ := h
    refine ⟨_, pss_one (ps_if (PW.pt (pw_or (pt_not (pt_val (pe_cal CW hr rfl (pa_cons (pv 0) pa_nil))))
      (pw_or1 (pt_not (pt_chain op_le op_le (pe_gint rfl hL) (pv 0) (pe_gint rfl hM)))))) pss_never pss_nil), ?_⟩
    refine ⟨_, rfl, i, rfl, true, rfl, iteF ?_⟩
    refine ⟨_, rfl, 2, i, rfl, rfl, _, rfl, ?_⟩
    rw [decide_eq_true h1]
    refine iteT ⟨i, 7, rfl, rfl, _, rfl, ?_⟩
    rw [decide_eq_true h2]
    exact iteF k
/-! ### lawPotT -/
theorem scPotT : FnScope ["script", "k", "cell", "prime"] ["script", "k"] (defScope sPotT) := ⟨rfl, rfl, rfl, by decide +kernel, rfl, by decide +kernel, by decide +kernel⟩
theorem ix5 {d : Int} (h0 : 0 ≤ d) (h1 : d < 5) : ∃ v : Int, atI [V.int 2147483629, .int 2147483587, .int 2147483579, .int 2147483563, .int 2147483549] d = some (.int v) ∧ 0 < v ∧ v ≤ 2147483647 := by
  have : d = 0 ∨ d = 1 ∨ d = 2 ∨ d = 3 ∨ d = 4 := by omega
  rcases this with rfl | rfl | rfl | rfl | rfl
  all_goals exact ⟨_, rfl, by decide, by decide⟩
theorem ok_potT {f : Addr} {fd : FuncData} (F : Fun K "_law_pot" "_law_pot" sPotT f fd) (T : Txt mg) : FnOk P w K mg base CX0 1 f fd ["script", "k"] (spPotT K) := by
  refine F.ok scPotT (fun vs H Q E h => ?_) (fun cdv A outer s H vs Q E hr h => ?_)
  · obtain ⟨a, ns, i, rfl, _⟩ := h
    rfl
  · obtain ⟨a, ns, i, rfl, hS, i0, i1, k⟩ := h
    refine ⟨_, pss_cons (ps_set (i := 2) scPotT.nd rfl (Or.inl rfl) pe_int)
      (pss_cons (ps_if (pt_cmpR op_lt (pv 1) (pe_callB call_len_seq rfl T.len PySem.boot_len (pa_cons (pv 0) pa_nil)) (nomark _)) (pss_one (ps_set (i := 2) scPotT.nd rfl (Or.inl rfl) (pe_op op_mod (pe_ix ix_list (pv 0) (pv 1) (fun _ _ => rfl)) (pe_op op_mulB (pe_op op_mulB (pe_op op_pow pe_int pe_int) (pe_op op_pow pe_int pe_int)) (pe_op op_pow pe_int pe_int))))) pss_nil)
      (pss_cons (ps_set (i := 3) scPotT.nd rfl (Or.inl rfl) (pe_ix ix_list (pe_lst (pa_cons pe_int (pa_cons pe_int (pa_cons pe_int (pa_cons pe_int (pa_cons pe_int pa_nil)))))) (pe_op op_mod (pv 1) pe_int) (fun _ _ => rfl)))
      (pss_one (ps_ret (pe_lst (pa_cons (pe_callB (call_max2 rfl) rfl T.max b_max (pa_cons pe_int (pa_cons (pe_op op_sub (pv 2) (pe_op op_pow pe_int pe_int)) pa_nil)))
        (pa_cons (pe_op op_mod (pe_op op_pow (pe_op op_add (pe_op op_add (pe_op op_mod (pv 2) (pv 3)) (pe_op op_mul pe_int (pv 1))) pe_int) pe_int) pe_int) pa_nil))))))), ?_⟩
    refine cut2 (fun σ' H' => ∃ c : Int, σ' = [some (.ref a), some (.int i), some (.int c), none] ∧ H' = H) (fun R2 hR2 => ?_) ?_
    · refine ⟨_, rfl, _, rfl, a, _, rfl, .inl hS, _, _, rfl, rfl, _, rfl, ?_⟩
      refine ite2 (fun hc => ?_) (fun hc => hR2 _ _ ⟨_, rfl, rfl⟩)
      have hc' : i < (ns.length : Int) := by have := of_decide_eq_true hc; rwa [List.length_map] at this
      obtain ⟨w1, w2, w3⟩ := pow60
      refine ⟨_, rfl, _, rfl, a, _, i, _, rfl, rfl, hS, atI_int i0 hc', ?_⟩
      refine ⟨10, 60, rfl, rfl, ⟨by decide, by decide, by decide⟩, 10, 60, rfl, rfl, ⟨by decide, by decide, by decide⟩, _, _, rfl, rfl, ⟨1000, 1000, w2, w2, by decide⟩, 10, 60, rfl, rfl, ⟨by decide, by decide, by decide⟩, _, _, rfl, rfl, ⟨1000, 1000, w3, w2, by decide⟩, _, _, rfl, rfl, w1, ?_⟩
      exact hR2 _ _ ⟨_, rfl, rfl⟩
    · rintro σ' H' ⟨c, rfl, rfl⟩
      refine ⟨(by show 5 ≤ sizeLine; decide), fun q hq => ?_⟩
      refine ⟨_, rfl, i, 5, rfl, rfl, (by show (0 : Int) < 5; decide), ?_⟩
      obtain ⟨v, ev, v0, v1⟩ := ix5 (Int.emod_nonneg i (show (5 : Int) ≠ 0 by decide)) (Int.emod_lt_of_pos i (show (0 : Int) < 5 by decide))
      refine ⟨q, _, _, _, rfl, rfl, SqL.of upd_same, ev, ?_⟩
      refine ⟨_, rfl, 10, 18, rfl, rfl, ⟨by decide, by decide, by decide⟩, _, _, rfl, rfl, _, _, rfl, ?_⟩
      refine ⟨_, rfl, _, rfl, c, v, rfl, rfl, v0, _, rfl, 7919, i, rfl, rfl, .inl ⟨by decide, by decide⟩, _, _, rfl, rfl, _, 11, rfl, rfl, _, 3, rfl, rfl, ⟨by decide, by decide, ?_⟩, _, 2147483647, rfl, rfl, (by show (0 : Int) < 2147483647; decide), (by show 2 ≤ sizeLine; decide), fun l hl => ?_⟩
      · have m0 := Int.emod_nonneg c (show v ≠ 0 by omega)
        have m1 := Int.emod_lt_of_pos c v0
        generalize c % v = y at m0 m1
        omega
      · refine k l _ ((Same.new hq).free hl) ⟨_, _, upd_same, Int.emod_nonneg _ (by decide), ?_⟩ ((Same.new hq).trans (Same.new hl))
        exact Int.lt_trans (Int.emod_lt_of_pos _ (by decide)) (by decide)
/-! ### lawTakeT -/
theorem scTakeT : FnScope ["pot", "many", "found"] ["pot", "many"] (defScope sTakeT) := ⟨rfl, rfl, rfl, by decide +kernel, rfl, by decide +kernel, by decide +kernel⟩
theorem ok_takeT {f : Addr} {fd : FuncData} (F : Fun K "_law_take" "_law_take" sTakeT f fd) (T : Txt mg) : FnOk P w K mg base CX0 1 f fd ["pot", "many"] spTakeT := by
  refine F.ok scTakeT (fun vs H Q E h => ?_) (fun cdv A outer s H vs Q E hr h => ?_)
  · obtain ⟨p, m, rfl, _⟩ := h
    rfl
  · obtain ⟨p, m, rfl, ⟨a, b, hp, b0, b1⟩, h0, h1, k⟩ := h
    refine ⟨_, pss_cons (ps_if (pt_cmpR op_gt (pe_ix ix_list (pv 0) pe_int (fun _ _ => rfl)) pe_int (nomark _))
        (pss_cons (ps_set (i := 2) scTakeT.nd rfl (Or.inl rfl) (pe_op op_mod (pe_ix ix_list (pv 0) pe_int (fun _ _ => rfl)) (pv 1)))
        (pss_cons (ps_asg (pe_op op_fdivB (pe_ix ix_list (pv 0) pe_int (fun _ _ => rfl)) (pv 1)) (pg_sub (pv 0) pe_int set_list))
        (pss_one (ps_ret (pv 2))))) pss_nil)
      (pss_cons (ps_asg (pe_op op_mod (pe_op op_add (pe_op op_mul (pe_ix ix_list (pv 0) pe_int (fun _ _ => rfl)) pe_int) pe_int) pe_int) (pg_sub (pv 0) pe_int set_list))
      (pss_one (ps_ret (pe_op op_mod (pe_op op_fdiv (pe_op op_mod (pe_op op_pow (pe_ix ix_list (pv 0) pe_int (fun _ _ => rfl)) pe_int) pe_int) pe_int) (pv 1))))), ?_⟩
    refine ⟨_, rfl, p, _, 0, .int a, rfl, rfl, SqL.of hp, rfl, _, _, rfl, rfl, _, rfl, ?_⟩
    refine ite2 (fun _ => ?_) (fun _ => ?_)
    · refine ⟨_, rfl, p, _, 0, .int a, rfl, rfl, SqL.of hp, rfl, _, rfl, a, m, rfl, rfl, h0, ?_⟩
      refine ⟨_, rfl, p, _, 0, .int a, rfl, rfl, SqL.of hp, rfl, _, rfl, a, m, rfl, rfl, ⟨h0, h1⟩, _, rfl, p, _, 0, 0, rfl, rfl, hp, rfl, _, rfl, ?_⟩
      exact k _ _ (Int.emod_nonneg _ (by omega)) (Int.emod_lt_of_pos _ h0) ⟨_, _, upd_same, b0, b1⟩ Sm.put
    · have n0 := Int.emod_nonneg (b * 48271 + 12820163) (show (2147483647 : Int) ≠ 0 by decide)
      have n1 := Int.emod_lt_of_pos (b * 48271 + 12820163) (show (0 : Int) < 2147483647 by decide)
      refine ⟨_, rfl, p, _, 1, .int b, rfl, rfl, SqL.of hp, rfl, b, 48271, rfl, rfl, .inr ⟨by decide, by decide⟩, _, 12820163, rfl, rfl, _, 2147483647, rfl, rfl, (by show (0 : Int) < 2147483647; decide), _, rfl, p, _, 1, 1, rfl, rfl, hp, rfl, ?_⟩
      have hp1 : (upd H p (.lst ([V.int a, .int b].set 1 (.int ((b * 48271 + 12820163) % 2147483647))))) p = some (.lst [.int a, .int ((b * 48271 + 12820163) % 2147483647)]) := by rw [upd_same]; rfl
      refine ⟨_, rfl, p, _, 1, .int ((b * 48271 + 12820163) % 2147483647), rfl, rfl, SqL.of hp1, rfl, _, 3, rfl, rfl, ⟨by decide, by decide, ?_⟩, _, 2147483629, rfl, rfl, (by show (0 : Int) < 2147483629; decide), _, 8, rfl, rfl, ⟨by decide, by decide⟩, _, rfl, _, m, rfl, rfl, h0, ?_⟩
      · generalize (b * 48271 + 12820163) % 2147483647 = y at n0 n1
        omega
      · exact k _ _ (Int.emod_nonneg _ (by omega)) (Int.emod_lt_of_pos _ h0) ⟨_, _, hp1, n0, Int.lt_trans n1 (by decide)⟩ Sm.put
end
end Fh73

set_option Elab.async false
set_option linter.all false
set_option maxRecDepth 100000
set_option maxHeartbeats 4000000
namespace Fh73
open PySem L2 Lv
section
variable {P : Program} {w : World} {K : PySem.W.Frag} {mg : Str → Option Value} {base : Heap}
theorem scLCounts : FnScope ["p", "n", "counts", "turn"] ["p", "n"] (defScope sLCnt) := ⟨rfl, rfl, rfl, by decide +kernel, rfl, by decide +kernel, by decide +kernel⟩
theorem ok_lcounts {f : Addr} {fd : FuncData} (F : Fun K "_law_counts" "_law_counts" sLCnt f fd) (T : Txt mg) : FnOk P w K mg base CX0 1 f fd ["p", "n"] spLCounts := by
  refine F.ok scLCounts (fun vs H Q E h => ?_) (fun cdv A outer s H vs Q E hr h => ?_)
  · obtain ⟨p, n, rfl, _⟩ := h
    rfl
  · obtain ⟨p, n, rfl, h1, h2, h3, k⟩ := h
    refine ⟨_, pss_cons (ps_set (i := 2) scLCounts.nd rfl (Or.inr rfl) (pe_op op_cat (pe_lst (pa_cons pe_int pa_nil)) (pe_op op_rep (pe_lst (pa_cons pe_int pa_nil)) (pe_op op_sub (pv 0) pe_int))))
      (pss_cons (ps_for PassesOwn.never rfl (pi_range1 rfl T.range (pa_cons (pv 1) pa_nil)) (pg_name (i := 3) scLCounts.nd rfl (Or.inl rfl))
        (pss_one (ps_set (i := 2) scLCounts.nd rfl (Or.inr rfl) (pe_op op_cat
          (pe_comp (own := ["more"]) (js := [2]) (CompOk.by (sc := defScope sLCnt) (N := ["p", "n", "counts", "turn"]) rfl rfl (by decide +kernel)) rfl (pi_list (pe_slice sl_list (pv 2) (po_some pe_int) po_none)) gkeep_name
            (fun _ _ _ _ _ => pg_name (i := 0) (by show (["more", "counts"] : List Str).Nodup; decide +kernel) rfl (Or.inl rfl) (.inr rfl)) (fun _ _ _ _ _ => pts_nil) (fun _ _ _ _ _ => pe_op op_add (pe_ix (ixK_list K) (pv 1) pe_int (fun _ _ => rfl)) (pv 0)))
          (pe_lst (pa_cons (pe_ix ix_list (pv 2) pe_int (fun _ _ => rfl)) pa_nil))))))
      (pss_one (ps_ret (pv 2)))), ?_⟩
    refine ⟨(by show 1 ≤ sizeLine; decide), fun p1 e1 => ⟨(by show 1 ≤ sizeLine; decide), fun p2 e2 => ⟨_, rfl, _, _, rfl, rfl, ?_⟩⟩⟩
    have z2 : (upd (upd H p1 (.lst [.int 1])) p2 (.lst [.int 0])) p1 = some (.lst [.int 1]) := by rw [upd_ne (ne_of_none upd_same e2)]; exact upd_same
    refine ⟨p2, (p : Int) - 1, _, rfl, rfl, upd_same, by omega, by omega, ?_, fun p3 e3 => ?_⟩
    · exact Nat.le_of_lt (small1000 (by show 1 * ((p : Int) - 1).toNat ≤ 1000; omega))
    have z3 := (Same.new (o := .lst (List.replicate ((p : Int) - 1).toNat [V.int 0]).flatten) e3) p1 _ z2
    have ez : (List.replicate ((p : Int) - 1).toNat [V.int 0]).flatten = List.replicate (p - 1) (V.int 0) := by
      rw [show ((p : Int) - 1).toNat = p - 1 by omega]
      exact List.flatten_replicate_singleton
    rw [ez] at z3 ⊢
    refine ⟨p1, p3, _, _, rfl, rfl, z3, upd_same, ?_, fun p4 e4 => ?_⟩
    · exact Nat.le_of_lt (small1000 (by rw [List.length_replicate]; show 1 + (p - 1) ≤ 1000; omega))
    have s4 := (((Same.new (o := .lst [.int 1]) e1).trans (Same.new (o := .lst [.int 0]) e2)).trans (Same.new (o := .lst (List.replicate (p - 1) (V.int 0))) e3)).trans (Same.new (o := .lst ([.int 1] ++ List.replicate (p - 1) (V.int 0))) e4)
    have n4 : H p4 = none := (((Same.new (o := .lst [.int 1]) e1).trans (Same.new (o := .lst [.int 0]) e2)).trans (Same.new (o := .lst (List.replicate (p - 1) (V.int 0))) e3)).free e4
    refine ⟨_, rfl, n, rfl, by omega, by omega, for_range (fun i σ H2 => ∃ (l : Addr) (o : Option V), σ = [some (.int p), some (.int n), some (.ref l), o] ∧ H l = none ∧ H2 l = some (.lst ((cnt p i).map V.int)) ∧ Same H H2)
      ⟨p4, none, rfl, n4, by rw [upd_same]; simp [cnt, firstC], s4⟩ ?_ ?_⟩
    · rintro i σ H2 hi ⟨l, o, rfl, hl0, hl2, s2⟩
      have hlen := cnt_len (p := p) (by omega) i
      have ex : cnt p (i + 1) = nextC (cnt p i) := rfl
      rw [ex]
      generalize cnt p i = c at *
      obtain ⟨c0, cr, rfl⟩ : ∃ c0 cr, c = c0 :: cr := by
        cases c with
        | nil => simp at hlen; omega
        | cons x y => exact ⟨x, y, rfl⟩
      have hcr : cr.length = p - 1 := by simp at hlen; omega
      refine ⟨_, rfl, 1, rfl, l, _, rfl, SqL.of hl2, fun lq eq => ?_⟩
      rw [List.map_cons, cut_1]
      have hlq : (upd H2 lq (.lst (cr.map V.int))) lq = some (.lst (cr.map V.int)) := upd_same
      have sq : Same H2 (upd H2 lq (.lst (cr.map V.int))) := Same.new eq
      generalize (upd H2 lq (.lst (cr.map V.int))) = H2' at hlq sq ⊢
      refine ⟨lq, rfl, ⟨_, SqL.of hlq⟩, ?_⟩
      refine comp_list (xs := cr.map V.int) (fun acc j H3 => Same H2' H3 ∧ H3 acc = some (.lst (((cr.take j).map (c0 + ·)).map V.int))) (fun acc h0 => ⟨Same.new h0, upd_same⟩) (fun acc j H3 h0 _ p => p.1.seq (SqL.of hlq)) ?_ ?_
      · rintro acc j x H3 h0 hx ⟨s3, hacc⟩
        obtain ⟨z, hz, rfl⟩ := map_get hx
        have hj := (List.getElem?_eq_some_iff.mp hz).1
        have hl3 := s3 l _ (sq l _ hl2)
        refine ⟨_, rfl, l, _, 0, .int c0, rfl, rfl, SqL.of hl3, atI_head, _, rfl, _, _, rfl, rfl, _, hacc, ?_, by rw [List.length_map]; exact hj, s3.put h0, ?_⟩
        · exact small1000 (by simp; omega)
        · rw [upd_same, List.take_add_one, hz, Option.toList_some, List.map_append, List.map_append]
          rfl
      · rintro acc H3 h0 ⟨s3, hacc⟩
        rw [List.length_map, List.take_length] at hacc
        have hl3 := s3 l _ (sq l _ hl2)
        refine ⟨_, rfl, l, _, 0, .int c0, rfl, rfl, SqL.of hl3, atI_head, (by show 1 ≤ sizeLine; decide), fun q2 f2 => ?_⟩
        refine ⟨acc, q2, _, _, rfl, rfl, (Same.new f2) acc _ hacc, upd_same, ?_, fun q3 f3 => ?_⟩
        · exact Nat.le_of_lt (small1000 (by simp; omega))
        have s5 := (s2.trans sq).trans (s3.trans (Same.new (o := .lst [.int c0]) f2))
        refine ⟨q3, _, rfl, s5.free f3, ?_, s5.trans (Same.new f3)⟩
        rw [upd_same]
        simp [nextC]
    · rintro σ H2 ⟨l, o, rfl, hl0, hl2, s2⟩
      refine ⟨_, rfl, k l H2 hl0 ?_ s2⟩
      simpa using hl2

theorem scLWhole : FnScope ["thing"] ["thing"] (defScope sLWhole) := ⟨rfl, rfl, rfl, by decide +kernel, rfl, by decide +kernel, by decide +kernel⟩
theorem ok_lwhole {f : Addr} {fd : FuncData} (F : Fun K "_law_whole" "_law_whole" sLWhole f fd) (T : Txt mg) : FnOk P w K mg base CX0 1 f fd ["thing"] spWhole := by
  refine F.ok scLWhole (fun vs H Q E h => ?_) (fun cdv A outer s H vs Q E hr h => ?_)
  · obtain ⟨i, rfl, _⟩ := h
    rfl
  · obtain ⟨i, rfl, k⟩ := h
    refine ⟨_, pss_one (ps_ret (pe_and (pe_callB call_isinst rfl T.isinstance b_isinstance (pa_cons (pv 0) (pa_cons (pe_ty rfl T.int b_int) pa_nil)))
      (pe_one (pe_not (pe_callB call_isinst rfl T.isinstance b_isinstance (pa_cons (pv 0) (pa_cons (pe_ty rfl T.bool b_bool) pa_nil))))))), ?_⟩
    refine ⟨_, rfl, .int i, "int", _, true, rfl, .int i, kit_int_int, true, rfl, iteT ?_⟩
    exact ⟨_, rfl, .int i, "bool", _, false, rfl, .int i, kit_int_bool, false, rfl, k⟩

def spLPass : Sp := fun vs H Q _ => ∃ (p : Nat) (r : Int), vs = [.int p, .int r, .int r] ∧ 2 ≤ p ∧ p ≤ 7 ∧ 1 ≤ r ∧ r ≤ 1000000000001 ∧ ∀ v, BalV p r v → Q v H
theorem scLPass : FnScope ["p", "rows", "whole", "made", "read"] ["p", "rows", "whole"] (defScope sLPass) := ⟨rfl, rfl, rfl, by decide +kernel, rfl, by decide +kernel, by decide +kernel⟩
theorem ok_lpass {f : Addr} {fd : FuncData} (F : Fun K "_law_passes" "_law_passes" sLPass f fd) : FnOk P w K mg base CX0 1 f fd ["p", "rows", "whole"] spLPass := by
  refine F.ok scLPass (fun vs H Q E h => ?_) (fun cdv A outer s H vs Q E hr h => ?_)
  · obtain ⟨p, r, rfl, _⟩ := h
    rfl
  · obtain ⟨p, r, rfl, h1, h2, r1, r2, k⟩ := h
    refine ⟨_, (pss_cons (ps_if (pt_cmpR op_eq (pv 0) pe_int (nomark _))
      (pss_one (ps_ret pe_non))
      pss_nil)
      (pss_cons (ps_set (i := 3) scLPass.nd rfl (Or.inl rfl) pe_int)
      (pss_cons (ps_set (i := 4) scLPass.nd rfl (Or.inl rfl) pe_int)
      (pss_cons (ps_while PassesOwn.never (pt_cmpR op_lt (pv 3) (pv 1) (nomark _))
      (pss_cons (ps_set (i := 3) scLPass.nd rfl (Or.inl rfl) (pe_op op_mul (pv 3) (pe_op op_fdiv (pe_op op_add (pv 0) pe_int) pe_int)))
        (pss_one (ps_set (i := 4) scLPass.nd rfl (Or.inl rfl) (pe_op op_add (pv 4) (pv 2))))))
      (pss_one (ps_ret (pv 4))))))), ?_⟩
    refine ⟨_, rfl, rfl, _, rfl, ite2 (fun hc => ?_) (fun hc => ?_)⟩
    · have e : (p : Int) = 2 := V.int.inj (of_decide_eq_true hc)
      exact k _ (.inl ⟨by omega, rfl⟩)
    have e : p ≠ 2 := fun e => hc (decide_eq_true (by rw [e]; rfl))
    obtain ⟨h, hh, h2', h7⟩ : ∃ h : Int, (p : Int) / 2 + (p : Int) % 2 = h ∧ 2 ≤ h ∧ h ≤ 7 := ⟨_, rfl, by omega, by omega⟩
    have k' : ∀ t : Nat, Ps h r t → Q (.int (r * t)) H := fun t ht => k _ (.inr ⟨by omega, t, by rw [hh]; exact ht, rfl⟩)
    refine ⟨fun m σ H2 => ∃ t : Nat, σ = [some (.int p), some (.int r), some (.int r), some (.int (h ^ t)), some (.int (r * t))] ∧ H2 = H ∧ (∀ j, j < t → h ^ j < r) ∧ m = (r - h ^ t).toNat, ⟨_, 0, by rw [Int.pow_zero, show r * ((0 : Nat) : Int) = 0 from Int.mul_zero r]; rfl, rfl, fun j hj => absurd hj (Nat.not_lt_zero _), rfl⟩, ?_⟩
    rintro m σ H2 ⟨t, rfl, rfl, ht, rfl⟩
    have w1 := pow_t h2' (t := t)
    have e1 : h ^ (t + 1) = h ^ t * h := Int.pow_succ ..
    have e2 : r * ((t + 1 : Nat) : Int) = r * t + r := by rw [Int.natCast_add, Int.mul_add]; simp
    have h3 : h ^ t * 2 ≤ h ^ t * h := Int.mul_le_mul_of_nonneg_left (by omega) (by omega)
    refine ⟨_, rfl, _, rfl, _, _, rfl, rfl, _, rfl, ?_⟩
    refine ite2 (fun hc => ?_) (fun hc => ?_)
    · have hc' : h ^ t < r := of_decide_eq_true hc
      refine ⟨fun σ H' => σ = [some (.int p), some (.int r), some (.int r), some (.int (h ^ (t + 1))), some (.int (r * ((t + 1 : Nat) : Int)))] ∧ H' = H2, ?_, ?_⟩
      · rintro σ' H' ⟨rfl, rfl⟩
        exact ⟨_, by omega, t + 1, rfl, rfl, Ps.step ht hc', rfl⟩
      · refine ⟨_, rfl, _, rfl, _, _, rfl, rfl, _, _, rfl, rfl, ⟨by decide, by decide⟩, ?_⟩
        dsimp only
        rw [half_eq, hh]
        refine ⟨_, _, rfl, rfl, .inr ⟨by omega, by omega⟩, _, rfl, _, rfl, _, _, rfl, rfl, ?_, rfl⟩
        rw [e1, e2]
        rfl
    · have hc' : ¬ h ^ t < r := fun z => hc (decide_eq_true z)
      exact ⟨_, rfl, k' t ⟨by omega, ht⟩⟩

end
end Fh73

set_option Elab.async false
set_option linter.all false
set_option maxRecDepth 100000
set_option maxHeartbeats 4000000
namespace Fh73
open PySem L2 Lv
section
variable {P : Program} {w : World} {K : PySem.W.Frag} {mg : Str → Option Value} {base : Heap}
theorem take_ext {A : List Int} {n most : Nat} {a : Int} : (A ++ List.replicate n a).take most = A.take most ++ List.replicate (min n (most - (A.take most).length)) a := by
  rw [List.take_append, List.take_replicate]
  congr 2
  rw [List.length_take]
  omega
theorem rep_flat (n : Nat) (a : Int) : (List.replicate n [V.int a]).flatten = (List.replicate n a).map V.int := by
  induction n with
  | zero => rfl
  | succ n ih => rw [List.replicate_succ, List.flatten_cons, ih, List.replicate_succ]; rfl
theorem filt_sum (i : Nat) : ∀ Rs : List (List Int), ((Rs.filter fun U => decide (i < U.length)).map fun U => U.getD i 0).sum = (Rs.map fun U => U.getD i 0).sum
  | [] => rfl
  | U :: Rs => by
    rw [List.filter_cons]
    by_cases h : i < U.length
    · rw [if_pos (decide_eq_true h), List.map_cons, List.sum_cons, List.map_cons, List.sum_cons, filt_sum i Rs]
    · rw [if_neg (by simpa using h), List.map_cons, List.sum_cons, filt_sum i Rs, List.getD_eq_getElem?_getD, List.getElem?_eq_none (by omega)]
      simp
def spNms : Sp := fun vs H Q _ => ∃ (a : Addr) (rs : List Addr) (Rs N : List (List Int)) (most : Nat), vs = [.ref a, .int most] ∧ H a = some (.lst (rs.map V.ref)) ∧ LLs H rs Rs ∧ RpL Rs N ∧ (1 ≤ N.length ∧ N.length ≤ 7) ∧ (∀ R ∈ Rs, R.length ≤ 200) ∧ 1 ≤ most ∧ most ≤ 201 ∧
  ∀ l (B : Nat) H', H l = none → (∀ m ∈ N.flatten, 0 ≤ m ∧ m < B) → H' l = some (.lst (((exr N.flatten B).take most).map V.int)) → Same H H' → Q (.ref l) H'
theorem scNms : FnScope ["reels", "most", "found", "number", "many"] ["reels", "most"] (defScope sNms) := ⟨rfl, rfl, rfl, by decide +kernel, rfl, by decide +kernel, by decide +kernel⟩
theorem ok_nms {f : Addr} {fd : FuncData} (F : Fun K "_law_numbers" "_law_numbers" sNms f fd) (T : Txt mg) : FnOk P w K mg base CX0 1 f fd ["reels", "most"] spNms := by
  refine F.ok scNms (fun vs H Q E h => ?_) (fun cdv A outer s H vs Q E hr h => ?_)
  · obtain ⟨a, rs, Rs, N, most, rfl, _⟩ := h
    rfl
  · obtain ⟨a, rs, Rs, N, most, rfl, ha, hR, hP, hN, hlen, m1, m2, k⟩ := h
    refine ⟨_, (pss_cons (ps_set (i := 2) scNms.nd rfl (Or.inl rfl) (pe_lst pa_nil))
      (pss_cons (ps_for PassesOwn.never rfl (pi_range1 rfl T.range (pa_cons (pe_callB (call_maxB rfl) rfl T.max b_max (pa_cons (pe_comp (own := ["reel"]) (js := []) (CompOk.by (sc := defScope sNms) (N := ["reels", "most", "found", "number", "many"]) rfl rfl (by decide +kernel)) rfl (pi_seqB (pv 0)) gkeep_name (fun _ _ _ _ _ => (pg_name (i := 0) (by show (["reel"] : List Str).Nodup; decide +kernel) rfl (Or.inl rfl) (.inr rfl))) (fun _ _ _ _ _ => pts_nil) (fun _ _ _ _ _ => (pe_callB (callK_len K) rfl T.len PySem.boot_len (pa_cons (pv 0) pa_nil)))) pa_nil)) pa_nil)) (pg_name (i := 3) scNms.nd rfl (Or.inr rfl))
      (pss_cons (ps_set (i := 4) scNms.nd rfl (Or.inl rfl) (pe_callB (call_sumI rfl) rfl T.sum b_sum (pa_cons (pe_comp (own := ["reel"]) (js := [3]) (CompOk.by (sc := defScope sNms) (N := ["reels", "most", "found", "number", "many"]) rfl rfl (by decide +kernel)) rfl (pi_seqB (pv 0)) gkeep_name (fun _ _ _ _ _ => (pg_name (i := 0) (by show (["reel", "number"] : List Str).Nodup; decide +kernel) rfl (Or.inl rfl) (.inr rfl))) (fun _ _ _ _ _ => (pts_one (pt_cmpR op_lt (pv 1) (pe_callB (callK_len K) rfl T.len PySem.boot_len (pa_cons (pv 0) pa_nil)) (nomark _)))) (fun _ _ _ _ _ => (pe_ix (ixK_list K) (pv 0) (pv 1) (fun _ _ => rfl)))) pa_nil)))
        (pss_one (ps_expr (pe_bm PySem.F.plainAttrs_list PySem.F.slot_list_extend PySem.F.type_list_extend mt_extend (pv 2) (pa_cons (pe_op op_rep (pe_lst (pa_cons (pv 3) pa_nil)) (pe_callB (call_min2 rfl) rfl T.min b_min (pa_cons (pv 4) (pa_cons (pe_op op_sub (pv 1) (pe_callB call_len_seq rfl T.len PySem.boot_len (pa_cons (pv 2) pa_nil))) pa_nil)))) pa_nil))))))
      (pss_one (ps_ret (pv 2))))), ?_⟩
    have hrl : rs.length = N.length := by rw [hR.1, hP.1]
    refine ⟨(by show 0 ≤ sizeLine; decide), fun fl hfl => ?_⟩
    have s1 : Same H (upd H fl (.lst [])) := Same.new hfl
    have x1 : upd H fl (.lst []) fl = some (.lst []) := upd_same
    generalize upd H fl (.lst []) = H1 at s1 x1 ⊢
    refine ⟨_, rfl, a, true, rfl, ⟨_, SqL.of (s1 _ _ ha)⟩, ?_⟩
    refine comp_mapB ((Rs.map fun R => (R.length : Int)).map V.int) (show SqB true K H1 a (rs.map V.ref) from SqL.of (s1 _ _ ha)) (by simp [hR.1]) (by rw [List.length_map, hrl]; omega) (fun i x y hx hy H2 s2 R0 hR0 => ?_) fun acc H2 h0 s2 hacc => ?_
    · obtain ⟨q, hq, rfl⟩ := map_ref_get hx
      rw [List.map_map, List.getElem?_map] at hy
      obtain ⟨U, hU, rfl⟩ := Option.map_eq_some_iff.mp hy
      have := s2 _ _ (s1 _ _ (hR.2 i q U hq hU))
      refine ⟨_, rfl, q, _, rfl, .inl (SqL.of this), ?_⟩
      rw [List.length_map]
      exact hR0 H2 (Same.refl _)
    refine ⟨true, acc, Rs.map fun R => (R.length : Int), rfl, SqL.of hacc, fun e => ?_, fun B hB1 hB2 => ?_⟩
    · have : Rs = [] := by simpa using e
      have h5 : rs.length = 0 := by rw [hR.1, this]; rfl
      omega
    obtain ⟨B, rfl⟩ : ∃ B' : Nat, B = B' := by
      obtain ⟨U, _, rfl⟩ := List.mem_map.mp hB1
      exact ⟨_, rfl⟩
    have hBb : B ≤ 200 := by
      obtain ⟨U, hU, e⟩ := List.mem_map.mp hB1
      have := hlen U hU
      omega
    have hUB : ∀ U ∈ Rs, U.length ≤ B := fun U hU => by
      have := hB2 _ (List.mem_map_of_mem hU)
      omega
    have hall : ∀ m ∈ N.flatten, 0 ≤ m ∧ m < B := fun m hm => by
      have := (hP.all hUB).2 m hm
      rw [vec_len] at this
      exact this
    have s02 := s1.trans s2
    have x2 := s2 _ _ x1
    refine ⟨B, rfl, by omega, by omega, ?_⟩
    rw [Int.toNat_natCast]
    refine for_range (fun i σ H3 => ∃ o3 o4 : Option V, σ = [some (.ref a), some (.int most), some (.ref fl), o3, o4] ∧ H3 fl = some (.lst (((exr N.flatten i).take most).map V.int)) ∧ Same H H3) ⟨none, none, rfl, by rw [x2]; simp [exr], s02⟩ ?_ ?_
    · rintro i σ H3 hi ⟨o3, o4, rfl, hf3, s3⟩
      refine ⟨_, rfl, a, true, rfl, ⟨_, SqL.of (s3 _ _ ha)⟩, ?_⟩
      refine comp_seqB (b := true) (K := K) (a := a) (xs := rs.map V.ref) (fun acc j H4 => Same H3 H4 ∧ H4 acc = some (.lst ((((Rs.take j).filter fun U => decide (i < U.length)).map fun U => U.getD i 0).map V.int))) (fun acc h0 => ⟨Same.new h0, upd_same⟩) (fun acc j H4 h0 _ z => SqL.of (z.1 _ _ (s3 _ _ ha))) ?_ ?_
      · rintro acc j x H4 h0 hx ⟨s4, hacc⟩
        obtain ⟨q, hq, rfl⟩ := map_ref_get hx
        have hj : j < Rs.length := by rw [← hR.1]; exact (List.getElem?_eq_some_iff.mp hq).1
        have hU := List.getElem?_eq_getElem hj
        have hq4 := s4 _ _ (s3 _ _ (hR.2 j q _ hq hU))
        have hjr : j + 1 ≤ (rs.map V.ref).length := by rw [List.length_map, hR.1]; exact hj
        generalize Rs[j] = U at hU hq4
        refine ⟨_, rfl, _, rfl, q, _, rfl, .inl (SqL.of hq4), _, _, rfl, rfl, _, rfl, ite2 (fun hc => ?_) fun hc => ?_⟩
        · have hlt : i < U.length := by
            have := of_decide_eq_true hc
            rw [List.length_map] at this
            omega
          refine ⟨_, rfl, _, rfl, q, _, i, .int (U.getD i 0), rfl, ?_, SqL.of hq4, ?_, ?_⟩
          · rw [Int.zero_add]
          · refine atI_nat ?_
            rw [List.getElem?_map, List.getElem?_eq_getElem hlt, List.getD_eq_getElem?_getD, List.getElem?_eq_getElem hlt]
            rfl
          refine ⟨_, hacc, small1000 ?_, hjr, s4.put h0, ?_⟩
          · rw [List.length_map, List.length_map]
            have h1 := List.length_filter_le (fun U : List Int => decide (i < U.length)) (Rs.take j)
            have h2 : (Rs.take j).length ≤ Rs.length := by simp; omega
            have h3 := hP.1
            omega
          · rw [upd_same, List.take_add_one, hU]
            simp [List.filter_append, hlt]
        · have hge : ¬ i < U.length := fun z => hc (decide_eq_true (by rw [List.length_map]; omega))
          refine ⟨hjr, s4, ?_⟩
          rw [hacc, List.take_add_one, hU]
          simp [List.filter_append, hge]
      · rintro acc H4 h0 ⟨s4, hacc⟩
        rw [List.length_map, hR.1, List.take_length] at hacc
        refine ⟨acc, _, rfl, SqL.of hacc, ?_⟩
        have es : ((Rs.filter fun U => decide (i < U.length)).map fun U => U.getD i 0).sum = cn N.flatten i := by
          rw [cn_flat, ← hP.sum i]
          exact filt_sum i Rs
        rw [es]
        have hf4 := s4 _ _ hf3
        have c0 := cn_pos N.flatten i
        have tl : ((exr N.flatten i).take most).length ≤ most := by simp; omega
        refine ⟨_, rfl, .inl ⟨rfl, _, SqL.of hf4⟩, _, rfl, (by show 1 ≤ sizeLine; decide), fun q1 hq1 => ?_⟩
        have s5 : Same H4 (upd H4 q1 (.lst [.int (0 + (i : Int))])) := Same.new hq1
        have x5 : upd H4 q1 (.lst [.int (0 + (i : Int))]) q1 = some (.lst [.int (0 + (i : Int))]) := upd_same
        generalize upd H4 q1 (.lst [.int (0 + (i : Int))]) = H5 at s5 x5 ⊢
        have hf5 := s5 _ _ hf4
        refine ⟨_, rfl, _, rfl, _, rfl, fl, _, rfl, .inl (SqL.of hf5), _, _, rfl, rfl, _, _, rfl, ?_⟩
        rw [List.length_map]
        obtain ⟨kk, ek, hk⟩ : ∃ kk : Nat, (if (most : Int) - (((exr N.flatten i).take most).length : Int) < cn N.flatten i then (most : Int) - (((exr N.flatten i).take most).length : Int) else cn N.flatten i) = kk ∧ kk = min (cn N.flatten i).toNat (most - ((exr N.flatten i).take most).length) := by
          refine ⟨min (cn N.flatten i).toNat (most - ((exr N.flatten i).take most).length), ?_, rfl⟩
          split <;> omega
        rw [ek]
        have hkm : kk ≤ 201 := by omega
        refine ⟨q1, kk, _, rfl, rfl, x5, by omega, by omega, ?_, fun q2 hq2 => ?_⟩
        · rw [Int.toNat_natCast]
          exact Nat.le_of_lt (small1000 (by simp; omega))
        refine ⟨fl, q2, _, _, rfl, rfl, (Same.new hq2) _ _ hf5, upd_same, ?_, ?_⟩
        · rw [List.length_map, len_rep, Int.toNat_natCast]
          exact Nat.le_of_lt (small1000 (by simp; omega))
        refine ⟨_, _, rfl, ?_, (((s3.trans s4).trans s5).trans (Same.new hq2)).put hfl⟩
        rw [upd_same, Int.toNat_natCast, exr_succ, hk, take_ext]
        rw [List.map_append, Int.zero_add]
        rw [rep_flat]
    · rintro σ H3 ⟨o3, o4, rfl, hf3, s3⟩
      exact ⟨_, rfl, k fl B H3 hfl hall hf3 s3⟩

end
end Fh73

set_option Elab.async false
set_option linter.all false
set_option maxRecDepth 100000
set_option maxHeartbeats 4000000
namespace Fh73
open PySem L2 Lv
section
variable {P : Program} {w : World} {K : PySem.W.Frag} {mg : Str → Option Value} {base : Heap}
theorem b_any : bootBuiltins "any" = some (.builtin "any") := by decide +kernel
def spOpn : Sp := fun vs H Q _ => ∃ (a : Addr) (F : List Int) (most : Nat) (least : Int), vs = [.ref a, .int least] ∧ H a = some (.lst (F.map V.int)) ∧ F.length = most + 1 ∧ 1 ≤ most ∧ most ≤ 201 ∧ 0 ≤ least ∧ least ≤ 1000 ∧ ∀ b H', (b = true ↔ Opn most F least) → Same H H' → Q (.bl b) H'
theorem scOpn : FnScope ["found", "least"] ["found", "least"] (defScope sOpn) := ⟨rfl, rfl, rfl, by decide +kernel, rfl, by decide +kernel, by decide +kernel⟩
theorem ok_opn {f : Addr} {fd : FuncData} (F : Fun K "_law_open" "_law_open" sOpn f fd) (T : Txt mg) (Ta : mg "any" = none) : FnOk P w K mg base CX0 1 f fd ["found", "least"] spOpn := by
  refine F.ok scOpn (fun vs H Q E h => ?_) (fun cdv A outer s H vs Q E hr h => ?_)
  · obtain ⟨a, F, most, least, rfl, _⟩ := h
    rfl
  · obtain ⟨a, F0, most, least, rfl, ha, hF, m1, m2, l0, l1, k⟩ := h
    refine ⟨_, (pss_cons (ps_if (pt_cmpR op_lt (pe_ix ix_list (pv 0) (pe_un un_neg pe_int) (fun _ _ => rfl)) pe_int (nomark _))
      (pss_one (ps_ret pe_bl))
      pss_nil)
      (pss_one (ps_ret (pe_callB (call_any rfl) rfl Ta b_any (pa_cons (pe_comp (own := ["rows"]) (js := [0, 1]) (CompOk.by (sc := defScope sOpn) (N := ["found", "least"]) rfl rfl (by decide +kernel)) rfl (pi_range2 rfl T.range (pa_cons pe_int (pa_cons (pe_callB call_len_seq rfl T.len PySem.boot_len (pa_cons (pv 0) pa_nil)) pa_nil))) gkeep_name (fun _ _ _ _ _ => (pg_name (i := 0) (by show (["rows", "found", "least"] : List Str).Nodup; decide +kernel) rfl (Or.inl rfl) (.inr rfl))) (fun _ _ _ _ _ => pts_nil) (fun _ _ _ _ _ => (pe_cmpR op_lt (pe_op op_mul (pv 0) (pv 2)) (pe_ix (ixK_list K) (pv 1) (pv 0) (fun _ _ => rfl)) (nomark _)))) pa_nil))))), ?_⟩
    have hne : F0 ≠ [] := fun e => by rw [e] at hF; simp at hF
    have hlast : F0.getD most 0 = F0.getLast hne := by
      rw [List.getD_eq_getElem?_getD, List.getLast_eq_getElem, List.getElem?_eq_getElem (by omega)]
      simp [hF]
    have hat : atI (F0.map V.int) (-1) = some (.int (F0.getD most 0)) := by
      rw [hlast]
      conv => lhs; rw [← List.dropLast_concat_getLast hne, List.map_append]
      exact atI_last _ _
    refine ⟨_, rfl, 1, rfl, a, _, -1, _, rfl, rfl, SqL.of ha, hat, _, _, rfl, rfl, _, rfl, ite2 (fun hc => ?_) fun hc => ?_⟩
    · exact k true H ⟨fun _ => .inl (of_decide_eq_true hc), fun _ => rfl⟩ (Same.refl _)
    have hc' : ¬ F0.getD most 0 < 0 := fun z => hc (decide_eq_true z)
    refine ⟨_, rfl, a, _, rfl, .inl (SqL.of ha), 1, _, rfl, ⟨by decide, by decide, ?_, ?_⟩, ?_⟩
    · rw [List.length_map]; omega
    · rw [List.length_map]; omega
    rw [List.length_map, show (((F0.length : Int) - 1)).toNat = most by omega]
    refine comp_range (lo := 1) (n := most) (fun acc i H2 => Same H H2 ∧ H2 acc = some (.lst (((List.range i).map fun (x : Nat) => decide ((1 + (x : Int)) * least < F0.getD (1 + x) 0)).map V.bl))) (fun acc h0 => ⟨Same.new h0, upd_same⟩) ?_ ?_
    · rintro acc i H2 h0 hi ⟨s2, hacc⟩
      refine ⟨_, rfl, _, rfl, _, _, rfl, rfl, .inl ⟨by omega, by omega⟩, ?_⟩
      refine ⟨_, rfl, _, rfl, a, _, ((1 + i : Nat) : Int), .int (F0.getD (1 + i) 0), rfl, ?_, SqL.of (s2 _ _ ha), ?_, _, _, rfl, rfl, ?_⟩
      · rw [show ((1 + i : Nat) : Int) = 1 + (i : Int) by omega]
      · refine atI_nat ?_
        rw [List.getElem?_map, List.getElem?_eq_getElem (by omega), List.getD_eq_getElem?_getD, List.getElem?_eq_getElem (by omega)]
        rfl
      refine ⟨_, hacc, small1000 (by simp; omega), hi, s2.put h0, ?_⟩
      rw [upd_same, List.range_succ, List.map_append, List.map_append]
      rfl
    · rintro acc H2 h0 ⟨s2, hacc⟩
      refine ⟨acc, _, rfl, SqL.of hacc, k _ H2 ?_ s2⟩
      rw [List.any_eq_true]
      constructor
      · rintro ⟨b, hb, hb2⟩
        obtain ⟨x, hx, rfl⟩ := List.mem_map.mp hb
        have hx' := List.mem_range.mp hx
        have := of_decide_eq_true (show decide ((1 + (x : Int)) * least < F0.getD (1 + x) 0) = true from hb2)
        exact .inr ⟨1 + x, by omega, by omega, by rw [show ((1 + x : Nat) : Int) = 1 + (x : Int) by omega]; exact this⟩
      · rintro (z | ⟨j, j1, j2, z⟩)
        · exact absurd z hc'
        · obtain ⟨x, rfl⟩ : ∃ x, j = 1 + x := ⟨j - 1, by omega⟩
          refine ⟨true, List.mem_map.mpr ⟨x, List.mem_range.mpr (by omega), ?_⟩, rfl⟩
          rw [show ((1 + x : Nat) : Int) = 1 + (x : Int) by omega] at z
          exact decide_eq_true z

end
end Fh73

set_option Elab.async false
set_option linter.all false
set_option maxRecDepth 100000
set_option maxHeartbeats 4000000
namespace Fh73
open PySem L2 Lv
section
variable {P : Program} {w : World} {K : PySem.W.Frag} {mg : Str → Option Value} {base : Heap}
def nx (c : Bool) (N : List (List Int)) : List (List Int) := if c then nextKN N else nextN N
def spFur : Sp := fun vs H Q _ => ∃ (a : Addr) (c : Bool) (rs : List Addr) (Rs N : List (List Int)) (M : Nat), vs = [.ref a, .bl c] ∧ H a = some (.lst (rs.map V.ref)) ∧ LLs H rs Rs ∧ RpL Rs N ∧ 2 ≤ N.length ∧ N.length ≤ 7 ∧ (∀ R ∈ Rs, R.length ≤ M) ∧ M ≤ 190 ∧
  ∀ l qs Rs' H', H l = none → (∀ q ∈ qs, H q = none) → H' l = some (.lst (qs.map V.ref)) → LLs H' qs Rs' → RpL Rs' (nx c N) → (∀ R ∈ Rs', R.length ≤ M + 1) → Same H H' → Q (.ref l) H'
def spBst : Sp := fun vs H Q _ => ∃ (p most : Nat) (c : Bool), vs = [.int p, .int most, .bl c] ∧ 2 ≤ p ∧ p ≤ 7 ∧ 1 ≤ most ∧ most ≤ 201 ∧ ∀ l (F : List Int) H', H' l = some (.lst (F.map V.int)) → F.length = most + 1 → (∀ N q, 100 ≤ N → N ≤ 301 → Bst (SS c p) N most q → F.getD most 0 = q.1) → Same H H' → Q (.ref l) H'
theorem scBst : FnScope ["p", "most", "cascade", "reels", "found", "level", "least", "read", "at", "number"] ["p", "most", "cascade"] (defScope sBst) := ⟨rfl, rfl, rfl, by decide +kernel, rfl, by decide +kernel, by decide +kernel⟩
theorem ok_bst {f f1 f2 f3 : Addr} {fd d1 d2 d3 : FuncData} (F : Fun K "_law_bests" "_law_bests" sBst f fd) (T : Txt mg) (Te : mg "enumerate" = none) (CF : Cal P w K mg base 1 "_law_further" ["reels", "cascade"] spFur f1 d1) (CN : Cal P w K mg base 1 "_law_numbers" ["reels", "most"] spNms f2 d2) (CO : Cal P w K mg base 1 "_law_open" ["found", "least"] spOpn f3 d3) : FnOk P w K mg base CX0 2 f fd ["p", "most", "cascade"] spBst := by
  refine okW F scBst (fun vs H Q E h => ?_) (fun cdv A outer s H vs Q E hr h => ?_)
  · obtain ⟨p, most, c, rfl, _⟩ := h
    rfl
  · obtain ⟨p, most, c, rfl, h1, h2, m1, m2, k⟩ := h
    have hr1 : Room 1 _ := hr.mono (by decide)
    refine ⟨_, (wss_cons (ws (ps_set (i := 3) scBst.nd rfl (Or.inl rfl) (pe_op op_cat (pe_lst (pa_cons (pe_lst (pa_cons pe_int pa_nil)) pa_nil)) (pe_comp (own := ["turn"]) (js := []) (CompOk.by (sc := defScope sBst) (N := ["p", "most", "cascade", "reels", "found", "level", "least", "read", "at", "number"]) rfl rfl (by decide +kernel)) rfl (pi_range1 rfl T.range (pa_cons (pe_op op_sub (pv 0) pe_int) pa_nil)) gkeep_name (fun _ _ _ _ _ => (pg_name (i := 0) (by show (["turn"] : List Str).Nodup; decide +kernel) rfl (Or.inl rfl) (.inr rfl))) (fun _ _ _ _ _ => pts_nil) (fun _ _ _ _ _ => (pe_lst pa_nil))))))
      (wss_cons (ws (ps_set (i := 4) scBst.nd rfl (Or.inl rfl) (pe_op op_cat (pe_lst (pa_cons pe_int pa_nil)) (pe_op op_rep (pe_lst (pa_cons (pe_un un_neg pe_int) pa_nil)) (pv 1)))))
      (wss_cons (ws (ps_set (i := 5) scBst.nd rfl (Or.inl rfl) pe_int))
      (wss_cons (ws (ps_set (i := 6) scBst.nd rfl (Or.inl rfl) pe_int))
      (wss_cons (ws (ps_while PassesOwn.never (pt_val (pe_cal CO hr1 rfl (pa_cons (pv 4) (pa_cons (pv 6) pa_nil))))
      (WSs.out (wss_cons (ws (ps_set (i := 7) scBst.nd rfl (Or.inl rfl) pe_int))
        (wss_cons (ws (ps_for PassesOwn.never rfl (pi_enumB rfl Te (pa_cons (pe_cal CN hr1 rfl (pa_cons (pv 3) (pa_cons (pv 1) pa_nil))) pa_nil)) (pg_tup rfl (pgs_cons (pg_name (i := 8) scBst.nd rfl (Or.inl rfl)) (pgs_cons (pg_name (i := 9) scBst.nd rfl (Or.inl rfl)) pgs_nil)))
        (WSs.out (wss_cons (ws (ps_set (i := 7) scBst.nd rfl (Or.inl rfl) (pe_op op_add (pv 7) (pv 9))))
          (wss_one (ws_if (PW.pt (pw_or (pt_cmpR op_lt (pe_ix ix_list (pv 4) (pe_op op_add (pv 8) pe_int) (fun _ _ => rfl)) pe_int (nomark _)) (pw_or1 (pt_cmpR op_lt (pv 7) (pe_ix ix_list (pv 4) (pe_op op_add (pv 8) pe_int) (fun _ _ => rfl)) (nomark _)))))
          (wss_one (ws (ps_asg (pv 7) (pg_sub (pv 4) (pe_op op_add (pv 8) pe_int) set_list))))
          wss_nil))))))
        (wss_cons (ws (ps_set (i := 3) scBst.nd rfl (Or.inl rfl) (pe_cal CF hr1 rfl (pa_cons (pv 3) (pa_cons (pv 2) pa_nil)))))
        (wss_cons (ws (ps_set (i := 5) scBst.nd rfl (Or.inl rfl) (pe_op op_add (pv 5) pe_int)))
        (wss_one (ws (ps_set (i := 6) scBst.nd rfl (Or.inl rfl) (pe_ix ix_list (pe_lst (pa_cons (pe_op op_fdiv (pe_op op_sub (pe_op op_add (pv 5) (pv 0)) pe_int) (pv 0)) (pa_cons (pe_op op_fdiv (pv 5) pe_int) pa_nil))) (pe_callTy call_int1 rfl T.int b_int (pa_cons (pv 2) pa_nil)) (fun _ _ => rfl))))))))))))
      (wss_one (ws (ps_ret (pv 4))))))))), ?_⟩
    refine ⟨(by show 1 ≤ sizeLine; decide), fun l1 n1 => ?_⟩
    have u1 : Same H (upd H l1 (.lst [.int 1])) := Same.new n1
    have y1 : upd H l1 (.lst [.int 1]) l1 = some (.lst [.int 1]) := upd_same
    generalize upd H l1 (.lst [.int 1]) = G1 at u1 y1 ⊢
    refine ⟨(by show 1 ≤ sizeLine; decide), fun l2 n2 => ?_⟩
    have u2 : Same G1 (upd G1 l2 (.lst [.ref l1])) := Same.new n2
    have y2 : upd G1 l2 (.lst [.ref l1]) l2 = some (.lst [.ref l1]) := upd_same
    generalize upd G1 l2 (.lst [.ref l1]) = G2 at u2 y2 ⊢
    refine ⟨_, rfl, _, _, rfl, rfl, _, rfl, by omega, by omega, ?_⟩
    rw [show ((p : Int) - 1).toNat = p - 1 by omega]
    refine comp_range (fun acc i H2 => ∃ qs : List Addr, H2 acc = some (.lst (qs.map V.ref)) ∧ LLs H2 qs (List.replicate i []) ∧ (∀ q ∈ qs, q ≠ acc) ∧ Same G2 H2) (fun acc h0 => ⟨[], upd_same, ⟨rfl, fun j r xs z => by simp at z⟩, (fun q hq => nomatch hq), Same.new h0⟩) ?_ ?_
    · rintro acc i H2 h0 hi ⟨qs, hacc, hL, hne, s2⟩
      refine ⟨(by show 0 ≤ sizeLine; decide), fun q hq => ?_⟩
      have hqa : q ≠ acc := Ne.symm (ne_of_none hacc hq)
      have hql : qs.length = i := by have := hL.1; simpa using this
      refine ⟨_, (Same.new hq) _ _ hacc, small1000 (by rw [List.length_map]; omega), hi, qs ++ [q], ?_, ⟨by simp [hql], fun j r xs ha hb => ?_⟩, fun x hx => ?_, (s2.trans (Same.new hq)).put h0⟩
      · rw [upd_same, List.map_append]
        rfl
      · have hb' := List.eq_of_mem_replicate (List.mem_of_getElem? hb)
        subst hb'
        rcases Nat.lt_or_ge j qs.length with z | z
        · rw [List.getElem?_append_left z] at ha
          have hrm := hne r (List.mem_of_getElem? ha)
          rw [upd_ne hrm]
          exact (Same.new hq) _ _ (hL.2 j r [] ha (by rw [List.getElem?_replicate, if_pos (by omega)]))
        · rw [List.getElem?_append_right z] at ha
          have : r = q := by
            have := List.mem_of_getElem? ha
            simpa using this
          subst this
          rw [upd_ne hqa]
          exact upd_same
      · rcases List.mem_append.mp hx with z | z
        · exact hne x z
        · rw [List.mem_singleton] at z
          subst z
          exact hqa
    rintro lq G3 h03 ⟨qs, y3, hL3, _, u3⟩
    refine ⟨l2, lq, _, _, rfl, rfl, u3 _ _ y2, y3, ?_, fun lr nr => ?_⟩
    · have : qs.length = p - 1 := by have := hL3.1; simpa using this
      exact Nat.le_of_lt (small1000 (by simp; omega))
    have u4 : Same G3 (upd G3 lr (.lst ([V.ref l1] ++ qs.map V.ref))) := Same.new nr
    have y4 : upd G3 lr (.lst ([V.ref l1] ++ qs.map V.ref)) lr = some (.lst ((l1 :: qs).map V.ref)) := by rw [upd_same]; rfl
    generalize upd G3 lr (.lst ([V.ref l1] ++ qs.map V.ref)) = G4 at u4 y4 ⊢
    have u04 := ((u1.trans u2).trans u3).trans u4
    have hLL : LLs G4 (l1 :: qs) ([1] :: List.replicate (p - 1) []) := by
      refine ⟨by have := hL3.1; simp at this ⊢; exact this, fun j r xs ha hb => ?_⟩
      cases j with
      | zero =>
        simp at ha hb
        subst ha hb
        exact u4 _ _ (u3 _ _ (u2 _ _ y1))
      | succ j => exact u4 _ _ (hL3.2 j r xs (by simpa using ha) (by simpa using hb))
    have hRp : RpL ([1] :: List.replicate (p - 1) []) (SS c p 0) := by
      have e0 : SS c p 0 = [0] :: List.replicate (p - 1) [] := by cases c <;> rfl
      rw [e0]
      refine ⟨by simp, fun j U Y ha hb => ?_⟩
      cases j with
      | zero =>
        simp at ha hb
        subst ha hb
        exact ⟨by decide, by decide⟩
      | succ j =>
        have ha := List.eq_of_mem_replicate (List.mem_of_getElem? (show (List.replicate (p - 1) ([] : List Int))[j]? = some U by simpa using ha))
        have hb := List.eq_of_mem_replicate (List.mem_of_getElem? (show (List.replicate (p - 1) ([] : List Int))[j]? = some Y by simpa using hb))
        subst ha hb
        exact ⟨rfl, by simp⟩
    refine ⟨(by show 1 ≤ sizeLine; decide), fun l5 n5 => ⟨1, rfl, (by show 1 ≤ sizeLine; decide), fun l6 n6 => ?_⟩⟩
    have u5 : Same G4 (upd (upd G4 l5 (.lst [.int 0])) l6 (.lst [.int (-1)])) := (Same.new n5).trans (Same.new n6)
    have y5 : upd (upd G4 l5 (.lst [.int 0])) l6 (.lst [.int (-1)]) l5 = some (.lst [.int 0]) := (Same.new n6) _ _ upd_same
    have y6 : upd (upd G4 l5 (.lst [.int 0])) l6 (.lst [.int (-1)]) l6 = some (.lst [.int (-1)]) := upd_same
    generalize upd (upd G4 l5 (.lst [.int 0])) l6 (.lst [.int (-1)]) = G5 at u5 y5 y6 ⊢
    refine ⟨_, rfl, l6, most, _, rfl, rfl, y6, by omega, by omega, ?_, fun l7 n7 => ?_⟩
    · rw [Int.toNat_natCast]
      exact Nat.le_of_lt (small1000 (by simp; omega))
    rw [Int.toNat_natCast, rep_flat]
    refine ⟨l5, l7, _, _, rfl, rfl, (Same.new n7) _ _ y5, upd_same, Nat.le_of_lt (small1000 (by simp; omega)), fun l8 n8 => ?_⟩
    have u7 : Same G5 (upd (upd G5 l7 (.lst ((List.replicate most (-1 : Int)).map V.int))) l8 (.lst ([V.int 0] ++ (List.replicate most (-1 : Int)).map V.int))) := (Same.new n7).trans (Same.new n8)
    have y8 : upd (upd G5 l7 (.lst ((List.replicate most (-1 : Int)).map V.int))) l8 (.lst ([V.int 0] ++ (List.replicate most (-1 : Int)).map V.int)) l8 = some (.lst ((0 :: List.replicate most (-1 : Int)).map V.int)) := by rw [upd_same]; rfl
    have n8' : G5 l8 = none := (Same.new n7).free n8
    generalize upd (upd G5 l7 (.lst ((List.replicate most (-1 : Int)).map V.int))) l8 (.lst ([V.int 0] ++ (List.replicate most (-1 : Int)).map V.int)) = G8 at u7 y8 ⊢
    have u48 := u5.trans u7
    have n84 : G4 l8 = none := u5.free n8'
    have hl8 : H l8 = none := u04.free n84
    have hf := (SS_fil (c := c) h1).lv
    refine ⟨fun m σ H2 => ∃ (lr lf : Addr) (rs : List Addr) (Rs : List (List Int)) (F0 : List Int) (L : Nat) (o7 o8 o9 : Option V), σ = [some (.int p), some (.int most), some (.bl c), some (.ref lr), some (.ref lf), some (.int L), some (.int (low c p L : Nat)), o7, o8, o9] ∧ H2 lr = some (.lst (rs.map V.ref)) ∧ LLs H2 rs Rs ∧ RpL Rs (SS c p L) ∧ (∀ R ∈ Rs, R.length ≤ L + 1) ∧ H2 lf = some (.lst (F0.map V.int)) ∧ BestF (SS c p) L most F0 ∧ lr ≠ lf ∧ (∀ r ∈ rs, r ≠ lf) ∧ H lf = none ∧ Same H H2 ∧ L ≤ 84 ∧ m = 84 - L,
      ⟨_, lr, l8, _, _, 0 :: List.replicate most (-1), 0, none, none, none, ?_, u48 _ _ y4, hLL.same u48, hRp, ?_, y8, ⟨by simp, fun j j1 j2 => ?_⟩, ne_of_none y4 n84, fun r hr' => ?_, hl8, u04.trans u48, by omega, rfl⟩, ?_⟩
    · have e0 : low c p 0 = 0 := by
        cases c
        · show (0 + p - 1) / p = 0
          exact Nat.div_eq_of_lt (by omega)
        · rfl
      rw [e0]
      rfl
    · intro R hR
      rcases List.mem_cons.mp hR with rfl | hR
      · simp
      · rw [List.eq_of_mem_replicate hR]; simp
    · refine .inl ⟨?_, fun n hn => by omega⟩
      obtain ⟨i, rfl⟩ : ∃ i, j = i + 1 := ⟨j - 1, by omega⟩
      rw [List.getD_cons_succ, List.getD_eq_getElem?_getD, List.getElem?_replicate, if_pos (by omega)]
      rfl
    · obtain ⟨j, hj, rfl⟩ := List.getElem_of_mem hr'
      have hl := hLL.1
      exact ne_of_none (hLL.2 j _ _ (List.getElem?_eq_getElem hj) (List.getElem?_eq_getElem (by omega))) n84
    rintro m σ H2 ⟨lr, lf, rs, Rs, F0, L, o7, o8, o9, rfl, hlr, hR2, hP2, hlen, hlf, hB, hrf, hrsf, hlf0, s2, hL, rfl⟩
    have hlow : low c p L ≤ 1000 := by
      cases c
      · show (L + p - 1) / p ≤ 1000
        have := Nat.div_le_self (L + p - 1) p
        omega
      · show L / 2 ≤ 1000
        omega
    have hSl : (SS c p L).length = p := by
      cases c
      · exact num_len (by omega) L
      · exact casN_len (by omega) L
    refine ⟨_, rfl, _, rfl, lf, F0, most, _, rfl, hlf, hB.len, m1, m2, by omega, by omega, fun b H3 hb s3 => ⟨b, rfl, ?_⟩⟩
    have hlf3 := s3 _ _ hlf
    have hlr3 := s3 _ _ hlr
    have hR3 : LLs H3 rs Rs := hR2.same s3
    have s03 := s2.trans s3
    refine ite2 (fun hc => ?_) fun hc => ?_
    · have ho := hb.mp hc
      have hL84 := hB.open_lt h1 h2 m2 m1 ho
      refine ⟨fun σ' H' => ∃ m', m' < 84 - L ∧ ∃ (lr lf : Addr) (rs : List Addr) (Rs : List (List Int)) (F0 : List Int) (L : Nat) (o7 o8 o9 : Option V), σ' = [some (.int p), some (.int most), some (.bl c), some (.ref lr), some (.ref lf), some (.int L), some (.int (low c p L : Nat)), o7, o8, o9] ∧ H' lr = some (.lst (rs.map V.ref)) ∧ LLs H' rs Rs ∧ RpL Rs (SS c p L) ∧ (∀ R ∈ Rs, R.length ≤ L + 1) ∧ H' lf = some (.lst (F0.map V.int)) ∧ BestF (SS c p) L most F0 ∧ lr ≠ lf ∧ (∀ r ∈ rs, r ≠ lf) ∧ H lf = none ∧ Same H H' ∧ L ≤ 84 ∧ m' = 84 - L, fun _ _ h => h, ?_⟩
      refine ⟨_, rfl, _, rfl, lr, rs, Rs, SS c p L, most, rfl, hlr3, hR3, hP2, ⟨by omega, by omega⟩, fun R hR => by have := hlen R hR; omega, m1, m2, fun lx B H4 hlx0 hBm hlx s4 => ?_⟩
      have hlf4 := s4 _ _ hlf3
      have hlr4 := s4 _ _ hlr3
      have hR4 : LLs H4 rs Rs := hR3.same s4
      have s04 := s03.trans s4
      generalize hX : (exr (SS c p L).flatten B).take most = X at hlx
      have hXl : X.length ≤ most := by rw [← hX]; simp; omega
      have hX0 : ∀ y ∈ X, 0 ≤ y := fun y hy => by
        rw [← hX] at hy
        exact (exr_lt _ _ y (List.mem_of_mem_take hy)).1
      have hgs : ∀ j : Nat, 1 ≤ j → j ≤ most → gS (SS c p) j L = if j ≤ X.length then some (X.take j).sum else none := fun j j1 j2 => by
        have := first_sums hf (show L ≤ 300 by omega) hBm j1 j2
        rw [hX] at this
        exact this
      have hxf : lx ≠ lf := Ne.symm (ne_of_none hlf3 hlx0)
      refine ⟨lx, true, rfl, ⟨_, SqL.of hlx⟩, ?_⟩
      refine for_enumB (b := true) (xs := X.map V.int) (fun j σ H5 => ∃ (Fj : List Int) (o8 o9 : Option V), σ = [some (.int p), some (.int most), some (.bl c), some (.ref lr), some (.ref lf), some (.int L), some (.int (low c p L : Nat)), some (.int (X.take j).sum), o8, o9] ∧ H5 lf = some (.lst (Fj.map V.int)) ∧ Fj.length = most + 1 ∧ (∀ i : Nat, 1 ≤ i → i ≤ most → BstJ (SS c p) (if i ≤ j then L + 1 else L) i (Fj.getD i 0)) ∧ Sm lf H4 H5)
        ⟨F0, _, _, rfl, hlf4, hB.len, fun i i1 i2 => by rw [if_neg (by omega)]; exact hB.at_ i i1 i2, Sm.refl _ _⟩ (fun j σ H5 _ z => ?_) ?_ ?_
      · obtain ⟨_, _, _, _, _, _, _, sz⟩ := z
        exact SqL.of (sz _ _ hlx hxf)
      · rintro j x pa σ H5 hx ⟨Fj, o8, o9, rfl, hfj, hlj, hBj, sm5⟩ hpa
        obtain ⟨y, hy, rfl⟩ := map_get hx
        have hj : j < X.length := (List.getElem?_eq_some_iff.mp hy).1
        have esum : (X.take j).sum + y = (X.take (j + 1)).sum := by rw [List.take_add_one, hy, List.sum_append]; simp
        have hu0 : 0 ≤ (X.take (j + 1)).sum := sum_nn fun z hz => hX0 z (List.mem_of_mem_take hz)
        have hpf : lf ≠ pa := ne_of_none hfj hpa
        have hf6 : upd H5 pa (.tup [.int (j : Int), .int y]) lf = some (.lst (Fj.map V.int)) := by rw [upd_ne hpf]; exact hfj
        have x6 : upd H5 pa (.tup [.int (j : Int), .int y]) pa = some (.tup [.int (j : Int), .int y]) := upd_same
        have s6 : Sm lf H4 (upd H5 pa (.tup [.int (j : Int), .int y])) := sm5.trans (Sm.new hpa)
        generalize upd H5 pa (.tup [.int (j : Int), .int y]) = H6 at hf6 x6 s6 ⊢
        refine ⟨pa, _, rfl, SqT.of x6, rfl, _, _, rfl, _, _, rfl, rfl, ?_⟩
        refine ⟨_, rfl, _, rfl, _, _, rfl, rfl, ?_⟩
        dsimp only
        rw [esum]
        generalize hu : (X.take (j + 1)).sum = u at hu0
        have hg : gS (SS c p) (j + 1 : Nat) L = some u := by rw [hgs (j + 1) (by omega) (by omega), if_pos (by omega), hu]
        have hbj := hBj (j + 1) (by omega) (by omega)
        rw [if_neg (by omega)] at hbj
        have hput := hbj.put hu0 hg
        have hat : atI (Fj.map V.int) ((j : Int) + 1) = some (.int (Fj.getD (j + 1) 0)) := by
          rw [show (j : Int) + 1 = ((j + 1 : Nat) : Int) by omega]
          refine atI_nat ?_
          rw [List.getElem?_map, List.getElem?_eq_getElem (by omega), List.getD_eq_getElem?_getD, List.getElem?_eq_getElem (by omega)]
          rfl
        have fin : ∀ (F' : List Int) (H7 : Hp), H7 lf = some (.lst (F'.map V.int)) → F'.length = most + 1 → F'.getD (j + 1) 0 = (if Fj.getD (j + 1) 0 < 0 ∨ u < Fj.getD (j + 1) 0 then u else Fj.getD (j + 1) 0) → (∀ i, i ≠ j + 1 → F'.getD i 0 = Fj.getD i 0) → Sm lf H4 H7 →
            ∃ (Fj : List Int) (o8 o9 : Option V), [some (.int p), some (.int most), some (.bl c), some (.ref lr), some (.ref lf), some (.int L), some (.int (low c p L : Nat)), some (.int u), some (.int (j : Int)), some (.int y)] = [some (.int p), some (.int most), some (.bl c), some (.ref lr), some (.ref lf), some (.int L), some (.int (low c p L : Nat)), some (.int u), o8, o9] ∧ H7 lf = some (.lst (Fj.map V.int)) ∧ Fj.length = most + 1 ∧ (∀ i : Nat, 1 ≤ i → i ≤ most → BstJ (SS c p) (if i ≤ j + 1 then L + 1 else L) i (Fj.getD i 0)) ∧ Sm lf H4 H7 := fun F' H7 a1 a2 a3 a4 a5 => by
          refine ⟨F', _, _, rfl, a1, a2, fun i i1 i2 => ?_, a5⟩
          by_cases e : i = j + 1
          · subst e
            rw [if_pos (Nat.le_refl _), a3]
            exact hput
          · rw [a4 i e]
            have := hBj i i1 i2
            by_cases z : i ≤ j
            · rw [if_pos z] at this
              rw [if_pos (by omega)]
              exact this
            · rw [if_neg z] at this
              rw [if_neg (by omega)]
              exact this
        have hset : ixN (Fj.map V.int).length ((j : Int) + 1) = some (j + 1) := by
          rw [List.length_map, show (j : Int) + 1 = ((j + 1 : Nat) : Int) by omega]
          rw [ixN_of (by omega) (by omega)]
          rfl
        have stp : (Fj.getD (j + 1) 0 < 0 ∨ u < Fj.getD (j + 1) 0) → ∃ (F'' : List Int) (o8 o9 : Option V), [some (.int p), some (.int most), some (.bl c), some (.ref lr), some (.ref lf), some (.int L), some (.int (low c p L : Nat)), some (.int u), some (.int (j : Int)), some (.int y)] = [some (.int p), some (.int most), some (.bl c), some (.ref lr), some (.ref lf), some (.int L), some (.int (low c p L : Nat)), some (.int u), o8, o9] ∧ upd H6 lf (.lst ((Fj.map V.int).set (j + 1) (.int u))) lf = some (.lst (F''.map V.int)) ∧ F''.length = most + 1 ∧ (∀ i : Nat, 1 ≤ i → i ≤ most → BstJ (SS c p) (if i ≤ j + 1 then L + 1 else L) i (F''.getD i 0)) ∧ Sm lf H4 (upd H6 lf (.lst ((Fj.map V.int).set (j + 1) (.int u)))) := fun z =>
          fin (Fj.set (j + 1) u) _ (by rw [upd_same, List.map_set]) (by simp [hlj]) (by rw [if_pos z, List.getD_eq_getElem?_getD, List.getElem?_set_self (by omega)]; rfl) (fun i hi => by rw [List.getD_eq_getElem?_getD, List.getElem?_set_ne (Ne.symm hi), ← List.getD_eq_getElem?_getD]) (s6.trans Sm.put)
        refine ⟨_, rfl, _, rfl, _, _, rfl, rfl, lf, _, _, _, rfl, rfl, SqL.of hf6, hat, _, _, rfl, rfl, _, rfl, ite2 (fun hc1 => ?_) fun hc1 => ?_⟩
        · exact ⟨_, rfl, _, rfl, _, rfl, _, _, rfl, rfl, lf, _, _, _, rfl, rfl, hf6, hset, stp (.inl (of_decide_eq_true hc1))⟩
        · refine ⟨_, rfl, _, rfl, _, rfl, _, _, rfl, rfl, lf, _, _, _, rfl, rfl, SqL.of hf6, hat, _, _, rfl, rfl, _, rfl, ite2 (fun hc2 => ?_) fun hc2 => ?_⟩
          · exact ⟨_, rfl, _, rfl, _, rfl, _, _, rfl, rfl, lf, _, _, _, rfl, rfl, hf6, hset, stp (.inr (of_decide_eq_true hc2))⟩
          · refine fin Fj H6 hf6 hlj ?_ (fun _ _ => rfl) s6
            rw [if_neg]
            rintro (z | z)
            · exact hc1 (decide_eq_true z)
            · exact hc2 (decide_eq_true z)
      · rintro σ H5 ⟨Fj, o8, o9, rfl, hfj, hlj, hBj, sm5⟩
        rw [List.length_map] at hBj
        have hB2 : BestF (SS c p) (L + 1) most Fj := ⟨hlj, fun i i1 i2 => by
          have := hBj i i1 i2
          by_cases z : i ≤ X.length
          · rw [if_pos z] at this
            exact this
          · rw [if_neg z] at this
            refine this.skip ?_
            rw [hgs i i1 i2, if_neg z]⟩
        have hR5 : LLs H5 rs Rs := ⟨hR4.1, fun j r xs a1 a2 => sm5 _ _ (hR4.2 j r xs a1 a2) (hrsf r (List.mem_of_getElem? a1))⟩
        have hlr5 := sm5 _ _ hlr4 hrf
        have s05 : Same H H5 := Sm.after s04 sm5 hlf0
        refine ⟨_, rfl, _, rfl, lr, c, rs, Rs, SS c p L, L + 1, rfl, hlr5, hR5, hP2, by omega, by omega, hlen, by omega, fun ln qs Rs' H6 ln0 q0 hln hq6 hP6 hlen6 s6 => ?_⟩
        have hfj6 := s6 _ _ hfj
        refine ⟨_, rfl, _, _, rfl, rfl, ?_⟩
        refine ⟨_, rfl, _, rfl, _, _, rfl, rfl, _, _, rfl, rfl, _, rfl, _, _, rfl, rfl, ⟨by omega, by omega⟩, ?_⟩
        refine ⟨_, rfl, _, _, rfl, rfl, ⟨by decide, by decide⟩, (by show 2 ≤ sizeLine; decide), fun q hq => ?_⟩
        have eA : ((L : Int) + 1 + (p : Int) - 1) / (p : Int) = (((L + 1 + p - 1) / p : Nat) : Int) := by
          rw [Int.natCast_ediv]
          congr 1
          omega
        have eB : ((L : Int) + 1) / 2 = (((L + 1) / 2 : Nat) : Int) := by
          rw [Int.natCast_ediv]
          rfl
        have hlf6 : lf ≠ ln := ne_of_none hfj ln0
        refine ⟨_, rfl, .inr ⟨c, rfl, ?_⟩⟩
        have hend : ∀ H7, Same H6 H7 → ∃ m', m' < 84 - L ∧ ∃ (lr' lf' : Addr) (rs : List Addr) (Rs : List (List Int)) (F0 : List Int) (L' : Nat) (o7' o8' o9' : Option V), [some (.int p), some (.int most), some (.bl c), some (.ref ln), some (.ref lf), some (.int ((L : Int) + 1)), some (.int (low c p (L + 1) : Nat)), some (.int (X.take (X.map V.int).length).sum), o8, o9] = [some (V.int p), some (.int most), some (.bl c), some (.ref lr'), some (.ref lf'), some (.int L'), some (.int (low c p L' : Nat)), o7', o8', o9'] ∧ H7 lr' = some (.lst (rs.map V.ref)) ∧ LLs H7 rs Rs ∧ RpL Rs (SS c p L') ∧ (∀ R ∈ Rs, R.length ≤ L' + 1) ∧ H7 lf' = some (.lst (F0.map V.int)) ∧ BestF (SS c p) L' most F0 ∧ lr' ≠ lf' ∧ (∀ r ∈ rs, r ≠ lf') ∧ H lf' = none ∧ Same H H7 ∧ L' ≤ 84 ∧ m' = 84 - L' := fun H7 s7 => by
          refine ⟨84 - (L + 1), by omega, ln, lf, qs, Rs', Fj, L + 1, _, o8, o9, rfl, s7 _ _ hln, hq6.same s7, ?_, hlen6, s7 _ _ hfj6, hB2, Ne.symm hlf6, fun r hr' => Ne.symm (ne_of_none hfj (q0 r hr')), hlf0, (s05.trans s6).trans s7, by omega, rfl⟩
          have : SS c p (L + 1) = nx c (SS c p L) := by cases c <;> rfl
          rw [this]
          exact hP6
        have hati : atI [V.int (((L : Int) + 1 + (p : Int) - 1) / (p : Int)), .int (((L : Int) + 1) / 2)] (if c = true then 1 else 0) = some (.int (low c p (L + 1) : Nat)) := by
          rw [eA, eB]
          cases c <;> rfl
        exact ⟨q, _, _, _, rfl, rfl, SqL.of upd_same, hati, hend _ (Same.new hq)⟩
    · have hno : ¬ Opn most F0 (low c p L) := fun z => hc (hb.mpr z)
      exact ⟨_, rfl, k lf F0 H3 hlf3 hB.len (fun N q hN1 hN2 hq => hB.done h1 hN1 hN2 hL m1 hno hq) s03⟩

end
end Fh73

set_option Elab.async false
set_option linter.all false
set_option maxRecDepth 100000
set_option maxHeartbeats 4000000
namespace Fh73
open PySem L2 Lv
section
variable {P : Program} {w : World} {K : PySem.W.Frag} {mg : Str → Option Value} {base : Heap}
theorem scFur : FnScope ["reels", "cascade", "more", "found", "k", "some", "longest", "sums", "reel", "number", "many"] ["reels", "cascade"] (defScope sFur) := ⟨rfl, rfl, rfl, by decide +kernel, rfl, by decide +kernel, by decide +kernel⟩
theorem ok_fur {f : Addr} {fd : FuncData} (F : Fun K "_law_further" "_law_further" sFur f fd) (T : Txt mg) (Te : mg "enumerate" = none) : FnOk P w K mg base CX0 1 f fd ["reels", "cascade"] spFur := by
  refine okW F scFur (fun vs H Q E h => ?_) (fun cdv A outer s H vs Q E hr h => ?_)
  · obtain ⟨a, c, rs, Rs, N, M, rfl, _⟩ := h
    rfl
  · obtain ⟨a, c, rs, Rs, N, M, rfl, ha, hR, hP, n2, n7, hlen, hM, k⟩ := h
    refine ⟨_, (wss_cons (ws (ps_comp (i := 2) scFur.nd rfl rfl (own := ["reel"]) (js := []) (CompOk.by (sc := defScope sFur) (N := ["reels", "cascade", "more", "found", "k", "some", "longest", "sums", "reel", "number", "many"]) rfl rfl (by decide +kernel)) rfl (pi_seqB (pv 0)) gkeep_name (fun _ _ _ _ _ => (pg_name (i := 0) (by show (["reel"] : List Str).Nodup; decide +kernel) rfl (Or.inl rfl) (.inr rfl))) (fun _ _ _ _ _ => pts_nil) (fun _ _ _ _ _ => (pe_op op_cat (pe_lst (pa_cons pe_int pa_nil)) (pv 0)))))
      (wss_cons (ws (ps_set (i := 3) scFur.nd rfl (Or.inl rfl) (pe_lst pa_nil)))
      (wss_cons (ws (ps_for PassesOwn.never rfl (pi_range1 rfl T.range (pa_cons (pe_callB call_len_seq rfl T.len PySem.boot_len (pa_cons (pv 0) pa_nil)) pa_nil)) (pg_name (i := 4) scFur.nd rfl (Or.inl rfl))
      (WSs.out (wss_cons (ws_if (pt_val (pv 1))
        (wss_cons (ws (ps_set (i := 5) scFur.nd rfl (Or.inl rfl) (pe_slice sl_list (pv 2) po_none (po_some (pe_op op_sub (pe_callB call_len_seq rfl T.len PySem.boot_len (pa_cons (pv 0) pa_nil)) (pv 4))))))
          (wss_one (ws_if (pt_cmpR op_eq (pv 4) pe_int (nomark _))
          (wss_one (ws (ps_set (i := 5) scFur.nd rfl (Or.inl rfl) (pe_op op_cat (pe_slice sl_list (pv 2) po_none (po_some (pe_un un_neg pe_int))) (pe_lst (pa_cons (pe_ix ix_list (pv 0) (pe_un un_neg pe_int) (fun _ _ => rfl)) pa_nil))))))
          wss_nil)))
        (wss_one (ws_if (pt_cmpR op_eq (pv 4) (pe_op op_sub (pe_callB call_len_seq rfl T.len PySem.boot_len (pa_cons (pv 0) pa_nil)) pe_int) (nomark _))
          (wss_one (ws (ps_set (i := 5) scFur.nd rfl (Or.inl rfl) (pe_lst (pa_cons (pe_ix ix_list (pv 2) pe_int (fun _ _ => rfl)) pa_nil)))))
          (wss_one (ws (ps_set (i := 5) scFur.nd rfl (Or.inl rfl) (pe_lst (pa_cons (pe_ix ix_list (pv 2) pe_int (fun _ _ => rfl)) (pa_cons (pe_ix ix_list (pv 0) (pe_op op_add (pv 4) pe_int) (fun _ _ => rfl)) pa_nil)))))))))
        (wss_cons (ws (ps_set (i := 6) scFur.nd rfl (Or.inl rfl) (pe_callB (call_maxB rfl) rfl T.max b_max (pa_cons (pe_comp (own := ["reel"]) (js := []) (CompOk.by (sc := defScope sFur) (N := ["reels", "cascade", "more", "found", "k", "some", "longest", "sums", "reel", "number", "many"]) rfl rfl (by decide +kernel)) rfl (pi_seqB (pv 5)) gkeep_name (fun _ _ _ _ _ => (pg_name (i := 0) (by show (["reel"] : List Str).Nodup; decide +kernel) rfl (Or.inl rfl) (.inr rfl))) (fun _ _ _ _ _ => pts_nil) (fun _ _ _ _ _ => (pe_callB (callK_len K) rfl T.len PySem.boot_len (pa_cons (pv 0) pa_nil)))) pa_nil))))
        (wss_cons (ws (ps_set (i := 7) scFur.nd rfl (Or.inl rfl) (pe_op op_rep (pe_lst (pa_cons pe_int pa_nil)) (pv 6))))
        (wss_cons (ws (ps_for PassesOwn.never rfl (pi_seqB (pv 5)) (pg_name (i := 8) scFur.nd rfl (Or.inl rfl))
        (WSs.out (wss_one (ws (ps_for PassesOwn.never rfl (pi_enumB rfl Te (pa_cons (pv 8) pa_nil)) (pg_tup rfl (pgs_cons (pg_name (i := 9) scFur.nd rfl (Or.inl rfl)) (pgs_cons (pg_name (i := 10) scFur.nd rfl (Or.inl rfl)) pgs_nil)))
          (WSs.out (wss_one (ws (ps_asg (pe_op op_add (pe_ix ix_list (pv 7) (pv 9) (fun _ _ => rfl)) (pv 10)) (pg_sub (pv 7) (pv 9) set_list)))))))))))
        (wss_one (ws (ps_expr (pe_bm PySem.F.plainAttrs_list PySem.F.slot_list_append PySem.F.type_list_append mt_append (pv 3) (pa_cons (pv 7) pa_nil))))))))))))
      (wss_one (ws (ps_ret (pv 3))))))), ?_⟩
    have hrl : rs.length = N.length := by rw [hR.1, hP.1]
    have hRl : Rs.length = N.length := hP.1
    refine ⟨_, rfl, a, true, rfl, ⟨_, SqL.of ha⟩, ?_⟩
    refine comp_seqB (b := true) (K := K) (a := a) (xs := rs.map V.ref) (fun acc i H2 => ∃ qs : List Addr, H2 acc = some (.lst (qs.map V.ref)) ∧ LLs H2 qs ((Rs.take i).map (0 :: ·)) ∧ (∀ q ∈ qs, q ≠ acc) ∧ Same H H2) (fun acc h0 => ⟨[], upd_same, ⟨rfl, fun j r xs z => by simp at z⟩, (fun q hq => nomatch hq), Same.new h0⟩) (fun acc i H2 h0 _ z => by obtain ⟨_, _, _, _, s⟩ := z; exact SqL.of (s _ _ ha)) ?_ ?_
    · rintro acc i x H2 h0 hx ⟨qs, hacc, hL, hne, s2⟩
      obtain ⟨r, hr', rfl⟩ := map_ref_get hx
      have hi : i < Rs.length := by rw [← hR.1]; exact (List.getElem?_eq_some_iff.mp hr').1
      have hUi := List.getElem?_eq_getElem hi
      have hU2 := s2 _ _ (hR.2 i r _ hr' hUi)
      have hUl := hlen _ (List.getElem_mem hi)
      generalize Rs[i] = U at hUi hU2 hUl
      have hql : qs.length = i := by have := hL.1; simp at this; omega
      refine ⟨(by show 1 ≤ sizeLine; decide), fun q1 hq1 => ⟨_, rfl, q1, r, _, _, rfl, rfl, upd_same, (Same.new hq1) _ _ hU2, Nat.le_of_lt (small1000 (by simp; omega)), fun q2 hq2 => ?_⟩⟩
      have s3 : Same H2 (upd (upd H2 q1 (.lst [.int 0])) q2 (.lst ([V.int 0] ++ U.map V.int))) := (Same.new hq1).trans (Same.new hq2)
      have x3 : upd (upd H2 q1 (.lst [.int 0])) q2 (.lst ([V.int 0] ++ U.map V.int)) q2 = some (.lst ((0 :: U).map V.int)) := by rw [upd_same]; rfl
      have hq2a : q2 ≠ acc := Ne.symm (ne_of_none ((Same.new hq1) _ _ hacc) hq2)
      generalize upd (upd H2 q1 (.lst [.int 0])) q2 (.lst ([V.int 0] ++ U.map V.int)) = H3 at s3 x3 ⊢
      refine ⟨_, s3 _ _ hacc, small1000 (by rw [List.length_map]; omega), by rw [List.length_map, hR.1]; exact hi, qs ++ [q2], ?_, ⟨by simp [hql]; omega, fun j r' xs h1 h2 => ?_⟩, fun y hy => ?_, (s2.trans s3).put h0⟩
      · rw [upd_same, List.map_append]
        rfl
      · rw [List.take_add_one, hUi, List.map_append] at h2
        rcases Nat.lt_or_ge j qs.length with z | z
        · rw [List.getElem?_append_left z] at h1
          rw [List.getElem?_append_left (by simp; omega)] at h2
          rw [upd_ne (hne r' (List.mem_of_getElem? h1))]
          exact s3 _ _ (hL.2 j r' xs h1 h2)
        · rw [List.getElem?_append_right z] at h1
          rw [List.getElem?_append_right (by simp; omega)] at h2
          have e1 : r' = q2 := by simpa using List.mem_of_getElem? h1
          have e2 : xs = 0 :: U := by simpa using List.mem_of_getElem? h2
          subst e1 e2
          rw [upd_ne hq2a]
          exact x3
      · rcases List.mem_append.mp hy with z | z
        · exact hne y z
        · rw [List.mem_singleton] at z
          subst z
          exact hq2a
    rintro lm Hm h0m ⟨qs1, hlm, hL1, hnm, sm⟩
    rw [List.length_map, hR.1, List.take_length] at hL1
    have hq1l : qs1.length = N.length := by have := hL1.1; simp at this; omega
    refine ⟨(by show 0 ≤ sizeLine; decide), fun lf nf => ?_⟩
    have sf : Same Hm (upd Hm lf (.lst [])) := Same.new nf
    have xf : upd Hm lf (.lst []) lf = some (.lst []) := upd_same
    generalize upd Hm lf (.lst []) = Hf at sf xf ⊢
    refine ⟨_, rfl, a, _, rfl, .inl (SqL.of (sf _ _ (sm _ _ ha))), _, rfl, by omega, by rw [List.length_map]; omega, ?_⟩
    rw [List.length_map, Int.toNat_natCast, hrl]
    have hlf0 : H lf = none := sm.free nf
    refine for_range (fun i σ H2 => ∃ (qf : List Addr) (RF : List (List Int)) (o4 o5 o6 o7 o8 o9 o10 : Option V), σ = [some (.ref a), some (.bl c), some (.ref lm), some (.ref lf), o4, o5, o6, o7, o8, o9, o10] ∧ H2 lf = some (.lst (qf.map V.ref)) ∧ LLs H2 qf RF ∧ RpL RF ((nx c N).take i) ∧ (∀ R ∈ RF, R.length ≤ M + 1) ∧ (∀ q ∈ qf, q ≠ lf ∧ H q = none) ∧ Same Hm H2)
      ⟨[], [], _, _, _, _, _, _, _, rfl, xf, ⟨rfl, fun j r xs z => by simp at z⟩, ⟨by simp, fun j U Y z => by simp at z⟩, by simp, by simp, sf⟩ ?_ ?_
    · rintro i σ H2 hi ⟨qf, RF, o4, o5, o6, o7, o8, o9, o10, rfl, hlf, hLF, hPF, hlF, hqf, s2⟩
      have ha2 := s2 _ _ (sm _ _ ha)
      have hlm2 := s2 _ _ hlm
      have hR2 : LLs H2 rs Rs := (hR.same sm).same s2
      have hL2 : LLs H2 qs1 (Rs.map (0 :: ·)) := hL1.same s2
      show tSeq _ _ _ _ _
      refine cut1 (fun σ' H' => ∃ (sl : Addr) (us : List Addr) (Us Ys : List (List Int)) (o6 o7 o8 o9 o10 : Option V), σ' = [some (.ref a), some (.bl c), some (.ref lm), some (.ref lf), some (.int (0 + (i : Int))), some (.ref sl), o6, o7, o8, o9, o10] ∧ H' sl = some (.lst (us.map V.ref)) ∧ LLs H' us Us ∧ RpL Us Ys ∧ 1 ≤ Us.length ∧ Us.length ≤ 7 ∧ (∀ U ∈ Us, U.length ≤ M + 1) ∧ (∀ m, cn ((nx c N).getD i []) m = cn Ys.flatten m) ∧ (∀ u ∈ us, ∃ o, Hm u = some o) ∧ sl ≠ lf ∧ Same H2 H') (fun R' hR' => ?_) ?_
      · have hlt : ∀ q ∈ SL c N.length i, q.1 < N.length := SL_lt n2 hi
        have hltR : ∀ q ∈ SL c N.length i, q.1 < Rs.length := fun q hq => by rw [hRl]; exact hlt q hq
        have hle := SL_len (c := c) n2 hi
        have hcx : ∀ m, cn ((nx c N).getD i []) m = cn ((SL c N.length i).map (pk (N.map up1) N [])).flatten m := fun m => by
          cases c
          · exact SL_cnN n2 hi m
          · exact SL_cnK n2 hi m
        have hfin := fun (sl : Addr) (H' : Hp) (h : H' sl = some (.lst (((SL c N.length i).map (pk qs1 rs lf)).map V.ref))) (hn : sl ≠ lf) (s3 : Same H2 H') =>
          hR' [some (.ref a), some (.bl c), some (.ref lm), some (.ref lf), some (.int (0 + (i : Int))), some (.ref sl), o6, o7, o8, o9, o10] H' ⟨sl, (SL c N.length i).map (pk qs1 rs lf), (SL c N.length i).map (pk (Rs.map (0 :: ·)) Rs []), (SL c N.length i).map (pk (N.map up1) N []), o6, o7, o8, o9, o10, rfl, h, (pk_lls hL2 hR2 hltR).same s3, pk_rpl hP hlt, by rw [List.length_map]; exact hle.1, by rw [List.length_map]; exact Nat.le_trans hle.2 n7, fun U hU => by
            obtain ⟨q, hq, rfl⟩ := List.mem_map.mp hU
            exact pk_len hlen (hltR q hq), hcx, lls_had (pk_lls hL1 (hR.same sm) hltR), hn, s3⟩
        clear hR' hlt hltR hle hcx
        refine ⟨_, rfl, c, rfl, ite2 (fun hc => ?_) fun hc => ?_⟩
        · subst hc
          refine ⟨_, rfl, _, rfl, a, _, rfl, .inl (SqL.of ha2), _, rfl, _, _, rfl, rfl, _, rfl, lm, _, rfl, SqL.of hlm2, fun p1 np1 => ?_⟩
          have e1 : ((((rs.map V.ref).length : Nat) : Int) - (0 + (i : Int))) = ((N.length - i : Nat) : Int) := by rw [List.length_map, hrl]; omega
          rw [e1, cut_nat (by omega)]
          have s3 : Same H2 (upd H2 p1 (.lst ((qs1.take (N.length - i)).map V.ref))) := Same.new np1
          have x3 : upd H2 p1 (.lst ((qs1.take (N.length - i)).map V.ref)) p1 = some (.lst ((qs1.take (N.length - i)).map V.ref)) := upd_same
          have n3 : p1 ≠ lf := Ne.symm (ne_of_none hlf np1)
          generalize upd H2 p1 (.lst ((qs1.take (N.length - i)).map V.ref)) = H3 at s3 x3 ⊢
          refine ⟨_, rfl, rfl, _, rfl, ite2 (fun hz => ?_) fun hz => ?_⟩
          · have hi0 : i = 0 := by
              have := V.int.inj (of_decide_eq_true hz)
              omega
            subst hi0
            obtain ⟨n, hn⟩ : ∃ n, N.length = n + 1 := ⟨N.length - 1, by omega⟩
            refine ⟨_, rfl, _, rfl, _, rfl, lm, _, rfl, SqL.of (s3 _ _ hlm2), fun p2 np2 => ?_⟩
            rw [cut_last (by rw [hq1l]; exact hn)]
            have s4 : Same H3 (upd H3 p2 (.lst ((qs1.take n).map V.ref))) := Same.new np2
            have x4 : upd H3 p2 (.lst ((qs1.take n).map V.ref)) p2 = some (.lst ((qs1.take n).map V.ref)) := upd_same
            generalize upd H3 p2 (.lst ((qs1.take n).map V.ref)) = H4 at s4 x4 ⊢
            refine ⟨_, rfl, _, rfl, a, _, _, _, rfl, rfl, SqL.of (s4 _ _ (s3 _ _ ha2)), at_last lf (by rw [hrl]; exact hn), (by show 1 ≤ sizeLine; decide), fun p3 np3 => ?_⟩
            refine ⟨p2, p3, _, _, rfl, rfl, (Same.new np3) _ _ x4, upd_same, Nat.le_of_lt (small1000 (by rw [List.length_map, List.length_take]; simp; omega)), fun p4 np4 => ?_⟩
            have s5 := (s3.trans s4).trans ((Same.new (o := .lst [V.ref (rs.getD n lf)]) np3).trans (Same.new (o := .lst ((qs1.take n).map V.ref ++ [V.ref (rs.getD n lf)])) np4))
            refine hfin p4 _ ?_ (Ne.symm (ne_of_none ((Same.new np3) _ _ (s4 _ _ (s3 _ _ hlf))) np4)) s5
            rw [upd_same, SL_z, hn, Nat.add_sub_cancel, List.map_append, List.map_append, ← take_pk (by omega)]
            rfl
          · have hi0 : i ≠ 0 := fun z => hz (by subst z; rfl)
            refine hfin p1 H3 ?_ n3 s3
            rw [x3, SL_s hi0, ← take_pk (by omega)]
        · have hc' : c = false := by simpa using hc
          subst hc'
          refine ⟨_, rfl, _, rfl, a, _, rfl, .inl (SqL.of ha2), _, _, rfl, rfl, rfl, _, rfl, ite2 (fun hz => ?_) fun hz => ?_⟩
          · have hl : i + 1 = N.length := by
              have := V.int.inj (of_decide_eq_true hz)
              rw [List.length_map] at this
              omega
            refine ⟨_, rfl, lm, _, _, _, rfl, rfl, SqL.of hlm2, at_ref (n := 0) lf (by omega), (by show 1 ≤ sizeLine; decide), fun p1 np1 => ?_⟩
            refine hfin p1 _ ?_ (Ne.symm (ne_of_none hlf np1)) (Same.new np1)
            rw [upd_same, SL_l hl]
            rfl
          · have hl : i + 1 ≠ N.length := fun z => hz (decide_eq_true (congrArg V.int (by rw [List.length_map]; omega)))
            refine ⟨_, rfl, lm, _, _, _, rfl, rfl, SqL.of hlm2, at_ref (n := 0) lf (by omega), _, rfl, _, rfl, _, _, rfl, rfl, a, _, _, .ref (rs.getD (i + 1) lf), rfl, rfl, SqL.of ha2, ?_, (by show 2 ≤ sizeLine; decide), fun p1 np1 => ?_⟩
            · rw [show (0 + (i : Int)) + 1 = ((i + 1 : Nat) : Int) by omega]
              exact at_ref lf (by omega)
            refine hfin p1 _ ?_ (Ne.symm (ne_of_none hlf np1)) (Same.new np1)
            rw [upd_same, SL_m hl]
            rfl
      · rintro σ H3 ⟨sl, us, Us, Ys, o6, o7, o8, o9, o10, rfl, hsl, hLU, hPU, u1, u7, hUl, hcn, hum, hslf, s3⟩
        have ne' : ∀ {u : Addr} {o : HO} {p : Addr}, H3 u = some o → H3 p = none → u ≠ p := fun h1 h2 => ne_of_none h1 h2
        have hlf3 := s3 _ _ hlf
        refine ⟨_, rfl, sl, true, rfl, ⟨_, SqL.of hsl⟩, ?_⟩
        refine comp_mapB ((Us.map fun R => (R.length : Int)).map V.int) (show SqB true K H3 sl (us.map V.ref) from SqL.of hsl) (by simp [hLU.1]) (by rw [List.length_map, hLU.1]; omega) (fun j x y hx hy H4 s4 R0 hR0 => ?_) fun acc H4 h0 s4 hacc => ?_
        · obtain ⟨q, hq, rfl⟩ := map_ref_get hx
          rw [List.map_map, List.getElem?_map] at hy
          obtain ⟨U, hU, rfl⟩ := Option.map_eq_some_iff.mp hy
          have := s4 _ _ (hLU.2 j q U hq hU)
          refine ⟨_, rfl, q, _, rfl, .inl (SqL.of this), ?_⟩
          rw [List.length_map]
          exact hR0 H4 (Same.refl _)
        refine ⟨true, acc, Us.map fun R => (R.length : Int), rfl, SqL.of hacc, fun e => ?_, fun B hB1 hB2 => ?_⟩
        · have : Us = [] := by simpa using e
          rw [this] at u1
          simp at u1
        obtain ⟨B, rfl⟩ : ∃ B' : Nat, B = B' := by
          obtain ⟨U, _, rfl⟩ := List.mem_map.mp hB1
          exact ⟨_, rfl⟩
        have hBb : B ≤ M + 1 := by
          obtain ⟨U, hU, e⟩ := List.mem_map.mp hB1
          have := hUl U hU
          omega
        have hUB : ∀ U ∈ Us, U.length ≤ B := fun U hU => by
          have := hB2 _ (List.mem_map_of_mem hU)
          omega
        refine ⟨(by show 1 ≤ sizeLine; decide), fun z0 nz0 => ⟨_, rfl, z0, _, _, rfl, rfl, upd_same, by omega, by omega, ?_, fun sa nsa => ?_⟩⟩
        · exact Nat.le_of_lt (small1000 (by simp; omega))
        rw [rep_vec, Int.toNat_natCast]
        have s5 : Same H4 (upd (upd H4 z0 (.lst [.int 0])) sa (.lst ((vec B fun _ => 0).map V.int))) := (Same.new nz0).trans (Same.new nsa)
        have x5 : upd (upd H4 z0 (.lst [.int 0])) sa (.lst ((vec B fun _ => 0).map V.int)) sa = some (.lst ((vec B fun _ => 0).map V.int)) := upd_same
        have nsa4 : H4 sa = none := (Same.new nz0).free nsa
        generalize upd (upd H4 z0 (.lst [.int 0])) sa (.lst ((vec B fun _ => 0).map V.int)) = H5 at s5 x5 ⊢
        have nsa3 : H3 sa = none := s4.free nsa4
        have nsam : Hm sa = none := (s2.trans s3).free nsa3
        have s35 := s4.trans s5
        have nsl : sl ≠ sa := ne_of_none hsl nsa3
        have nlf : lf ≠ sa := ne_of_none hlf3 nsa3
        refine ⟨_, rfl, sl, true, rfl, ⟨_, SqL.of (s35 _ _ hsl)⟩, ?_⟩
        refine for_seqB (b := true) (K := K) (a := sl) (xs := us.map V.ref) (fun j σ H6 => ∃ (o8 o9 o10 : Option V), σ = [some (.ref a), some (.bl c), some (.ref lm), some (.ref lf), some (.int (0 + (i : Int))), some (.ref sl), some (.int (B : Int)), some (.ref sa), o8, o9, o10] ∧ H6 sa = some (.lst ((vec B fun m => ((Us.take j).map fun U => U.getD m 0).sum).map V.int)) ∧ Sm sa H5 H6)
          ⟨_, _, _, rfl, x5, Sm.refl _ _⟩ (fun j σ H6 _ z => by
            obtain ⟨_, _, _, _, _, sz⟩ := z
            exact SqL.of (sz _ _ (s35 _ _ hsl) nsl)) ?_ ?_
        · rintro j x σ H6 hx ⟨o8, o9, o10, rfl, hsa6, sm6⟩
          obtain ⟨u, hu, rfl⟩ := map_ref_get hx
          have hj : j < Us.length := by rw [← hLU.1]; exact (List.getElem?_eq_some_iff.mp hu).1
          have hUj := List.getElem?_eq_getElem hj
          have hu3 := hLU.2 j u _ hu hUj
          have hUlB := hUB _ (List.getElem_mem hj)
          generalize Us[j] = U at hUj hu3 hUlB
          have nu : u ≠ sa := ne_of_none hu3 nsa3
          have hu6 := sm6 _ _ (s35 _ _ hu3) nu
          refine ⟨_, rfl, u, true, rfl, ⟨_, SqL.of hu6⟩, ?_⟩
          refine for_enumB (b := true) (K := K) (a := u) (xs := U.map V.int) (fun t σ H7 => ∃ (o9 o10 : Option V), σ = [some (.ref a), some (.bl c), some (.ref lm), some (.ref lf), some (.int (0 + (i : Int))), some (.ref sl), some (.int (B : Int)), some (.ref sa), some (.ref u), o9, o10] ∧ H7 sa = some (.lst ((vec B fun m => ((Us.take j).map fun U => U.getD m 0).sum + (if m < t then U.getD m 0 else 0)).map V.int)) ∧ Sm sa H5 H7)
            ⟨_, _, rfl, ?_, sm6⟩ (fun t σ H7 _ z => by
              obtain ⟨_, _, _, _, sz⟩ := z
              exact SqL.of (sz _ _ (s35 _ _ hu3) nu)) ?_ ?_
          · rw [hsa6]
            refine congrArg (fun z => some (HO.lst (z.map V.int))) (vec_congr fun m hm => ?_)
            rw [if_neg (by omega), Int.add_zero]
          · rintro t x p σ H7 hx ⟨o9, o10, rfl, hsa7, sm7⟩ hp
            obtain ⟨y, hy, rfl⟩ := map_get hx
            have ht : t < U.length := (List.getElem?_eq_some_iff.mp hy).1
            have ey : U.getD t 0 = y := by rw [List.getD_eq_getElem?_getD, hy]; rfl
            have npa : sa ≠ p := ne_of_none hsa7 hp
            have hsa8 : upd H7 p (.tup [.int (t : Int), .int y]) sa = H7 sa := upd_ne npa
            rw [hsa7] at hsa8
            have x8 : upd H7 p (.tup [.int (t : Int), .int y]) p = some (.tup [.int (t : Int), .int y]) := upd_same
            have s8 : Same H7 (upd H7 p (.tup [.int (t : Int), .int y])) := Same.new hp
            generalize upd H7 p (.tup [.int (t : Int), .int y]) = H8 at hsa8 x8 s8 ⊢
            refine ⟨p, _, rfl, SqT.of x8, rfl, _, _, rfl, _, _, rfl, rfl, ?_⟩
            refine ⟨_, rfl, _, rfl, sa, _, _, .int ((Us.take j).map fun U => U.getD t 0).sum, rfl, rfl, SqL.of hsa8, ?_, ?_⟩
            · refine atI_nat ?_
              rw [List.getElem?_map, vec_at (by omega), if_neg (by omega), Int.add_zero]
              rfl
            refine ⟨_, rfl, _, _, rfl, rfl, _, rfl, _, rfl, sa, _, _, t, rfl, rfl, hsa8, ?_, ?_⟩
            · have := ixN_of (n := ((vec B fun m => ((Us.take j).map fun U => U.getD m 0).sum + (if m < t then U.getD m 0 else 0)).map V.int).length) (x := ((t : Nat) : Int)) (by omega) (by rw [List.length_map, vec_len]; omega)
              rw [this, Int.toNat_natCast]
            · refine ⟨_, _, rfl, ?_, fun b o hb nb => ?_⟩
              · rw [upd_same]
                have es : ∀ (ns : List Int) (q : Nat) (z : Int), (ns.map V.int).set q (V.int z) = (ns.set q z).map V.int := fun ns q z => by rw [List.map_set]
                rw [es, vec_set]
                refine congrArg (fun z => some (HO.lst (z.map V.int))) (vec_congr fun m hm => ?_)
                by_cases z : m = t
                · subst z
                  rw [if_pos rfl, if_pos (by omega), ey]
                · rw [if_neg z]
                  congr 1
                  by_cases y : m < t
                  · rw [if_pos y, if_pos (by omega)]
                  · rw [if_neg y, if_neg (by omega)]
              · rw [upd_ne nb]
                exact s8 _ _ (sm7 b o hb nb)
          · rintro σ H7 ⟨o9, o10, rfl, hsa7, sm7⟩
            refine ⟨_, _, _, rfl, ?_, sm7⟩
            rw [hsa7, List.length_map]
            refine congrArg (fun z => some (HO.lst (z.map V.int))) (vec_congr fun m hm => ?_)
            rw [List.take_add_one, hUj, List.map_append, List.sum_append]
            show _ = _ + (U.getD m 0 + 0)
            by_cases z : m < U.length
            · rw [if_pos z, Int.add_zero]
            · rw [if_neg z, List.getD_eq_getElem?_getD, List.getElem?_eq_none (by omega)]
              rfl
        · rintro σ H6 ⟨o8, o9, o10, rfl, hsa6, sm6⟩
          rw [List.length_map, hLU.1, List.take_length] at hsa6
          have hlf6 := sm6 _ _ (s35 _ _ hlf3) nlf
          have hql : qf.length ≤ i := by
            have h1 := hLF.1
            have h2 := hPF.1
            rw [List.length_take] at h2
            omega
          refine ⟨_, rfl, .inl ⟨rfl, _, SqL.of hlf6⟩, _, rfl, lf, _, _, rfl, rfl, hlf6, small1000 (by rw [List.length_map]; omega), ?_⟩
          have hnl : i < (nx c N).length := by
            cases c
            · show i < (nextN N).length
              unfold nextN
              simp
              omega
            · show i < (nextKN N).length
              rw [nextKN_len]
              exact hi
          have hmf : Hm lf = none := nf
          have s26 : Sm sa H2 H6 := fun b o hb nb => sm6 _ _ (s35 _ _ (s3 _ _ hb)) nb
          have nqf : ∀ q ∈ qf, q ≠ sa := fun q hq z => by
            obtain ⟨o, ho⟩ := lls_had hLF q hq
            exact ne_of_none (s3 _ _ ho) nsa3 z
          refine ⟨qf ++ [sa], RF ++ [vec B fun m => (Us.map fun U => U.getD m 0).sum], _, _, _, _, _, _, _, rfl, by rw [upd_same, List.map_append]; rfl, LLs.snoc ⟨hLF.1, fun j r xs h1 h2 => ?_⟩ ?_, ?_, fun R hR0 => ?_, fun q hq => ?_, fun b o hb => ?_⟩
          · have hr := List.mem_of_getElem? h1
            rw [upd_ne (hqf r hr).1]
            exact s26 _ _ (hLF.2 j r xs h1 h2) (nqf r hr)
          · rw [upd_ne (Ne.symm nlf)]
            exact hsa6
          · rw [List.take_add_one, List.getElem?_eq_getElem hnl]
            refine RpL.snoc hPF ((hPU.all hUB).congr fun m => ?_)
            rw [← hcn m, List.getD_eq_getElem?_getD, List.getElem?_eq_getElem hnl]
            rfl
          · rcases List.mem_append.mp hR0 with z | z
            · exact hlF R z
            · rw [List.mem_singleton] at z
              subst z
              rw [vec_len]
              exact hBb
          · rcases List.mem_append.mp hq with z | z
            · exact hqf q z
            · rw [List.mem_singleton] at z
              subst z
              exact ⟨Ne.symm nlf, sm.free nsam⟩
          · have n1 : b ≠ lf := ne_of_none hb hmf
            have n2 : b ≠ sa := ne_of_none hb nsam
            rw [upd_ne n1]
            exact s26 _ _ (s2 _ _ hb) n2
    · rintro σ H2 ⟨qf, RF, o4, o5, o6, o7, o8, o9, o10, rfl, hlf, hLF, hPF, hlF, hqf, s2⟩
      have hnl : (nx c N).length = N.length := by
        cases c
        · show (nextN N).length = _
          unfold nextN
          simp
          omega
        · exact nextKN_len N
      rw [List.take_of_length_le (by omega)] at hPF
      exact ⟨_, rfl, k lf qf RF H2 hlf0 (fun q hq => (hqf q hq).2) hlf hLF hPF hlF (sm.trans s2)⟩

end
end Fh73

set_option Elab.async false
set_option linter.all false
set_option maxRecDepth 100000
set_option maxHeartbeats 4000000
namespace L2
open PySem PyProof.Rows
/-! ### sorting what is in order already, any number of things: one run -/
section
variable {prog : Program} {w : World} {A : Around} {E : Value → Shared → Prop} {s : Shared} {O : KO} {knd : SortKind} {ok : Keyed → Prop} {st τ : SortSt}
theorem min_le : ∀ f n r, r ≤ 1 → minRun' f n r ≤ n + r
  | 0, n, r, _ => Nat.le_refl _
  | f + 1, n, r, h => by
    rw [minRun'_succ]
    split
    · exact Nat.le_refl _
    · have := min_le f (n / 2) (max r (n % 2)) (by omega)
      omega
theorem up_srt {a : Array Keyed} (sa : O.Srt a.toList) : Up O 0 a.size a := fun i j hij hj => by
  obtain ⟨x, ex, ex', _⟩ := arr_at (a := a) (i := i) (by omega)
  obtain ⟨y, ey, ey', _⟩ := arr_at (a := a) (i := j) hj
  have := sorted_at sa hij ex' ey'
  unfold ka
  rw [Nat.zero_add, Nat.zero_add, ex, ey]
  exact this
theorem wpS_runU {b₀ : Array Keyed} {p₀ : Array (Nat × Nat × Nat)} {lo nrem : Nat} {Q : Option Nat → SortSt → Prop} (hA : Asks prog w A s O knd ok) (h0 : ∀ x ∈ b₀.toList, ok x) (hF : FB knd b₀ p₀ lo st) (hn : lo + nrem ≤ b₀.size) (h1 : 1 ≤ nrem)
    (hup : Up O lo nrem (arrOf st)) (h : Q (some nrem) st) : wpS (model prog w) A E s (countRun' lo nrem) Q st := by
  refine wpS_bind (wpS_ascL (a := 1) hA h0 hF hn (Nat.le_refl 1) h1 (fun i j hij hj => ?_) fun n n1 n2 u hor => ?_)
  · obtain rfl : i = j := by omega
    exact KeyOrd.kle_refl _
  dsimp only
  have c : n = nrem := by
    rcases hor with z | z
    · exact z
    · by_cases e : n = nrem
      · exact e
      · exfalso
        have t := hup (n - 1) n (by omega) (by omega)
        rw [show lo + (n - 1) = lo + n - 1 by omega] at t
        exact Bool.false_ne_true (Eq.trans (Eq.symm t) z)
  rw [if_pos (by simpa using c)]
  subst c
  exact wpS_pure h
theorem wpS_sortUp {a₀ : Array Keyed} {Q : Unit → SortSt → Prop} (hs0 : O.Srt a₀.toList) (hA : Asks prog w A s O knd ok) (h0 : ∀ x ∈ a₀.toList, ok x) (ha : arrOf st = a₀) (hk : kindOf st = knd) (hf : failedOf st = none) (hp : pendingOf st = #[])
    (h : ∀ τ, (arrOf τ).toList.Perm a₀.toList → failedOf τ = none → O.Srt (arrOf τ).toList → Q () τ) : wpS (model prog w) A E s sortRuns' Q st := by
  refine wpS_bind (wpS_get ?_)
  dsimp only
  have hN : (arrOf st).size = a₀.size := by rw [ha]
  have hN2 : a₀.toList.length = a₀.size := Array.length_toList
  rw [hN]
  refine wpS_bind (wpS_mono (wpS_forRange
    (I := fun x c τ => ∃ lo runs rest, c = ((none : Option Unit), lo) ∧ RI O knd a₀.toList runs rest τ ∧ lo = runs.flatten.length ∧ (x ≤ lo) ∧ runs.length ≤ 1 ∧ ((runs = [] ∧ arrOf τ = a₀) ∨ rest = []))
    (Q := fun c τ => ∃ lo runs, c = ((none : Option Unit), lo) ∧ RI O knd a₀.toList runs [] τ ∧ runs.length ≤ 1) ?go ?out ⟨0, [], a₀.toList, rfl, ⟨by rw [ha]; simp, by rw [ha], (fun r hr => nomatch hr), (fun r hr => nomatch hr), hk, hf, by rw [hp]; rfl⟩, rfl, Nat.le_refl 0, Nat.zero_le _, .inl ⟨rfl, ha⟩⟩) ?fin)
  case out =>
    rintro c τ ⟨lo, runs, rest, rfl, hR, e1, e2, e3, _⟩
    have q1 := hR.size
    have q2 := hR.size0
    have q3 := hN2
    have : rest = [] := List.length_eq_zero_iff.mp (by
      have q4 : max 0 a₀.size ≤ lo := e2
      omega)
    subst this
    exact ⟨lo, runs, rfl, hR, e3⟩
  case fin =>
    rintro c τ ⟨lo, runs, rfl, hR, e3⟩
    dsimp only
    have q1 := hR.size
    have q3 := hN2
    have q4 := hR.size0
    refine wpS_bind (wpS_mono (wpS_forRange (I := fun x c τ' => c = ((none : Option Unit), ()) ∧ ∃ runs', RI O knd a₀.toList runs' [] τ' ∧ runs'.length ≤ 1)
      (Q := fun c τ' => c = ((none : Option Unit), ()) ∧ ∃ runs', RI O knd a₀.toList runs' [] τ' ∧ runs'.length ≤ 1) ?g2 (fun _ _ z => z) ⟨rfl, runs, hR, e3⟩) ?f2)
    case f2 =>
      rintro c τ' ⟨rfl, runs', hR', e⟩
      refine wpS_pure (h τ' hR'.perm hR'.failed ?_)
      rw [hR'.arr, List.append_nil]
      match runs', e, hR' with
      | [], _, _ => exact List.Pairwise.nil
      | [r], _, hR' => simpa using hR'.srt r (by simp)
    case g2 =>
      rintro x c τ' _ _ ⟨rfl, runs', hR', e⟩
      refine wpS_bind (wpS_get ?_)
      rw [if_pos (show (pendingOf τ').size ≤ 1 by rw [hR'.len]; exact e)]
      exact wpS_pure ⟨rfl, runs', hR', e⟩
  case go =>
    rintro x c τ _ hx ⟨lo, runs, rest, rfl, hR, e1, e2, e3, e4⟩
    have q1 := hR.size
    have q2 := hR.size0
    have q3 := hN2
    dsimp only
    by_cases c0 : lo ≥ a₀.size
    · rw [if_pos c0]
      have : rest = [] := List.length_eq_zero_iff.mp (by omega)
      subst this
      exact wpS_pure ⟨lo, runs, rfl, hR, e3⟩
    rw [if_neg c0]
    have hr0 : runs = [] ∧ arrOf τ = a₀ := by
      rcases e4 with z | z
      · exact z
      · subst z
        simp only [List.length_nil] at q1
        omega
    obtain ⟨rfl, hat⟩ := hr0
    have hlo : lo = 0 := e1
    subst hlo
    have sz : (arrOf τ).size = a₀.size := q2.trans q3
    have rl : rest.length = a₀.size := by
      have z : (arrOf τ).size = 0 + rest.length := q1
      rw [sz, Nat.zero_add] at z
      exact z.symm
    have x0 : x = 0 := Nat.le_zero.mp e2
    subst x0
    have sp : 1 ≤ a₀.size := Nat.lt_of_not_le c0
    clear q1 q2 q3 hN e2 e3 e4 hx c0 e1
    have oks : ∀ x ∈ (arrOf τ).toList, ok x := fun x hx => h0 x (hR.perm.mem_iff.mp hx)
    have hup : Up O 0 (a₀.size - 0) (arrOf τ) := by rw [hat, Nat.sub_zero]; exact up_srt hs0
    have hF : FB knd (arrOf τ) (pendingOf τ) 0 τ := ⟨Array.Perm.refl _, fun _ _ => rfl, hR.kind, hR.failed, rfl⟩
    refine wpS_bind (wpS_runU (b₀ := arrOf τ) (p₀ := pendingOf τ) (lo := 0) hA oks hF (by omega) (by omega) hup ?_)
    dsimp only
    have hm := min_le a₀.size a₀.size 0 (Nat.zero_le _)
    have nob : ∀ {τ2 : SortSt} {r rest' : List Keyed}, RI O knd a₀.toList [] (r ++ rest') τ2 → (pendingOf τ2).back? = none := fun {τ2 r rest'} hR2 => by
      have := hR2.len
      simp only [List.length_nil] at this
      rw [Array.back?_eq_getElem?]
      exact Array.getElem?_eq_none (by omega)
    have nor : ∀ {τ2 : SortSt} {r rest' : List Keyed}, RI O knd a₀.toList [] (r ++ rest') τ2 → r.length = a₀.size → rest' = [] := fun {τ2 r rest'} hR2 hl => by
      have z1 := hR2.size
      have z2 := hR2.size0
      simp only [List.flatten_nil, List.length_nil, List.length_append] at z1
      exact List.length_eq_zero_iff.mp (by omega)
    refine wpS_ite (fun cm => absurd cm (Nat.not_lt.mpr (show minRun' a₀.size a₀.size 0 ≤ a₀.size - 0 by omega))) (fun cm => ?_)
    obtain ⟨r, rest', hr, hs, hl, hR2⟩ := fb_ri (runs := []) hR hF hup (by rw [rl]; omega)
    have hre := nor hR2 (by omega)
    refine wpS_bind (wpS_get ?_)
    rw [nob hR2]
    dsimp only
    exact wpS_bind (wpS_modify (wpS_pure ⟨_, [] ++ [r], rest', rfl, hR2.push hs hr (by omega) rfl, by simp [hr], by omega, by simp, .inr hre⟩))
theorem sort_up {a : Addr} {vs : List Value} {n : Nat} {P : PySem.Fin → Shared → Prop} (ho : s.heap.get? a = some (seqObj "list" vs.toArray n)) (hz : vs.length ≤ sizeLine) (hup : O.Srt (vs.zip vs))
    (hkk : ∀ h', (∀ b o, s.heap.get? b = some o → b ≠ a → h'.get? b = some o) → 2 ≤ vs.length → ∀ Q : SortKind → Shared → Prop, Q knd { s with heap := h' } → wpAny (model prog w) A (keyKind' vs.toArray) Q E { s with heap := h' })
    (hA : ∀ h', (∀ b o, s.heap.get? b = some o → b ≠ a → h'.get? b = some o) → Asks prog w A { s with heap := h' } O knd ok) (hok : ∀ v ∈ vs, ok (v, v))
    (h : ∀ us : List Value, us.Perm vs → Ord2 O false us → P (.done (.ret .none)) { s with heap := sortedHeap s.heap a vs us.toArray }) : wpAny (model prog w) A (Builtin.«list.sort» ⟨[.ref a], []⟩) P E s := by
  have ha : a < s.heap.objs.size := Heap.lt_size ho
  have keep := fun (b : Addr) (o : Obj) (hb : s.heap.get? b = some o) (hne : b ≠ a) => sort_heap ho hb hne
  obtain ⟨e1, ho1⟩ : ∃ c, (s.heap.update a (Obj.mapSeq fun _ => #[])).get? a = some (seqObj "list" #[] c) := ⟨_, get?_update_seq ho (fun _ => #[])⟩
  have ho6 := Heap.get?_push_of_some (seqObj "list" #[] 0) (Heap.get?_push_of_some (seqObj "tuple" vs.toArray 0) ho1)
  have hsv : vs.toArray.size = vs.length := List.size_toArray
  have hz1 : vs.toArray.size ≤ sizeLine := by rw [hsv]; exact hz
  have fin : ∀ (τ : SortSt), (arrOf τ).toList.Perm (vs.zip vs) → O.Srt (arrOf τ).toList → P (.done (.ret .none)) { s with heap := sortedHeap s.heap a vs ((arrOf τ).map (·.2)) } := by
    intro τ hp hs
    obtain ⟨us, e, p1, p2⟩ := out_of hp hs false
    have e2 : (arrOf τ).map (·.2) = us.toArray := by rw [← e]; apply Array.toList_inj.mp; simp
    rw [e2]
    exact h us p1 p2
  have osz : ∀ τ : SortSt, (arrOf τ).toList.Perm (vs.zip vs) → ((arrOf τ).map (·.2)).size ≤ sizeLine + 1 := by
    intro τ hp
    rw [Array.size_map, ← Array.length_toList, hp.length_eq, List.length_zip]
    omega
  rw [list_sort_plain]
  refine wpAny_bind (listItems_at ho rfl (wpAny_bind (listUpdate_at ho rfl ?_ hz1 (Nat.zero_le _))))
  refine wpAny_bind (seqEpoch_at ho1 rfl (wpAny_bind (wpAny_newTuple ?_ hz)))
  refine wpAny_bind (wpAny_newList ?_ (Nat.zero_le _))
  refine wpAny_holding ?_
  show wpAny (model prog w) A _ P E ({ s with heap := ((s.heap.update a (Obj.mapSeq fun _ => #[])).push (seqObj "tuple" vs.toArray 0)).push (seqObj "list" #[] 0) } : Shared)
  dsimp only
  by_cases h2 : vs.toArray.size < 2
  · rw [if_pos h2, if_pos h2]
    refine wpAny_bind (wpAny_pure ?_)
    rw [StateT.run_pure]
    have hp0 : (vs.toArray.zip vs.toArray).toList.Perm (vs.zip vs) := by simp
    refine wpAny_bind (wpAny_pure (wpAny_bind (seqEpoch_at ho6 rfl (wpAny_bind (listUpdate_at ho6 rfl ?_ (Nat.zero_le _) (osz (SortSt.mk' general' (vs.toArray.zip vs.toArray) #[] 7 none) hp0))))))
    simp only [bne_self_eq_false, Bool.false_eq_true, if_false]
    refine wpAny_pure (fin (SortSt.mk' general' (vs.toArray.zip vs.toArray) #[] 7 none) hp0 ?_)
    show O.Srt (vs.toArray.zip vs.toArray).toList
    rw [show (vs.toArray.zip vs.toArray).toList = vs.zip vs by simp]
    match vs, h2 with
    | [], _ => exact List.Pairwise.nil
    | [v], _ => exact List.pairwise_singleton _ _
  · rw [if_neg h2, if_neg h2]
    refine wpAny_bind (hkk _ keep (by omega) _ ?_)
    refine wpAny_bind (wpAny_mono (wpS_sortUp (by simpa using hup) (a₀ := vs.toArray.zip vs.toArray) (st := SortSt.mk' knd (vs.toArray.zip vs.toArray) #[] 7 none) (Q := fun _ τ => (arrOf τ).toList.Perm (vs.zip vs) ∧ failedOf τ = none ∧ O.Srt (arrOf τ).toList)
      (hA _ keep) (fun x hx => ?_) rfl rfl rfl rfl fun τ a1 a2 a3 => ⟨by simpa using a1, a2, a3⟩) ?_ fun _ _ z => z)
    · have hx : x ∈ vs.zip vs := by simpa using hx
      have q := mem_zip_self hx
      rw [show x = (x.1, x.1) from Prod.ext rfl q.1.symm]
      exact hok _ q.2
    · rintro ⟨⟨⟩, τ⟩ s' ⟨rfl, hp, hf, hs⟩
      refine wpAny_bind (seqEpoch_at ho6 rfl (wpAny_bind (listUpdate_at ho6 rfl ?_ (Nat.zero_le _) (osz τ hp))))
      dsimp only
      rw [hf]
      simp only [bne_self_eq_false, Bool.false_eq_true, if_false]
      exact wpAny_pure (fin τ hp hs)
end
end L2
namespace L2
open PySem PySem.Spec PyProof.Rows PySem.SeqAt
section
variable {prog : Program} {w : World} {A : Around} {E : Value → Shared → Prop} {s : Shared} {O : KO}
theorem sortedL_up {l : Addr} {vs : List Value} {Q : Value → Shared → Prop} (hl : s.heap.IsList l vs.toArray) (hz : vs.length ≤ sizeLine) (hS : Sortable prog w s O vs) (hup : O.Srt (vs.zip vs))
    (h : ∀ us : List Value, us.Perm vs → Ord2 O false us → Q (.ref (s.heap.objs.size + 1)) { s with heap := sortedAll s.heap vs us.toArray }) : wpAny (model prog w) A (call (.builtin "sorted") [.ref l]) Q E s := by
  obtain ⟨knd, ok, h1, h2, h3⟩ := hS.ex
  have zz : ((s.heap.push (seqObj "list" #[] 0)).update s.heap.objs.size (Obj.mapSeq (· ++ vs.toArray))).objs.size = s.heap.objs.size + 1 := by rw [Heap.size_update, size_push']
  have at1 : (((s.heap.push (seqObj "list" #[] 0)).update s.heap.objs.size (Obj.mapSeq (· ++ vs.toArray))).push (seqObj "list" vs.toArray 0)).get? (s.heap.objs.size + 1) = some (seqObj "list" vs.toArray 0) := by
    have := Heap.get?_push_size ((s.heap.push (seqObj "list" #[] 0)).update s.heap.objs.size (Obj.mapSeq (· ++ vs.toArray))) (o := seqObj "list" vs.toArray 0) rfl
    rwa [zz] at this
  refine Calls.call_function_entry kind_sorted plain_sorted entry_sorted (args_sorted1 _) ?_
  unfold Builtin.«sorted»
  refine wpAny_bind (m := checkCount "sorted" 1 1 _) (wpAny_pure (wpAny_bind (collect_list hl (wpAny_bind (wpAny_newList ?_ hz)) hz)))
  show wpAny _ _ _ _ _ { s with heap := ((s.heap.push (seqObj "list" #[] 0)).update s.heap.objs.size (Obj.mapSeq (· ++ vs.toArray))).push (seqObj "list" vs.toArray 0) }
  rw [zz]
  have up : ∀ h' : Heap, (∀ b o, (((s.heap.push (seqObj "list" #[] 0)).update s.heap.objs.size (Obj.mapSeq (· ++ vs.toArray))).push (seqObj "list" vs.toArray 0)).get? b = some o → b ≠ s.heap.objs.size + 1 → h'.get? b = some o) → ∀ b o, s.heap.get? b = some o → h'.get? b = some o := fun h' k b o q =>
    k b o (sorted_old (l := l) s.heap b o q) (Nat.ne_of_lt (Nat.lt_succ_of_lt (Heap.lt_size q)))
  exact wpAny_bind (wpAny_holding (wpAny_call_entry slot_list_sort ⟨_, at1, rfl⟩ entry_list_sort (sort_up at1 hz hup (fun h' k hl2 Q' q => h3 _ _ h' (up h' k) hl2 Q' q) (fun h' k => h2 _ h' (up h' k)) h1 fun us p1 p2 => ⟨_, rfl, wpAny_pure ⟨_, rfl, h us p1 p2⟩⟩) (args_list_sort _)))
theorem up_ints {vs : List Value} {ns : List Int} (hI : IntsAre vs ns) (h : ns.Pairwise (· ≤ ·)) : KOi.Srt (vs.zip vs) := by
  have e := hI.nums
  subst e
  rw [List.pairwise_map] at h
  have z : vs.zip vs = vs.map fun v => (v, v) := by
    clear h hI
    induction vs with
    | nil => rfl
    | cons v vs ih => rw [List.zip_cons_cons, ih, List.map_cons]
  rw [z]
  show (vs.map fun v => (v, v)).Pairwise KOi.le
  rw [List.pairwise_map]
  exact h.imp fun {x y} q => by
    show decide (numOf y < numOf x) = false
    simpa using q
end
section
variable {X : Cx}
/-- sorted(xs) of a list of ints that are in order, however many -/
theorem call_sortU : CallR X (.builtin "sorted") (fun xs H Q => ∃ (a : Addr) (ns : List Int), xs = [.ref a] ∧ SqL X.K H a (ns.map V.int) ∧ ns.Pairwise (· ≤ ·) ∧ ∀ (l : Addr) (ms : List Int), H l = none → ms.Perm ns → ms.Pairwise (· ≤ ·) → Q (.ref l) (upd H l (.lst (ms.map V.int)))) := by
  intro pins s σ H xs us Q I r h
  obtain ⟨a, ns, rfl, hq, hs, q⟩ := h
  obtain ⟨u, rfl, r1⟩ := vals1 r
  cases r1
  obtain ⟨its, rv, p, hz⟩ := I.list hq
  have hl : its.length = ns.length := by rw [← rv.length, List.length_map]
  rw [List.length_map] at hz
  refine sortedL_up p.isList (by rw [hl]; exact hz) (sortable_ints (intsAre_of rv)) (up_ints (intsAre_of rv) hs) fun us p1 p2 => ?_
  obtain ⟨ms, hI, pm⟩ := ints_perm (intsAre_of rv) p1
  obtain ⟨e, he⟩ := sortedAll_at s.heap its us.toArray
  have hle : s.heap.objs.size ≤ s.heap.objs.size + 1 := Nat.le_succ _
  refine ⟨.ref (s.heap.objs.size + 1), _, I.laid (a := s.heap.objs.size + 1) (o := .lst (ms.map V.int)) (t' := s.toks) (fun b o q => sortedAll_old q) hle ⟨?_, us, e, vals_of_ints hI, he⟩, rfl, q _ ms (I.hok.fresh hle) pm (ord_ints hI p2)⟩
  rw [List.length_map, pm.length_eq]; exact hz
end
end L2

set_option Elab.async false
set_option linter.all false
set_option maxRecDepth 100000
set_option maxHeartbeats 4000000
namespace Fh73
open PySem L2 Lv
section
variable {P : Program} {w : World} {K : PySem.W.Frag} {mg : Str → Option Value} {base : Heap}
def spLogR : Sp := fun vs H Q _ => ∃ (p r : Nat) (l : Addr), vs = [.int p, .ref l] ∧ 2 ≤ p ∧ p ≤ 7 ∧ 1 ≤ r ∧ r ≤ 990 ∧ H l = some (.lst ((List.replicate r (1 : Int)).map V.int)) ∧ ∀ t H', Wi p r t → Same H H' → Q (.int (lj p r t)) H'
theorem scLogR : FnScope ["p", "lengths", "left", "read", "take", "joined"] ["p", "lengths"] (defScope sLogR) := ⟨rfl, rfl, rfl, by decide +kernel, rfl, by decide +kernel, by decide +kernel⟩
theorem ok_logR {f : Addr} {fd : FuncData} (F : Fun K "_law_log_reading" "_law_log_reading" sLogR f fd) (T : Txt mg) : FnOk P w K mg base CX0 1 f fd ["p", "lengths"] spLogR := by
  refine F.ok scLogR (fun vs H Q E h => ?_) (fun cdv A outer s H vs Q E hr h => ?_)
  · obtain ⟨p, r, l, rfl, _⟩ := h
    rfl
  · obtain ⟨p, r, l, rfl, h1, h2, r1, r2, hl, k⟩ := h
    refine ⟨_, (pss_cons (ps_set (i := 2) scLogR.nd rfl (Or.inl rfl) (pe_callB call_sortU rfl T.sorted b_sorted (pa_cons (pv 1) pa_nil)))
      (pss_cons (ps_set (i := 3) scLogR.nd rfl (Or.inl rfl) pe_int)
      (pss_cons (ps_set (i := 4) scLogR.nd rfl (Or.inl rfl) (pe_op op_add pe_int (pe_op op_mod (pe_op op_sub (pe_callB call_len_seq rfl T.len PySem.boot_len (pa_cons (pv 2) pa_nil)) pe_int) (pe_op op_sub (pv 0) pe_int))))
      (pss_cons (ps_while PassesOwn.never (pt_cmpR op_gt (pe_callB call_len_seq rfl T.len PySem.boot_len (pa_cons (pv 2) pa_nil)) pe_int (nomark _))
      (pss_cons (ps_set (i := 5) scLogR.nd rfl (Or.inl rfl) (pe_callB (call_sumI rfl) rfl T.sum b_sum (pa_cons (pe_slice sl_list (pv 2) po_none (po_some (pv 4))) pa_nil)))
        (pss_cons (ps_set (i := 3) scLogR.nd rfl (Or.inl rfl) (pe_op op_add (pv 3) (pv 5)))
        (pss_cons (ps_set (i := 2) scLogR.nd rfl (Or.inl rfl) (pe_callB call_sortU rfl T.sorted b_sorted (pa_cons (pe_op op_cat (pe_slice sl_list (pv 2) (po_some (pv 4)) po_none) (pe_lst (pa_cons (pv 5) pa_nil))) pa_nil)))
        (pss_one (ps_set (i := 4) scLogR.nd rfl (Or.inl rfl) (pv 0)))))))
      (pss_one (ps_ret (pv 3))))))), ?_⟩
    refine ⟨_, rfl, l, _, rfl, SqL.of hl, List.pairwise_replicate.mpr (.inr (Int.le_refl _)), fun l0 ms hl0 hpm hsm => ?_⟩
    have em : ms = List.replicate r 1 := srtI_eq hpm hsm (List.pairwise_replicate.mpr (.inr (Int.le_refl _)))
    subst em
    have s0 : Same H (upd H l0 (.lst ((List.replicate r 1).map V.int))) := Same.new hl0
    have e0 : upd H l0 (.lst ((List.replicate r (1 : Int)).map V.int)) l0 = some (.lst ((List.replicate r (1 : Int)).map V.int)) := upd_same
    generalize upd H l0 (.lst ((List.replicate r (1 : Int)).map V.int)) = H0 at s0 e0 ⊢
    refine ⟨_, rfl, l0, _, rfl, .inl (SqL.of e0), _, _, rfl, rfl, _, rfl, _, _, rfl, rfl, _, _, rfl, rfl, (by show (0 : Int) < (p : Int) - 1; omega), _, _, rfl, rfl, ?_⟩
    refine ⟨fun m σ H2 => ∃ (la : Addr) (lv : List Int) (rd tk : Int) (o5 : Option V), σ = [some (.int p), some (.ref l), some (.ref la), some (.int rd), some (.int tk), o5] ∧ H2 la = some (.lst (lv.map V.int)) ∧ LogS p r lv rd tk ∧ lv.length ≤ r ∧ Same H H2 ∧ m = lv.length, ⟨_, l0, List.replicate r 1, 0, _, none, rfl, e0, .inl ⟨rfl, rfl, ?_⟩, by simp, s0, rfl⟩, ?_⟩
    · unfold fst1
      simp
    rintro m σ H2 ⟨la, lv, rd, tk, o5, rfl, hla, hL, hlr, s2, rfl⟩
    refine ⟨_, rfl, la, _, rfl, .inl (SqL.of hla), _, _, rfl, rfl, _, rfl, ite2 (fun hc => ?_) fun hc => ?_⟩
    · have hl1 : 1 < lv.length := by
        have := of_decide_eq_true hc
        rw [List.length_map] at this
        omega
      obtain ⟨m, rfl, m2, m3, hL2⟩ := hL.step h1 hl1
      refine ⟨fun σ' H' => ∃ m', m' < lv.length ∧ ∃ (la : Addr) (lv : List Int) (rd tk : Int) (o5 : Option V), σ' = [some (.int p), some (.ref l), some (.ref la), some (.int rd), some (.int tk), o5] ∧ H' la = some (.lst (lv.map V.int)) ∧ LogS p r lv rd tk ∧ lv.length ≤ r ∧ Same H H' ∧ m' = lv.length, fun _ _ h => h, ?_⟩
      refine ⟨_, rfl, _, rfl, _, rfl, la, _, rfl, SqL.of hla, fun q hq => ?_⟩
      rw [cutV_take] at *
      refine ⟨q, _, rfl, SqL.of upd_same, ?_⟩
      have s3 : Same H2 (upd H2 q (.lst ((lv.take m).map V.int))) := Same.new hq
      generalize upd H2 q (.lst ((lv.take m).map V.int)) = H3 at s3 ⊢
      refine ⟨_, rfl, _, rfl, _, _, rfl, rfl, ?_⟩
      refine ⟨_, rfl, _, rfl, _, rfl, la, _, rfl, SqL.of (s3 _ _ hla), fun q2 hq2 => ?_⟩
      rw [cutV_drop]
      refine ⟨_, rfl, (by show 1 ≤ sizeLine; decide), fun q3 hq3 => ?_⟩
      have s4 : Same H3 (upd H3 q2 (.lst ((lv.drop m).map V.int))) := Same.new hq2
      refine ⟨q2, q3, _, _, rfl, rfl, (Same.new hq3) _ _ upd_same, upd_same, Nat.le_of_lt (small1000 (by simp; omega)), fun q4 hq4 => ?_⟩
      refine ⟨q4, lv.drop m ++ [(lv.take m).sum], rfl, ?_, hL2.srt, fun l5 ms5 hl5 hp5 hs5 => ?_⟩
      · refine SqL.of ?_
        rw [upd_same, List.map_append]
        rfl
      have e5 : ms5 = lv.drop m ++ [(lv.take m).sum] := srtI_eq hp5 hs5 hL2.srt
      subst e5
      have hfew := hL.few h1 hl1 (m := m) rfl
      refine ⟨_, rfl, _, hfew, l5, _, _, _, _, rfl, upd_same, hL2, by omega, ?_, rfl⟩
      exact ((((s2.trans s3).trans s4).trans (Same.new hq3)).trans (Same.new hq4)).trans (Same.new hl5)
    · obtain ⟨t, ht, rfl⟩ := hL.last h1 r1 fun z => hc (decide_eq_true (by rw [List.length_map]; omega))
      exact ⟨_, rfl, k t H2 ht s2⟩

end
end Fh73

set_option Elab.async false
set_option linter.all false
set_option maxRecDepth 100000
set_option maxHeartbeats 4000000
namespace L2
open PySem PySem.Spec PyProof.Rows PySem.SeqAt Lv
/-- t[lo:hi], whether or not it is the whole of t -/
def rSlB (K : PySem.W.Frag) : V → Option Int → Option Int → Hp → VK → Prop := fun x lo hi H Q => ∃ a xs, x = .ref a ∧ H a = some (.tup xs) ∧ ∀ a' H', Same H H' → H' a' = some (.tup (cutV xs lo hi)) → Q (.ref a') H'
theorem sl_tupB {X : Cx} : SlR X (rSlB X.K) := by
  intro pins s σ H x v vl vu lo hi sl Q I rx hs pl pu h
  obtain ⟨a, xs, rfl, hx, q⟩ := h
  by_cases hw : HT.sIx xs.length 0 lo = 0 ∧ HT.sIx xs.length xs.length hi = xs.length
  · have ec : cutV xs lo hi = xs := by
      unfold cutV
      rw [hw.1, hw.2, List.drop_zero, Nat.sub_zero, List.take_length]
    exact sl_tupA pins s σ H _ v vl vu lo hi sl Q I rx hs pl pu ⟨a, xs, rfl, SqT.of hx, hw, q a H (Same.refl _) (by rw [ec]; exact hx)⟩
  · exact sl_tup pins s σ H _ v vl vu lo hi sl Q I rx hs pl pu ⟨a, xs, rfl, SqT.of hx, hw, fun p hp => q p _ (Same.new hp) upd_same⟩
end L2

set_option Elab.async false
set_option linter.all false
set_option maxRecDepth 100000
set_option maxHeartbeats 4000000
namespace Fh73
open PySem L2 Lv
section
variable {P : Program} {w : World} {K : PySem.W.Frag} {mg : Str → Option Value} {base : Heap}
def spRows73 : Sp := fun vs H Q _ => ∃ (pl : Addr) (p : Nat), vs = [.ref pl, .int p] ∧ PotT H pl ∧ 2 ≤ p ∧ p ≤ 7 ∧ ∀ (r : Int) H', 1 ≤ r → r ≤ 201 → PotT H' pl → Sm pl H H' → Q (.int r) H'
theorem callK_sumI (K : PySem.W.Frag) {X : Cx} (hc : X.calm = true) (hK : X.K = K := by rfl) : CallR X (.builtin "sum") (fun xs H Q => ∃ (a : Addr) (ns : List Int), xs = [.ref a] ∧ SqL K H a (ns.map V.int) ∧ Q (.int ns.sum) H) := by subst hK; exact call_sumI hc
theorem smf {p q : Addr} {H H1 : Hp} (s : Sm p H H1) (n : q ≠ p) (h : H1 q = none) : H q = none := by
  cases e : H q with
  | none => rfl
  | some o => rw [s q o e n] at h; cases h
theorem bits73 {n : Int} (h0 : 0 ≤ n) (h : n ≤ 1000) : Builtin.Int.intBits n ≤ 8000 := bits_small h0 (by omega)
theorem scRows : FnScope ["pot", "p", "way", "powers", "totals"] ["pot", "p"] (defScope sRows) := ⟨rfl, rfl, rfl, by decide +kernel, rfl, by decide +kernel, by decide +kernel⟩
theorem ok_rows73 {f f1 f2 : Addr} {fd d1 d2 : FuncData} (F : Fun K "_law_rows" "_law_rows" sRows f fd) (T : Txt mg) (CT : Cal P w K mg base 1 "_law_take" ["pot", "many"] spTakeT f1 d1) (CL : Cal P w K mg base 1 "_law_counts" ["p", "n"] spLCounts f2 d2) : FnOk P w K mg base CX0 2 f fd ["pot", "p"] spRows73 := by
  refine okW F scRows (fun vs H Q E h => ?_) (fun cdv A outer s H vs Q E hr h => ?_)
  · obtain ⟨pl, p, rfl, _⟩ := h
    rfl
  · obtain ⟨pl, p, rfl, hP, h1, h2, k⟩ := h
    have hr1 : Room 1 _ := hr.mono (by decide)
    refine ⟨_, (wss_cons (ws (ps_set (i := 2) scRows.nd rfl (Or.inl rfl) (pe_cal CT hr1 rfl (pa_cons (pv 0) (pa_cons pe_int pa_nil)))))
      (wss_cons (ws_if (pt_cmpR op_lt (pv 2) pe_int (nomark _))
      (wss_one (ws (ps_ret (pe_op op_add pe_int (pe_cal CT hr1 rfl (pa_cons (pv 0) (pa_cons (pe_ix ix_list (pe_lst (pa_cons pe_int (pa_cons pe_int pa_nil))) (pv 2) (fun _ _ => rfl)) pa_nil)))))))
      wss_nil)
      (wss_cons (ws_if (pt_cmpR op_eq (pv 2) pe_int (nomark _))
      (wss_cons (ws (ps_set (i := 3) scRows.nd rfl (Or.inl rfl) (pe_lst (pa_cons pe_int pa_nil))))
        (wss_cons (ws (ps_while PassesOwn.never (pt_cmpR op_lt (pe_op op_mul (pe_ix ix_list (pv 3) (pe_un un_neg pe_int) (fun _ _ => rfl)) (pv 1)) pe_int (nomark _))
        (WSs.out (wss_one (ws (ps_expr (pe_bm PySem.F.plainAttrs_list PySem.F.slot_list_append PySem.F.type_list_append mt_append (pv 3) (pa_cons (pe_op op_mul (pe_ix ix_list (pv 3) (pe_un un_neg pe_int) (fun _ _ => rfl)) (pv 1)) pa_nil))))))))
        (wss_one (ws (ps_ret (pe_callB (call_max2 rfl) rfl T.max b_max (pa_cons pe_int (pa_cons (pe_op op_sub (pe_op op_add (pe_ix ix_list (pv 3) (pe_cal CT hr1 rfl (pa_cons (pv 0) (pa_cons (pe_callB call_len_seq rfl T.len PySem.boot_len (pa_cons (pv 3) pa_nil)) pa_nil))) (fun _ _ => rfl)) (pe_cal CT hr1 rfl (pa_cons (pv 0) (pa_cons pe_int pa_nil)))) pe_int) pa_nil))))))))
      wss_nil)
      (wss_cons (ws (ps_comp (i := 4) scRows.nd rfl rfl (own := ["total"]) (js := []) (CompOk.by (sc := defScope sRows) (N := ["pot", "p", "way", "powers", "totals"]) rfl rfl (by decide +kernel)) rfl (pi_list (pe_comp (own := ["n"]) (js := [1]) (CompOk.by (sc := defScope sRows) (N := ["pot", "p", "way", "powers", "totals"]) rfl rfl (by decide +kernel)) rfl (pi_range1 rfl T.range (pa_cons pe_int pa_nil)) gkeep_name (fun _ _ _ _ _ => (pg_name (i := 0) (by show (["n", "p"] : List Str).Nodup; decide +kernel) rfl (Or.inl rfl) (.inr rfl))) (fun _ _ _ _ _ => pts_nil) (fun _ _ _ _ _ => (pe_callB (callK_sumI K rfl) rfl T.sum b_sum (pa_cons (pe_cal CL hr1 rfl (pa_cons (pv 1) (pa_cons (pv 0) pa_nil))) pa_nil))))) gkeep_name (fun _ _ _ _ _ => (pg_name (i := 0) (by show (["total"] : List Str).Nodup; decide +kernel) rfl (Or.inl rfl) (.inr rfl))) (fun _ _ _ _ _ => (pts_one (pt_cmpR op_lt (pv 0) pe_int (nomark _)))) (fun _ _ _ _ _ => (pv 0))))
      (wss_one (ws (ps_ret (pe_op op_add (pe_ix ix_list (pv 4) (pe_cal CT hr1 rfl (pa_cons (pv 0) (pa_cons (pe_callB call_len_seq rfl T.len PySem.boot_len (pa_cons (pv 4) pa_nil)) pa_nil))) (fun _ _ => rfl)) (pe_cal CT hr1 rfl (pa_cons (pv 0) (pa_cons pe_int pa_nil))))))))))), ?_⟩
    refine ⟨_, rfl, pl, 4, rfl, hP, by decide, by decide +kernel, fun wy H1 w0 w1 hP1 s1 => ?_⟩
    have npl : ∃ o, H pl = some o := by obtain ⟨_, _, e, _⟩ := hP; exact ⟨_, e⟩
    refine ⟨_, rfl, _, _, rfl, rfl, _, rfl, ite2 (fun hc => ?_) fun hc => ?_⟩
    · have hw : wy < 2 := of_decide_eq_true hc
      refine ⟨_, rfl, (by show 2 ≤ sizeLine; decide), fun q hq => ?_⟩
      obtain ⟨v, ev, v0, v1, v2⟩ : ∃ v : Int, atI [V.int 40, .int 200] wy = some (.int v) ∧ 0 < v ∧ v ≤ 200 ∧ Builtin.Int.intBits v ≤ 8000 := by
        rcases (show wy = 0 ∨ wy = 1 by omega) with rfl | rfl
        · exact ⟨40, rfl, by decide, by decide, by decide +kernel⟩
        · exact ⟨200, rfl, by decide, by decide, by decide +kernel⟩
      refine ⟨_, rfl, q, _, wy, .int v, rfl, rfl, SqL.of upd_same, ev, pl, v, rfl, hP1.put hq, v0, v2, fun d H2 d0 d1 hP2 s2 => ?_⟩
      exact ⟨_, _, rfl, rfl, k _ _ (by omega) (by omega) hP2 ((s1.trans (Sm.new hq)).trans s2)⟩
    · unfold tNext
      refine ⟨_, rfl, rfl, _, rfl, ite2 (fun hc2 => ?_) fun hc2 => ?_⟩
      · refine ⟨(by show 1 ≤ sizeLine; decide), fun lp nlp => ?_⟩
        have npw : pl ≠ lp := by obtain ⟨_, _, e, _⟩ := hP1; exact ne_of_none e nlp
        have hlp0 : H lp = none := smf s1 (hP1.ne nlp) nlp
        refine ⟨fun m σ H2 => ∃ (ws : List Int) (x : Int), σ = [some (.ref pl), some (.int p), some (.int wy), some (.ref lp), none] ∧ H2 lp = some (.lst ((ws ++ [x]).map V.int)) ∧ (∀ y ∈ ws ++ [x], 1 ≤ y ∧ y < 200) ∧ ((ws.length : Int) + 1 ≤ x) ∧ PotT H2 pl ∧ Sm pl H H2 ∧ m = (200 - x).toNat, ⟨_, [], 1, rfl, upd_same, by simp, by simp, hP1.put nlp, s1.trans (Sm.new nlp), rfl⟩, ?_⟩
        rintro m σ H2 ⟨ws, x, rfl, hlp, hb, hl, hP2, s2, rfl⟩
        have hx := hb x (by simp)
        have hat : atI ((ws ++ [x]).map V.int) (-1) = some (.int x) := by rw [List.map_append]; exact atI_last _ _
        refine ⟨_, rfl, _, rfl, lp, _, _, .int x, rfl, rfl, SqL.of hlp, hat, _, rfl, _, _, rfl, rfl, .inl ⟨by omega, by omega⟩, _, _, rfl, rfl, _, rfl, ite2 (fun hz => ?_) fun hz => ?_⟩
        · have hz' : x * (p : Int) < 200 := of_decide_eq_true hz
          have h2x : x * 2 ≤ x * (p : Int) := Int.mul_le_mul_of_nonneg_left (by omega) (by omega)
          refine ⟨fun σ' H' => ∃ m', m' < (200 - x).toNat ∧ ∃ (ws : List Int) (x : Int), σ' = [some (.ref pl), some (.int p), some (.int wy), some (.ref lp), none] ∧ H' lp = some (.lst ((ws ++ [x]).map V.int)) ∧ (∀ y ∈ ws ++ [x], 1 ≤ y ∧ y < 200) ∧ ((ws.length : Int) + 1 ≤ x) ∧ PotT H' pl ∧ Sm pl H H' ∧ m' = (200 - x).toNat, fun _ _ h => h, ?_⟩
          refine ⟨_, rfl, .inl ⟨rfl, _, SqL.of hlp⟩, _, rfl, _, rfl, lp, _, _, .int x, rfl, rfl, SqL.of hlp, hat, _, rfl, _, _, rfl, rfl, .inl ⟨by omega, by omega⟩, lp, _, _, rfl, rfl, hlp, small1000 (by simp; omega), ?_⟩
          refine ⟨_, ?_, ws ++ [x], x * (p : Int), rfl, ?_, fun y hy => ?_, ?_, ?_, fun b u e n => by rw [upd_ne (ne_of_none e hlp0)]; exact s2 b u e n, rfl⟩
          · omega
          · rw [upd_same, List.map_append (l₂ := [x * (p : Int)])]; first | done | rfl
          · rcases List.mem_append.mp hy with z | z
            · exact hb y z
            · rw [List.mem_singleton] at z
              omega
          · simp <;> omega
          · obtain ⟨u, v, e, z⟩ := hP2
            exact ⟨u, v, by rw [upd_ne npw]; exact e, z⟩
        · refine ⟨_, rfl, _, rfl, _, rfl, lp, _, rfl, .inl (SqL.of hlp), pl, _, rfl, hP2, ?_, ?_, fun d H3 d0 d1 hP3 s3 => ?_⟩
          · simp <;> omega
          · exact bits73 (by omega) (by simp; omega)
          have hlp3 : H3 lp = some (.lst ((ws ++ [x]).map V.int)) := s3 _ _ hlp (Ne.symm npw)
          obtain ⟨dn, rfl⟩ : ∃ dn : Nat, d = dn := ⟨d.toNat, by omega⟩
          have hdn : dn < (ws ++ [x]).length := by rw [List.length_map] at d1; omega
          have hy := hb _ (List.getElem_mem hdn)
          refine ⟨lp, _, _, .int (ws ++ [x])[dn], rfl, rfl, SqL.of hlp3, atI_nat (by rw [List.getElem?_map, List.getElem?_eq_getElem hdn]; rfl), ?_⟩
          generalize (ws ++ [x])[dn] = y at hy
          refine ⟨_, rfl, pl, 3, rfl, hP3, by decide, by decide +kernel, fun e H4 e0 e1 hP4 s4 => ?_⟩
          refine ⟨_, _, rfl, rfl, _, _, rfl, rfl, _, _, rfl, k _ _ ?_ ?_ hP4 ((s2.trans s3).trans s4)⟩
          · split <;> omega
          · split <;> omega
      · refine ⟨12, rfl, by decide, by decide, ?_⟩
        refine comp_range (fun acc i H2 => Same H1 H2 ∧ H2 acc = some (.lst (((List.range i).map (tot p)).map V.int))) (fun acc h0 => ⟨Same.new h0, upd_same⟩) ?_ ?_
        · rintro acc i H2 h0 hi ⟨s2, hacc⟩
          rw [Int.zero_add]
          refine ⟨_, rfl, _, rfl, p, i, rfl, h1, h2, by omega, fun l H3 hl0 hl s3 => ?_⟩
          refine ⟨l, _, rfl, SqL.of hl, _, s3 _ _ hacc, small1000 (by simp; omega), hi, (s2.trans s3).put h0, ?_⟩
          rw [upd_same, List.range_succ, List.map_append, List.map_append]
          rfl
        rintro la H2 hla0 ⟨s2, hla⟩
        refine ⟨la, rfl, ⟨_, SqL.of hla⟩, ?_⟩
        refine comp_list (xs := ((List.range 12).map (tot p)).map V.int) (fun acc i H3 => Same H2 H3 ∧ H3 acc = some (.lst ((((List.range i).map (tot p)).filter fun y => decide (y < 200)).map V.int))) (fun acc h0 => ⟨Same.new h0, upd_same⟩) (fun acc i H3 h0 _ z => SqL.of (z.1 _ _ hla)) ?_ ?_
        · rintro acc i x H3 h0 hx ⟨s3, hacc⟩
          have hi : i < 12 := by have := (List.getElem?_eq_some_iff.mp hx).1; simpa using this
          rw [List.getElem?_map, List.getElem?_map, List.getElem?_range hi] at hx
          cases hx
          have hl12 : i + 1 ≤ (((List.range 12).map (tot p)).map V.int).length := by simp; omega
          have eF : ((List.range (i + 1)).map (tot p)).filter (fun y => decide (y < 200)) = ((List.range i).map (tot p)).filter (fun y => decide (y < 200)) ++ [tot p i].filter (fun y => decide (y < 200)) := by
            rw [List.range_succ, List.map_append, List.filter_append]; rfl
          refine ⟨_, rfl, _, _, rfl, rfl, _, rfl, ite2 (fun hc => ?_) fun hc => ?_⟩
          · refine ⟨_, rfl, _, hacc, small1000 ?_, hl12, s3.put h0, ?_⟩
            · rw [List.length_map]
              exact Nat.le_trans (List.length_filter_le _ _) (by simp; omega)
            · rw [upd_same, eF, List.filter_cons, if_pos hc, List.map_append]; rfl
          · refine ⟨hl12, s3, ?_⟩
            rw [eF, List.filter_cons, if_neg hc, List.filter_nil, List.append_nil]
            exact hacc
        rintro lt H3 hlt0 ⟨s3, hlt⟩
        rw [List.length_map, List.length_map, List.length_range] at hlt
        have hall : ∀ y ∈ ((List.range 12).map (tot p)).filter (fun y => decide (y < 200)), 1 ≤ y ∧ y < 200 := fun y hy => by
          rw [List.mem_filter] at hy
          obtain ⟨n, _, rfl⟩ := List.mem_map.mp hy.1
          have := tot_ge h1 n
          exact ⟨by omega, of_decide_eq_true hy.2⟩
        have hpos : 0 < (((List.range 12).map (tot p)).filter (fun y => decide (y < 200))).length := by
          refine List.length_pos_of_mem (a := tot p 0) (List.mem_filter.mpr ⟨List.mem_map_of_mem (List.mem_range.mpr (by decide)), decide_eq_true ?_⟩)
          have := tot_le h1 h2 0
          omega
        have hle : (((List.range 12).map (tot p)).filter (fun y => decide (y < 200))).length ≤ 12 := Nat.le_trans (List.length_filter_le _ _) (by simp)
        generalize ((List.range 12).map (tot p)).filter (fun y => decide (y < 200)) = Z at hlt hall hpos hle
        have s13 := s2.trans s3
        have hP3 := hP1.same s13
        have nlt : lt ≠ pl := (hP1.same s2).ne hlt0
        refine ⟨_, rfl, _, rfl, _, rfl, lt, _, rfl, .inl (SqL.of hlt), pl, _, rfl, hP3, ?_, ?_, fun d H4 d0 d1 hP4 s4 => ?_⟩
        · rw [List.length_map]; omega
        · exact bits73 (by rw [List.length_map]; omega) (by rw [List.length_map]; omega)
        have hlt4 := s4 _ _ hlt nlt
        obtain ⟨dn, rfl⟩ : ∃ dn : Nat, d = dn := ⟨d.toNat, by omega⟩
        have hdn : dn < Z.length := by rw [List.length_map] at d1; omega
        have hy := hall _ (List.getElem_mem hdn)
        refine ⟨lt, _, _, .int Z[dn], rfl, rfl, SqL.of hlt4, atI_nat (by rw [List.getElem?_map, List.getElem?_eq_getElem hdn]; rfl), ?_⟩
        generalize Z[dn] = y at hy
        refine ⟨_, rfl, pl, 2, rfl, hP4, by decide, by decide +kernel, fun e H5 e0 e1 hP5 s5 => ?_⟩
        exact ⟨_, _, rfl, rfl, k _ _ (by omega) (by omega) hP5 (((s1.trans (fun b o h _ => s13 b o h)).trans s4).trans s5)⟩

end
end Fh73

set_option Elab.async false
set_option linter.all false
set_option maxRecDepth 100000
set_option maxHeartbeats 4000000
namespace Fh73
open PySem L2 Lv
section
variable {P : Program} {w : World} {K : PySem.W.Frag} {mg : Str → Option Value} {base : Heap}
theorem Four.last {p : Nat} {r : Int} {a b c : Int} {v : V} (F : Four p r a b c v) : v = .non ∨ ∃ x, v = .int x := by
  rcases F.2.2.2 with ⟨_, rfl⟩ | ⟨_, k, _, rfl⟩
  · exact .inl rfl
  · exact .inr ⟨_, rfl⟩
def dV : V → PyData
  | .int x => .int x
  | _ => .none
theorem rd4 {H : Hp} {l : Addr} {a b c : Int} {v : V} (h : H l = some (.tup [.int a, .int b, .int c, v])) (hv : v = .non ∨ ∃ x, v = .int x) : RdN H (.ref l) (.tuple [.int a, .int b, .int c, dV v]) := by
  refine .tup h (.cons (.int _) (.cons (.int _) (.cons (.int _) (.cons ?_ .nil))))
  rcases hv with rfl | ⟨x, rfl⟩
  · exact .non
  · exact .int x
theorem mx4 (a : Int) : 2 ≤ (if (if a < 4 then a else 4) > 2 then (if a < 4 then a else 4) else 2) ∧ (if (if a < 4 then a else 4) > 2 then (if a < 4 then a else 4) else 2) ≤ 4 := by
  constructor <;> (split <;> split <;> omega)
theorem Four.own {p r : Nat} {a b c : Int} {v v' : V} {t : Nat} {F1 F2 : List Int} (hp : 2 ≤ p) (F : Four p r a b c v) (ht : Wi p r t) (h1 : ∀ N q, 100 ≤ N → N ≤ 301 → Bst (SS false p) N r q → F1.getD r 0 = q.1) (h2 : ∀ N q, 100 ≤ N → N ≤ 301 → Bst (SS true p) N r q → F2.getD r 0 = q.1) (hv : BalV p r v') : a = lj p r t ∧ b = F1.getD r 0 ∧ c = F2.getD r 0 ∧ v = v' := by
  obtain ⟨⟨t', ht', rfl⟩, ⟨q, hq, rfl⟩, ⟨q', hq', rfl⟩, hv'⟩ := F
  exact ⟨by rw [ht.uniq (by omega) ht'], (h1 301 q (by decide) (by decide) hq).symm, (h2 101 q' (by decide) (by decide) hq').symm, hv'.uniq hv⟩
theorem Four.cut {p : Nat} {r a b c : Int} {v : V} (hp : 2 ≤ p) (F : Four p r a b c v) : ∃ ns : List Int, cutV [V.int a, .int b, .int c, v] none (some (4 - (if decide (V.int (p : Int) = V.int 2) = true then 1 else 0))) = ns.map V.int ∧ (ns.length = 3 ∨ ns.length = 4) := by
  rcases F.2.2.2 with ⟨h2, rfl⟩ | ⟨h3, k, _, rfl⟩
  · rw [if_pos (decide_eq_true (congrArg V.int (by omega)))]
    exact ⟨[a, b, c], rfl, .inl rfl⟩
  · rw [if_neg (fun z => by have := V.int.inj (of_decide_eq_true z); omega)]
    exact ⟨[a, b, c, _], rfl, .inr rfl⟩
theorem at_lst {F : List Int} {r : Nat} (h : r < F.length) : atI (F.map V.int) (r : Int) = some (.int (F.getD r 0)) := by
  refine atI_nat ?_
  rw [List.getElem?_map, List.getD_eq_getElem?_getD, List.getElem?_eq_getElem h]
  rfl
theorem scLaw : FnScope ["script", "k", "pot", "p", "rows", "phases", "cascade", "due", "found"] ["script"] (defScope sLaw) := ⟨rfl, rfl, rfl, by decide +kernel, rfl, by decide +kernel, by decide +kernel⟩
theorem ok_law {f f1 f2 f3 f4 f5 f6 f7 f8 : Addr} {fd d1 d2 d3 d4 d5 d6 d7 d8 : FuncData} (F : Fun K "law" "law" sLaw f fd) (T : Txt mg) (CQ : Cal P w K mg base 1 "_law_pot" ["script", "k"] (spPotT K) f1 d1) (CT : Cal P w K mg base 1 "_law_take" ["pot", "many"] spTakeT f2 d2) (CR : Cal P w K mg base 2 "_law_rows" ["pot", "p"] spRows73 f3 d3) (CB : Cal P w K mg base 2 "_law_bests" ["p", "most", "cascade"] spBst f4 d4) (CG : Cal P w K mg base 1 "_law_log_reading" ["p", "lengths"] spLogR f5 d5) (CS : Cal P w K mg base 1 "_law_passes" ["p", "rows", "whole"] spLPass f6 d6) (CH : Cal P w K mg base 5 "held_rows" ["p", "rows"] spHeld f7 d7) (CW : Cal P w K mg base 1 "_law_whole" ["thing"] spWhole f8 d8) : FnOk P w K mg base CX0 6 f fd ["script"] (spLaw K) := by
  refine okW F scLaw (fun vs H Q E h => ?_) (fun cdv A outer s H vs Q E hr h => ?_)
  · obtain ⟨a, ns, rfl, _⟩ := h
    rfl
  · obtain ⟨a, cs, rfl, hS, hlen, k⟩ := h
    have hr1 : Room 1 _ := hr.mono (by decide)
    have hr2 : Room 2 _ := hr.mono (by decide)
    have hu12 : (A.deeper (PyProof.Rows.envOfC "law" (defScope sLaw) s.heap.objs.size f cdv)).units + 12 < cLine := by have := hr.un; omega
    refine ⟨_, (wss_cons (ws (ps_for PassesOwn.never rfl (pi_range1 rfl T.range (pa_cons (pe_callB (call_max2 rfl) rfl T.max b_max (pa_cons pe_int (pa_cons (pe_callB (call_min2 rfl) rfl T.min b_min (pa_cons pe_int (pa_cons (pe_callB call_len_seq rfl T.len PySem.boot_len (pa_cons (pv 0) pa_nil)) pa_nil))) pa_nil))) pa_nil)) (pg_name (i := 1) scLaw.nd rfl (Or.inl rfl))
      (WSs.out (wss_cons (ws (ps_set (i := 2) scLaw.nd rfl (Or.inl rfl) (pe_cal CQ hr1 rfl (pa_cons (pv 0) (pa_cons (pv 1) pa_nil)))))
        (wss_cons (ws (ps_set (i := 3) scLaw.nd rfl (Or.inl rfl) (pe_op op_add pe_int (pe_cal CT hr1 rfl (pa_cons (pv 2) (pa_cons pe_int pa_nil))))))
        (wss_cons (ws (ps_set (i := 4) scLaw.nd rfl (Or.inl rfl) (pe_cal CR hr2 rfl (pa_cons (pv 2) (pa_cons (pv 3) pa_nil)))))
        (wss_cons (ws (ps_set (i := 5) scLaw.nd rfl (Or.inl rfl) (pe_ix ix_list (pe_cal CB hr2 rfl (pa_cons (pv 3) (pa_cons (pv 4) (pa_cons pe_bl pa_nil)))) (pv 4) (fun _ _ => rfl))))
        (wss_cons (ws (ps_set (i := 6) scLaw.nd rfl (Or.inl rfl) (pe_ix ix_list (pe_cal CB hr2 rfl (pa_cons (pv 3) (pa_cons (pv 4) (pa_cons pe_bl pa_nil)))) (pv 4) (fun _ _ => rfl))))
        (wss_cons (ws_set (i := 7) scLaw.nd rfl (Or.inl rfl) (we_tup (wa_cons rfl (pe_cal CG hr1 rfl (pa_cons (pv 3) (pa_cons (pe_op op_rep (pe_lst (pa_cons pe_int pa_nil)) (pv 4)) pa_nil))) (wa_cons rfl (pv 5) (wa_cons rfl (pv 6) (wa_cons rfl (pe_cal CS hr1 rfl (pa_cons (pv 3) (pa_cons (pv 4) (pa_cons (pv 4) pa_nil)))) wa_nil))))))
        (wss_cons (ws (ps_set (i := 8) scLaw.nd rfl (Or.inl rfl) (pe_cal CH hr rfl (pa_cons (pv 3) (pa_cons (pv 4) pa_nil)))))
        (wss_cons (ws_if (PW.pt (pw_or (pt_not (pt_val (pe_callB call_isinst rfl T.isinstance b_isinstance (pa_cons (pv 8) (pa_cons (pe_ty rfl T.tuple b_tuple) pa_nil))))) (pw_or (pt_cmpR (op_neR hu12) (pv 8) (pv 7) (nomark _)) (pw_or1 (pt_cmpR (op_neR hu12) (pe_cal CH hr rfl (pa_cons (pv 3) (pa_cons (pv 4) pa_nil))) (pv 7) (nomark _))))))
        (wss pss_never)
        wss_nil)
        (wss_one (ws_if (pt_not (pt_val (pe_callB (call_all rfl) rfl T.all b_all (pa_cons (pe_comp (own := ["number"]) (js := []) (CompOk.by (sc := defScope sLaw) (N := ["script", "k", "pot", "p", "rows", "phases", "cascade", "due", "found"]) rfl rfl (by decide +kernel)) rfl (pi_seqB (pe_slice sl_tupB (pv 8) po_none (po_some (pe_op op_sub pe_int (pe_callTy call_int1 rfl T.int b_int (pa_cons (pe_cmpR op_eq (pv 3) pe_int (nomark _)) pa_nil)))))) gkeep_name (fun _ _ _ _ _ => (pg_name (i := 0) (by show (["number"] : List Str).Nodup; decide +kernel) rfl (Or.inl rfl) (.inr rfl))) (fun _ _ _ _ _ => pts_nil) (fun _ _ _ _ _ => (pe_cal CW hr1 rfl (pa_cons (pv 0) pa_nil)))) pa_nil))))
        (wss pss_never)
        wss_nil)))))))))))))
      (wss_one (ws (ps_ret pe_bl)))), ?_⟩
    refine ⟨_, rfl, a, _, rfl, .inl hS, _, _, rfl, _, _, rfl, _, rfl, ?_, ?_, ?_⟩
    · exact Int.le_trans (by decide) (mx4 _).1
    · exact Int.le_trans (Int.add_le_add_right (mx4 _).2 1) (by decide)
    have em := (mx4 ((cs.map V.int).length : Int)).2
    generalize (if (if ((cs.map V.int).length : Int) < 4 then ((cs.map V.int).length : Int) else 4) > 2 then (if ((cs.map V.int).length : Int) < 4 then ((cs.map V.int).length : Int) else 4) else 2) = NN at em ⊢
    refine for_range (fun i σ H2 => ∃ o1 o2 o3 o4 o5 o6 o7 o8 : Option V, σ = [some (.ref a), o1, o2, o3, o4, o5, o6, o7, o8] ∧ Same H H2) ⟨_, _, _, _, _, _, _, _, rfl, Same.refl _⟩ ?_ ?_
    · rintro i σ H2 hi ⟨o1, o2, o3, o4, o5, o6, o7, o8, rfl, s2⟩
      refine ⟨_, rfl, _, rfl, a, cs, _, rfl, s2.seq hS, by omega, by omega, fun pl H3 hpl hp3 s3 => ?_⟩
      have hpl0 : H pl = none := s2.free hpl
      have s03 := s2.trans s3
      refine ⟨_, rfl, pl, 6, rfl, hp3, by decide, by decide, fun dp H4 e0 e1 hp4 sm4 => ⟨2, dp, rfl, rfl, ?_⟩⟩
      have s04 := Sm.after s03 sm4 hpl0
      obtain ⟨p, hp, p2, p7⟩ : ∃ p : Nat, 2 + dp = (p : Int) ∧ 2 ≤ p ∧ p ≤ 7 := ⟨(2 + dp).toNat, by omega, by omega, by omega⟩
      dsimp only
      rw [hp]
      refine ⟨_, rfl, _, rfl, pl, p, rfl, hp4, p2, p7, fun r0 H5 r1 r2 hp5 sm5 => ?_⟩
      have s05 := Sm.after s04 sm5 hpl0
      obtain ⟨r, er⟩ : ∃ r : Nat, r0 = (r : Int) := ⟨r0.toNat, by omega⟩
      subst er
      refine ⟨_, rfl, _, rfl, p, r, false, rfl, p2, p7, by omega, by omega, fun b1 F1 H6 hb1 hF1 hB1 s6 => ?_⟩
      refine ⟨_, rfl, b1, _, _, .int (F1.getD r 0), rfl, rfl, SqL.of hb1, at_lst (by omega), ?_⟩
      refine ⟨_, rfl, _, rfl, p, r, true, rfl, p2, p7, by omega, by omega, fun b2 F2 H7 hb2 hF2 hB2 s7 => ?_⟩
      refine ⟨_, rfl, b2, _, _, .int (F2.getD r 0), rfl, rfl, SqL.of hb2, at_lst (by omega), ?_⟩
      refine ⟨_, rfl, (by show 1 ≤ sizeLine; decide), fun q1 hq1 => ⟨_, rfl, q1, _, _, rfl, rfl, upd_same, by omega, by omega, Nat.le_of_lt (small1000 (by simp; omega)), fun q2 hq2 => ?_⟩⟩
      rw [rep_flat, Int.toNat_natCast]
      have s8 : Same H7 (upd (upd H7 q1 (.lst [.int 1])) q2 (.lst ((List.replicate r (1 : Int)).map V.int))) := (Same.new hq1).trans (Same.new hq2)
      have x8 : upd (upd H7 q1 (.lst [.int 1])) q2 (.lst ((List.replicate r (1 : Int)).map V.int)) q2 = some (.lst ((List.replicate r (1 : Int)).map V.int)) := upd_same
      generalize upd (upd H7 q1 (.lst [.int 1])) q2 (.lst ((List.replicate r (1 : Int)).map V.int)) = H8 at s8 x8 ⊢
      refine ⟨p, r, q2, rfl, p2, p7, by omega, by omega, x8, fun t H9 ht s9 => ?_⟩
      refine ⟨_, rfl, _, rfl, _, rfl, _, rfl, _, rfl, p, r, rfl, p2, p7, r1, by omega, fun v' hv' => ?_⟩
      refine ⟨(by show 4 ≤ sizeLine; decide), fun ld hld => ?_⟩
      have s10 := ((((s05.trans s6).trans s7).trans s8).trans s9).trans (Same.new (o := .tup [.int (lj p r t), .int (F1.getD r 0), .int (F2.getD r 0), v']) hld)
      have hld0 : upd H9 ld (.tup [.int (lj p r t), .int (F1.getD r 0), .int (F2.getD r 0), v']) ld = some (.tup [.int (lj p r t), .int (F1.getD r 0), .int (F2.getD r 0), v']) := upd_same
      generalize upd H9 ld (.tup [.int (lj p r t), .int (F1.getD r 0), .int (F2.getD r 0), v']) = H10 at s10 hld0 ⊢
      refine ⟨_, rfl, _, rfl, p, r, rfl, p2, p7, r1, by omega, fun l x y z v H11 F4 hl s11 => ?_⟩
      obtain ⟨ea, eb, ec, ev⟩ := F4.own p2 ht hB1 hB2 hv'
      have hld1 := s11 _ _ hld0
      refine ⟨_, rfl, .ref l, "tuple", _, true, rfl, .tup hl, kit_tuple_tuple, true, rfl, iteF ?_⟩
      refine ⟨_, rfl, _, rfl, l, ld, _, rfl, rfl, rd4 hl F4.last, (by rw [← ea, ← eb, ← ec, ← ev] at hld1; exact rd4 hld1 F4.last), ?_, _, rfl, iteF ?_⟩
      · rcases F4.last with rfl | ⟨u, rfl⟩ <;> exact Nat.le_of_ble_eq_true rfl
      refine ⟨_, rfl, _, rfl, p, r, rfl, p2, p7, r1, by omega, fun l' x' y' z' w' H12 G4 hl' s12 => ?_⟩
      obtain ⟨ga, gb, gc, gv⟩ := G4.own p2 ht hB1 hB2 hv'
      have hld2 := s12 _ _ hld1
      refine ⟨_, rfl, l', ld, _, rfl, rfl, rd4 hl' G4.last, (by rw [← ga, ← gb, ← gc, ← gv] at hld2; exact rd4 hld2 G4.last), ?_, _, rfl, iteF ?_⟩
      · rcases G4.last with rfl | ⟨u, rfl⟩ <;> exact Nat.le_of_ble_eq_true rfl
      have hl12 := s12 _ _ hl
      have s012 := (s10.trans s11).trans s12
      refine ⟨_, rfl, _, rfl, rfl, .inr ⟨_, rfl, _, _, rfl, rfl, _, rfl, l, _, rfl, hl12, fun k1 H13 s13 hk1 => ?_⟩⟩
      obtain ⟨ns, hns, hln⟩ := F4.cut p2
      rw [hns] at hk1
      refine ⟨k1, false, rfl, ⟨_, SqT.of hk1⟩, ?_⟩
      refine comp_mapB ((List.replicate ns.length true).map V.bl) (show SqB false K H13 k1 (ns.map V.int) from SqT.of hk1) (by simp) (by rw [List.length_map]; omega) (fun j x y hx hy H14 s14 R0 hR0 => ?_) fun acc H14 h0 s14 hacc => ?_
      · obtain ⟨n, hn, rfl⟩ := map_get hx
        rw [List.getElem?_map, List.getElem?_replicate, if_pos (List.getElem?_eq_some_iff.mp hn).1] at hy
        cases hy
        exact ⟨_, rfl, n, rfl, hR0 _ (Same.refl _)⟩
      refine ⟨acc, List.replicate ns.length true, rfl, SqL.of hacc, true, ?_, iteF ?_⟩
      · rcases hln with e | e <;> rw [e] <;> rfl
      exact ⟨_, _, _, _, _, _, _, _, rfl, (s012.trans s13).trans s14⟩
    · rintro σ H2 _
      exact k H2

end
end Fh73

set_option Elab.async false
set_option linter.all false
set_option maxRecDepth 100000
set_option maxHeartbeats 4000000
namespace Fh73
open PySem L2 Lv

theorem len1 {P : List Value → Prop} (us : List Value) (hl : us.length = 1) (h : ∀ a0 : Value, P [a0]) : P us := by
  match us, hl with
  | [a0], _ => exact h a0
theorem len2 {P : List Value → Prop} (us : List Value) (hl : us.length = 2) (h : ∀ a0 a1 : Value, P [a0, a1]) : P us := by
  match us, hl with
  | [a0, a1], _ => exact h a0 a1
theorem len3 {P : List Value → Prop} (us : List Value) (hl : us.length = 3) (h : ∀ a0 a1 a2 : Value, P [a0, a1, a2]) : P us := by
  match us, hl with
  | [a0, a1, a2], _ => exact h a0 a1 a2
theorem len4 {P : List Value → Prop} (us : List Value) (hl : us.length = 4) (h : ∀ a0 a1 a2 a3 : Value, P [a0, a1, a2, a3]) : P us := by
  match us, hl with
  | [a0, a1, a2, a3], _ => exact h a0 a1 a2 a3
theorem all_mk {l : PySem.W.OpenLaw} {w : World} {K : PySem.W.Frag} {h : Heap} {mg : Str → Option Value} {fa f0 f1 f2 f3 f4 f5 f6 f7 f8 f9 f10 f11 f12 f13 f14 f15 f16 f17 f18 f19 f20 f21 f22 f23 f24 f25 f26 : Addr} {tk0 tk1 tk2 tk3 : Tok} (X : K.In h) (G : h.Ns mainGlobals mg) (hfa : mg "law" = some (.ref fa))
    {od0 an0 od1 an1 od2 an2 od3 an3 od4 an4 od5 an5 od6 an6 od7 an7 od8 an8 od9 an9 od10 an10 od11 an11 od12 an12 od13 an13 od14 an14 od15 an15 od16 an16 od17 an17 od18 an18 od19 an19 od20 an20 od21 an21 od22 an22 od23 an23 od24 an24 od25 an25 od26 an26 : Option Addr} {sl0 sl1 sl2 sl3 sl4 sl5 sl6 sl7 sl8 sl9 sl10 sl11 sl12 sl13 sl14 sl15 sl16 sl17 sl18 sl19 sl20 sl21 sl22 sl23 sl24 sl25 sl26 : Array (Option Value)} {oc0 kV0 dc0 pm0 cd0 ct0 oc1 kV1 dc1 pm1 cd1 ct1 oc2 kV2 dc2 pm2 cd2 ct2 oc3 kV3 dc3 pm3 cd3 ct3 oc4 kV4 dc4 pm4 cd4 ct4 oc5 kV5 dc5 pm5 cd5 ct5 oc6 kV6 dc6 pm6 cd6 ct6 oc7 kV7 dc7 pm7 cd7 ct7 oc8 kV8 dc8 pm8 cd8 ct8 oc9 kV9 dc9 pm9 cd9 ct9 oc10 kV10 dc10 pm10 cd10 ct10 oc11 kV11 dc11 pm11 cd11 ct11 oc12 kV12 dc12 pm12 cd12 ct12 oc13 kV13 dc13 pm13 cd13 ct13 oc14 kV14 dc14 pm14 cd14 ct14 oc15 kV15 dc15 pm15 cd15 ct15 oc16 kV16 dc16 pm16 cd16 ct16 oc17 kV17 dc17 pm17 cd17 ct17 oc18 kV18 dc18 pm18 cd18 ct18 oc19 kV19 dc19 pm19 cd19 ct19 oc20 kV20 dc20 pm20 cd20 ct20 oc21 kV21 dc21 pm21 cd21 ct21 oc22 kV22 dc22 pm22 cd22 ct22 oc23 kV23 dc23 pm23 cd23 ct23 oc24 kV24 dc24 pm24 cd24 ct24 oc25 kV25 dc25 pm25 cd25 ct25 oc26 kV26 dc26 pm26 cd26 ct26 : Value}
    (a0 : PySem.W.nsIn K mainGlobals "is_whole" = some (some (.ref f0))) (l0 : K.lookup f0 = some ⟨oc0, od0, .func (PySem.W.fnOf "is_whole" "is_whole" (defArgs sWhole) (defBody sWhole) (defScope sWhole) .none kV0 dc0 pm0 an0 cd0 ct0), sl0⟩) (c0 : PySem.W.codeIn K cd0 "is_whole" = true) (k0 : PySem.W.keepIn K (.ref f0) = true)
    (a1 : PySem.W.nsIn K mainGlobals "check_ways" = some (some (.ref f1))) (l1 : K.lookup f1 = some ⟨oc1, od1, .func (PySem.W.fnOf "check_ways" "check_ways" (defArgs sWays) (defBody sWays) (defScope sWays) .none kV1 dc1 pm1 an1 cd1 ct1), sl1⟩) (c1 : PySem.W.codeIn K cd1 "check_ways" = true) (k1 : PySem.W.keepIn K (.ref f1) = true)
    (a2 : PySem.W.nsIn K mainGlobals "first_spreads" = some (some (.ref f2))) (l2 : K.lookup f2 = some ⟨oc2, od2, .func (PySem.W.fnOf "first_spreads" "first_spreads" (defArgs sFirstS) (defBody sFirstS) (defScope sFirstS) .none kV2 dc2 pm2 an2 cd2 ct2), sl2⟩) (c2 : PySem.W.codeIn K cd2 "first_spreads" = true) (k2 : PySem.W.keepIn K (.ref f2) = true)
    (a3 : PySem.W.nsIn K mainGlobals "both_spreads" = some (some (.ref f3))) (l3 : K.lookup f3 = some ⟨oc3, od3, .func (PySem.W.fnOf "both_spreads" "both_spreads" (defArgs sBothS) (defBody sBothS) (defScope sBothS) .none kV3 dc3 pm3 an3 cd3 ct3), sl3⟩) (c3 : PySem.W.codeIn K cd3 "both_spreads" = true) (k3 : PySem.W.keepIn K (.ref f3) = true)
    (a4 : PySem.W.nsIn K mainGlobals "next_spreads" = some (some (.ref f4))) (l4 : K.lookup f4 = some ⟨oc4, od4, .func (PySem.W.fnOf "next_spreads" "next_spreads" (defArgs sNextS) (defBody sNextS) (defScope sNextS) .none kV4 dc4 pm4 an4 cd4 ct4), sl4⟩) (c4 : PySem.W.codeIn K cd4 "next_spreads" = true) (k4 : PySem.W.keepIn K (.ref f4) = true)
    (a5 : PySem.W.nsIn K mainGlobals "spread_over" = some (some (.ref f5))) (l5 : K.lookup f5 = some ⟨oc5, od5, .func (PySem.W.fnOf "spread_over" "spread_over" (defArgs sOverS) (defBody sOverS) (defScope sOverS) .none kV5 dc5 pm5 an5 cd5 ct5), sl5⟩) (c5 : PySem.W.codeIn K cd5 "spread_over" = true) (k5 : PySem.W.keepIn K (.ref f5) = true)
    (a6 : PySem.W.nsIn K mainGlobals "least_of_spread" = some (some (.ref f6))) (l6 : K.lookup f6 = some ⟨oc6, od6, .func (PySem.W.fnOf "least_of_spread" "least_of_spread" (defArgs sLeastS) (defBody sLeastS) (defScope sLeastS) .none kV6 dc6 pm6 an6 cd6 ct6), sl6⟩) (c6 : PySem.W.codeIn K cd6 "least_of_spread" = true) (k6 : PySem.W.keepIn K (.ref f6) = true)
    (a7 : PySem.W.nsIn K mainGlobals "best_over" = some (some (.ref f7))) (l7 : K.lookup f7 = some ⟨oc7, od7, .func (PySem.W.fnOf "best_over" "best_over" (defArgs sBo) (defBody sBo) (defScope sBo) .none kV7 dc7 pm7 an7 cd7 ct7), sl7⟩) (c7 : PySem.W.codeIn K cd7 "best_over" = true) (k7 : PySem.W.keepIn K (.ref f7) = true)
    (a8 : PySem.W.nsIn K mainGlobals "best_reading" = some (some (.ref f8))) (l8 : K.lookup f8 = some ⟨oc8, od8, .func (PySem.W.fnOf "best_reading" "best_reading" (defArgs sBR) (defBody sBR) (defScope sBR) .none kV8 dc8 pm8 an8 cd8 ct8), sl8⟩) (c8 : PySem.W.codeIn K cd8 "best_reading" = true) (k8 : PySem.W.keepIn K (.ref f8) = true)
    (a9 : PySem.W.nsIn K mainGlobals "next_cascade_spreads" = some (some (.ref f9))) (l9 : K.lookup f9 = some ⟨oc9, od9, .func (PySem.W.fnOf "next_cascade_spreads" "next_cascade_spreads" (defArgs sNextKS) (defBody sNextKS) (defScope sNextKS) .none kV9 dc9 pm9 an9 cd9 ct9), sl9⟩) (c9 : PySem.W.codeIn K cd9 "next_cascade_spreads" = true) (k9 : PySem.W.keepIn K (.ref f9) = true)
    (a10 : PySem.W.nsIn K mainGlobals "best_cascade" = some (some (.ref f10))) (l10 : K.lookup f10 = some ⟨oc10, od10, .func (PySem.W.fnOf "best_cascade" "best_cascade" (defArgs sBK) (defBody sBK) (defScope sBK) .none kV10 dc10 pm10 an10 cd10 ct10), sl10⟩) (c10 : PySem.W.codeIn K cd10 "best_cascade" = true) (k10 : PySem.W.keepIn K (.ref f10) = true)
    (a11 : PySem.W.nsIn K mainGlobals "like_join" = some (some (.ref f11))) (l11 : K.lookup f11 = some ⟨oc11, od11, .func (PySem.W.fnOf "like_join" "like_join" (defArgs sLike) (defBody sLike) (defScope sLike) .none kV11 dc11 pm11 an11 cd11 ct11), sl11⟩) (c11 : PySem.W.codeIn K cd11 "like_join" = true) (k11 : PySem.W.keepIn K (.ref f11) = true)
    (a12 : PySem.W.nsIn K mainGlobals "balanced_passes" = some (some (.ref f12))) (l12 : K.lookup f12 = some ⟨oc12, od12, .func (PySem.W.fnOf "balanced_passes" "balanced_passes" (defArgs sBalP) (defBody sBalP) (defScope sBalP) .none kV12 dc12 pm12 an12 cd12 ct12), sl12⟩) (c12 : PySem.W.codeIn K cd12 "balanced_passes" = true) (k12 : PySem.W.keepIn K (.ref f12) = true)
    (a13 : PySem.W.nsIn K mainGlobals "balanced_reading" = some (some (.ref f13))) (l13 : K.lookup f13 = some ⟨oc13, od13, .func (PySem.W.fnOf "balanced_reading" "balanced_reading" (defArgs sBalR) (defBody sBalR) (defScope sBalR) .none kV13 dc13 pm13 an13 cd13 ct13), sl13⟩) (c13 : PySem.W.codeIn K cd13 "balanced_reading" = true) (k13 : PySem.W.keepIn K (.ref f13) = true)
    (a14 : PySem.W.nsIn K mainGlobals "held_rows" = some (some (.ref f14))) (l14 : K.lookup f14 = some ⟨oc14, od14, .func (PySem.W.fnOf "held_rows" "held_rows" (defArgs sHeld) (defBody sHeld) (defScope sHeld) .none kV14 dc14 pm14 an14 cd14 ct14), sl14⟩) (c14 : PySem.W.codeIn K cd14 "held_rows" = true) (k14 : PySem.W.keepIn K (.ref f14) = true)
    (a15 : PySem.W.nsIn K mainGlobals "_law_pot" = some (some (.ref f15))) (l15 : K.lookup f15 = some ⟨oc15, od15, .func (PySem.W.fnOf "_law_pot" "_law_pot" (defArgs sPotT) (defBody sPotT) (defScope sPotT) .none kV15 dc15 pm15 an15 cd15 ct15), sl15⟩) (c15 : PySem.W.codeIn K cd15 "_law_pot" = true) (k15 : PySem.W.keepIn K (.ref f15) = true)
    (a16 : PySem.W.nsIn K mainGlobals "_law_take" = some (some (.ref f16))) (l16 : K.lookup f16 = some ⟨oc16, od16, .func (PySem.W.fnOf "_law_take" "_law_take" (defArgs sTakeT) (defBody sTakeT) (defScope sTakeT) .none kV16 dc16 pm16 an16 cd16 ct16), sl16⟩) (c16 : PySem.W.codeIn K cd16 "_law_take" = true) (k16 : PySem.W.keepIn K (.ref f16) = true)
    (a17 : PySem.W.nsIn K mainGlobals "_law_counts" = some (some (.ref f17))) (l17 : K.lookup f17 = some ⟨oc17, od17, .func (PySem.W.fnOf "_law_counts" "_law_counts" (defArgs sLCnt) (defBody sLCnt) (defScope sLCnt) .none kV17 dc17 pm17 an17 cd17 ct17), sl17⟩) (c17 : PySem.W.codeIn K cd17 "_law_counts" = true) (k17 : PySem.W.keepIn K (.ref f17) = true)
    (a18 : PySem.W.nsIn K mainGlobals "_law_further" = some (some (.ref f18))) (l18 : K.lookup f18 = some ⟨oc18, od18, .func (PySem.W.fnOf "_law_further" "_law_further" (defArgs sFur) (defBody sFur) (defScope sFur) .none kV18 dc18 pm18 an18 cd18 ct18), sl18⟩) (c18 : PySem.W.codeIn K cd18 "_law_further" = true) (k18 : PySem.W.keepIn K (.ref f18) = true)
    (a19 : PySem.W.nsIn K mainGlobals "_law_numbers" = some (some (.ref f19))) (l19 : K.lookup f19 = some ⟨oc19, od19, .func (PySem.W.fnOf "_law_numbers" "_law_numbers" (defArgs sNms) (defBody sNms) (defScope sNms) .none kV19 dc19 pm19 an19 cd19 ct19), sl19⟩) (c19 : PySem.W.codeIn K cd19 "_law_numbers" = true) (k19 : PySem.W.keepIn K (.ref f19) = true)
    (a20 : PySem.W.nsIn K mainGlobals "_law_open" = some (some (.ref f20))) (l20 : K.lookup f20 = some ⟨oc20, od20, .func (PySem.W.fnOf "_law_open" "_law_open" (defArgs sOpn) (defBody sOpn) (defScope sOpn) .none kV20 dc20 pm20 an20 cd20 ct20), sl20⟩) (c20 : PySem.W.codeIn K cd20 "_law_open" = true) (k20 : PySem.W.keepIn K (.ref f20) = true)
    (a21 : PySem.W.nsIn K mainGlobals "_law_bests" = some (some (.ref f21))) (l21 : K.lookup f21 = some ⟨oc21, od21, .func (PySem.W.fnOf "_law_bests" "_law_bests" (defArgs sBst) (defBody sBst) (defScope sBst) .none kV21 dc21 pm21 an21 cd21 ct21), sl21⟩) (c21 : PySem.W.codeIn K cd21 "_law_bests" = true) (k21 : PySem.W.keepIn K (.ref f21) = true)
    (a22 : PySem.W.nsIn K mainGlobals "_law_log_reading" = some (some (.ref f22))) (l22 : K.lookup f22 = some ⟨oc22, od22, .func (PySem.W.fnOf "_law_log_reading" "_law_log_reading" (defArgs sLogR) (defBody sLogR) (defScope sLogR) .none kV22 dc22 pm22 an22 cd22 ct22), sl22⟩) (c22 : PySem.W.codeIn K cd22 "_law_log_reading" = true) (k22 : PySem.W.keepIn K (.ref f22) = true)
    (a23 : PySem.W.nsIn K mainGlobals "_law_passes" = some (some (.ref f23))) (l23 : K.lookup f23 = some ⟨oc23, od23, .func (PySem.W.fnOf "_law_passes" "_law_passes" (defArgs sLPass) (defBody sLPass) (defScope sLPass) .none kV23 dc23 pm23 an23 cd23 ct23), sl23⟩) (c23 : PySem.W.codeIn K cd23 "_law_passes" = true) (k23 : PySem.W.keepIn K (.ref f23) = true)
    (a24 : PySem.W.nsIn K mainGlobals "_law_whole" = some (some (.ref f24))) (l24 : K.lookup f24 = some ⟨oc24, od24, .func (PySem.W.fnOf "_law_whole" "_law_whole" (defArgs sLWhole) (defBody sLWhole) (defScope sLWhole) .none kV24 dc24 pm24 an24 cd24 ct24), sl24⟩) (c24 : PySem.W.codeIn K cd24 "_law_whole" = true) (k24 : PySem.W.keepIn K (.ref f24) = true)
    (a25 : PySem.W.nsIn K mainGlobals "_law_rows" = some (some (.ref f25))) (l25 : K.lookup f25 = some ⟨oc25, od25, .func (PySem.W.fnOf "_law_rows" "_law_rows" (defArgs sRows) (defBody sRows) (defScope sRows) .none kV25 dc25 pm25 an25 cd25 ct25), sl25⟩) (c25 : PySem.W.codeIn K cd25 "_law_rows" = true) (k25 : PySem.W.keepIn K (.ref f25) = true)
    (a26 : PySem.W.nsIn K mainGlobals "law" = some (some (.ref f26))) (l26 : K.lookup f26 = some ⟨oc26, od26, .func (PySem.W.fnOf "law" "law" (defArgs sLaw) (defBody sLaw) (defScope sLaw) .none kV26 dc26 pm26 an26 cd26 ct26), sl26⟩) (c26 : PySem.W.codeIn K cd26 "law" = true) (k26 : PySem.W.keepIn K (.ref f26) = true)
    (y0 : PySem.W.nsIn K mainGlobals "LEAST_WAYS" = some (some (.int 2 tk0)))
    (y1 : PySem.W.nsIn K mainGlobals "MOST_WAYS" = some (some (.int 7 tk1)))
    (y2 : PySem.W.nsIn K mainGlobals "LAST_LEVEL" = some (some (.int 300 tk2)))
    (y3 : PySem.W.nsIn K mainGlobals "LAST_CASCADE" = some (some (.int 100 tk3)))
    (z0 : PySem.W.nsIn K mainGlobals "isinstance" = some none) (z1 : PySem.W.nsIn K mainGlobals "int" = some none) (z2 : PySem.W.nsIn K mainGlobals "bool" = some none) (z3 : PySem.W.nsIn K mainGlobals "list" = some none) (z4 : PySem.W.nsIn K mainGlobals "tuple" = some none) (z5 : PySem.W.nsIn K mainGlobals "min" = some none) (z6 : PySem.W.nsIn K mainGlobals "max" = some none) (z7 : PySem.W.nsIn K mainGlobals "len" = some none) (z8 : PySem.W.nsIn K mainGlobals "range" = some none) (z9 : PySem.W.nsIn K mainGlobals "all" = some none) (z10 : PySem.W.nsIn K mainGlobals "sum" = some none) (z11 : PySem.W.nsIn K mainGlobals "sorted" = some none) (z12 : PySem.W.nsIn K mainGlobals "zip" = some none) (zdict : PySem.W.nsIn K mainGlobals "dict" = some none) (zenumerate : PySem.W.nsIn K mainGlobals "enumerate" = some none) (zany : PySem.W.nsIn K mainGlobals "any" = some none) :
    ∃ fd : FuncData, (∀ (s : Shared) (v : Value), BindsTo s fd ⟨[v], []⟩ [("script", v)]) ∧ ∀ base : Heap, K.In base → base.Ns mainGlobals mg → FnOk l.prog w K mg base CX0 6 fa fd ["script"] (spLaw K) := by
  have e := hfa.symm.trans (PySem.W.mg_of X G a26)
  cases e
  have T : Txt mg := ⟨PySem.W.mg_none_of X G z0, PySem.W.mg_none_of X G z1, PySem.W.mg_none_of X G z2, PySem.W.mg_none_of X G z3, PySem.W.mg_none_of X G z4, PySem.W.mg_none_of X G z5, PySem.W.mg_none_of X G z6, PySem.W.mg_none_of X G z7, PySem.W.mg_none_of X G z8, PySem.W.mg_none_of X G z9, PySem.W.mg_none_of X G z10, PySem.W.mg_none_of X G z11, PySem.W.mg_none_of X G z12⟩
  have F0 := fun_mk (st := sWhole) l0 c0 k0
  have b0 := F0.binds (ps := ["thing"]) fun _ _ _ _ _ _ us hl => @len1 (fun us => bindArgs _ ⟨us, []⟩ = pure (List.zip _ us)) us hl fun _ => rfl
  have F1 := fun_mk (st := sWays) l1 c1 k1
  have b1 := F1.binds (ps := ["p"]) fun _ _ _ _ _ _ us hl => @len1 (fun us => bindArgs _ ⟨us, []⟩ = pure (List.zip _ us)) us hl fun _ => rfl
  have F2 := fun_mk (st := sFirstS) l2 c2 k2
  have b2 := F2.binds (ps := ["p"]) fun _ _ _ _ _ _ us hl => @len1 (fun us => bindArgs _ ⟨us, []⟩ = pure (List.zip _ us)) us hl fun _ => rfl
  have F3 := fun_mk (st := sBothS) l3 c3 k3
  have b3 := F3.binds (ps := ["one", "other"]) fun _ _ _ _ _ _ us hl => @len2 (fun us => bindArgs _ ⟨us, []⟩ = pure (List.zip _ us)) us hl fun _ _ => rfl
  have F4 := fun_mk (st := sNextS) l4 c4 k4
  have b4 := F4.binds (ps := ["spreads"]) fun _ _ _ _ _ _ us hl => @len1 (fun us => bindArgs _ ⟨us, []⟩ = pure (List.zip _ us)) us hl fun _ => rfl
  have F5 := fun_mk (st := sOverS) l5 c5 k5
  have b5 := F5.binds (ps := ["spreads"]) fun _ _ _ _ _ _ us hl => @len1 (fun us => bindArgs _ ⟨us, []⟩ = pure (List.zip _ us)) us hl fun _ => rfl
  have F6 := fun_mk (st := sLeastS) l6 c6 k6
  have b6 := F6.binds (ps := ["spread", "rows"]) fun _ _ _ _ _ _ us hl => @len2 (fun us => bindArgs _ ⟨us, []⟩ = pure (List.zip _ us)) us hl fun _ _ => rfl
  have F7 := fun_mk (st := sBo) l7 c7 k7
  have b7 := F7.binds (ps := ["p", "rows", "last", "following"]) fun _ _ _ _ _ _ us hl => @len4 (fun us => bindArgs _ ⟨us, []⟩ = pure (List.zip _ us)) us hl fun _ _ _ _ => rfl
  have F8 := fun_mk (st := sBR) l8 c8 k8
  have b8 := F8.binds (ps := ["p", "rows"]) fun _ _ _ _ _ _ us hl => @len2 (fun us => bindArgs _ ⟨us, []⟩ = pure (List.zip _ us)) us hl fun _ _ => rfl
  have F9 := fun_mk (st := sNextKS) l9 c9 k9
  have b9 := F9.binds (ps := ["spreads"]) fun _ _ _ _ _ _ us hl => @len1 (fun us => bindArgs _ ⟨us, []⟩ = pure (List.zip _ us)) us hl fun _ => rfl
  have F10 := fun_mk (st := sBK) l10 c10 k10
  have b10 := F10.binds (ps := ["p", "rows"]) fun _ _ _ _ _ _ us hl => @len2 (fun us => bindArgs _ ⟨us, []⟩ = pure (List.zip _ us)) us hl fun _ _ => rfl
  have F11 := fun_mk (st := sLike) l11 c11 k11
  have b11 := F11.binds (ps := ["p", "rows"]) fun _ _ _ _ _ _ us hl => @len2 (fun us => bindArgs _ ⟨us, []⟩ = pure (List.zip _ us)) us hl fun _ _ => rfl
  have F12 := fun_mk (st := sBalP) l12 c12 k12
  have b12 := F12.binds (ps := ["p", "rows"]) fun _ _ _ _ _ _ us hl => @len2 (fun us => bindArgs _ ⟨us, []⟩ = pure (List.zip _ us)) us hl fun _ _ => rfl
  have F13 := fun_mk (st := sBalR) l13 c13 k13
  have b13 := F13.binds (ps := ["p", "rows", "things"]) fun _ _ _ _ _ _ us hl => @len3 (fun us => bindArgs _ ⟨us, []⟩ = pure (List.zip _ us)) us hl fun _ _ _ => rfl
  have F14 := fun_mk (st := sHeld) l14 c14 k14
  have b14 := F14.binds (ps := ["p", "rows"]) fun _ _ _ _ _ _ us hl => @len2 (fun us => bindArgs _ ⟨us, []⟩ = pure (List.zip _ us)) us hl fun _ _ => rfl
  have F15 := fun_mk (st := sPotT) l15 c15 k15
  have b15 := F15.binds (ps := ["script", "k"]) fun _ _ _ _ _ _ us hl => @len2 (fun us => bindArgs _ ⟨us, []⟩ = pure (List.zip _ us)) us hl fun _ _ => rfl
  have F16 := fun_mk (st := sTakeT) l16 c16 k16
  have b16 := F16.binds (ps := ["pot", "many"]) fun _ _ _ _ _ _ us hl => @len2 (fun us => bindArgs _ ⟨us, []⟩ = pure (List.zip _ us)) us hl fun _ _ => rfl
  have F17 := fun_mk (st := sLCnt) l17 c17 k17
  have b17 := F17.binds (ps := ["p", "n"]) fun _ _ _ _ _ _ us hl => @len2 (fun us => bindArgs _ ⟨us, []⟩ = pure (List.zip _ us)) us hl fun _ _ => rfl
  have F18 := fun_mk (st := sFur) l18 c18 k18
  have b18 := F18.binds (ps := ["reels", "cascade"]) fun _ _ _ _ _ _ us hl => @len2 (fun us => bindArgs _ ⟨us, []⟩ = pure (List.zip _ us)) us hl fun _ _ => rfl
  have F19 := fun_mk (st := sNms) l19 c19 k19
  have b19 := F19.binds (ps := ["reels", "most"]) fun _ _ _ _ _ _ us hl => @len2 (fun us => bindArgs _ ⟨us, []⟩ = pure (List.zip _ us)) us hl fun _ _ => rfl
  have F20 := fun_mk (st := sOpn) l20 c20 k20
  have b20 := F20.binds (ps := ["found", "least"]) fun _ _ _ _ _ _ us hl => @len2 (fun us => bindArgs _ ⟨us, []⟩ = pure (List.zip _ us)) us hl fun _ _ => rfl
  have F21 := fun_mk (st := sBst) l21 c21 k21
  have b21 := F21.binds (ps := ["p", "most", "cascade"]) fun _ _ _ _ _ _ us hl => @len3 (fun us => bindArgs _ ⟨us, []⟩ = pure (List.zip _ us)) us hl fun _ _ _ => rfl
  have F22 := fun_mk (st := sLogR) l22 c22 k22
  have b22 := F22.binds (ps := ["p", "lengths"]) fun _ _ _ _ _ _ us hl => @len2 (fun us => bindArgs _ ⟨us, []⟩ = pure (List.zip _ us)) us hl fun _ _ => rfl
  have F23 := fun_mk (st := sLPass) l23 c23 k23
  have b23 := F23.binds (ps := ["p", "rows", "whole"]) fun _ _ _ _ _ _ us hl => @len3 (fun us => bindArgs _ ⟨us, []⟩ = pure (List.zip _ us)) us hl fun _ _ _ => rfl
  have F24 := fun_mk (st := sLWhole) l24 c24 k24
  have b24 := F24.binds (ps := ["thing"]) fun _ _ _ _ _ _ us hl => @len1 (fun us => bindArgs _ ⟨us, []⟩ = pure (List.zip _ us)) us hl fun _ => rfl
  have F25 := fun_mk (st := sRows) l25 c25 k25
  have b25 := F25.binds (ps := ["pot", "p"]) fun _ _ _ _ _ _ us hl => @len2 (fun us => bindArgs _ ⟨us, []⟩ = pure (List.zip _ us)) us hl fun _ _ => rfl
  have F26 := fun_mk (st := sLaw) l26 c26 k26
  refine ⟨PySem.W.fnOf "law" "law" (defArgs sLaw) (defBody sLaw) (defScope sLaw) .none kV26 dc26 pm26 an26 cd26 ct26, fun s v => .of_eq rfl, fun base _ _ => ?_⟩
  have m := fun {x : Str} {v : Value} (a : PySem.W.nsIn K mainGlobals x = some (some v)) => PySem.W.mg_of X G a
  have mLEAST_WAYS := m y0
  have mMOST_WAYS := m y1
  have mLAST_LEVEL := m y2
  have mLAST_CASCADE := m y3
  have Cis_whole : Cal l.prog w K mg base 1 "is_whole" ["thing"] spWhole _ _ := ⟨ok_whole F0 T, m a0, k0, b0⟩
  have Ccheck_ways : Cal l.prog w K mg base 2 "check_ways" ["p"] spWays _ _ := ⟨ok_ways F1 T mLEAST_WAYS mMOST_WAYS Cis_whole, m a1, k1, b1⟩
  have Cfirst_spreads : Cal l.prog w K mg base 1 "first_spreads" ["p"] spFirstS _ _ := ⟨ok_firstS F2 T, m a2, k2, b2⟩
  have Cboth_spreads : Cal l.prog w K mg base 1 "both_spreads" ["one", "other"] spBothS _ _ := ⟨ok_bothS F3 T (PySem.W.mg_none_of X G zdict), m a3, k3, b3⟩
  have Cnext_spreads : Cal l.prog w K mg base 2 "next_spreads" ["spreads"] (spNextS nextN) _ _ := ⟨ok_nextS F4 T Cboth_spreads, m a4, k4, b4⟩
  have Cspread_over : Cal l.prog w K mg base 2 "spread_over" ["spreads"] spOverF _ _ := ⟨ok_overS F5 T Cboth_spreads, m a5, k5, b5⟩
  have Cleast_of_spread : Cal l.prog w K mg base 1 "least_of_spread" ["spread", "rows"] spLeastS _ _ := ⟨ok_leastS F6 T, m a6, k6, b6⟩
  have Cnext_cascade_spreads : Cal l.prog w K mg base 2 "next_cascade_spreads" ["spreads"] (spNextS nextKN) _ _ := ⟨ok_nextKS F9 T Cboth_spreads, m a9, k9, b9⟩
  have Cbest_over : Cal l.prog w K mg base 3 "best_over" ["p", "rows", "last", "following"] (spBo2 _ _) _ _ := ⟨FnOk.or0 (ok_bo (fun _ => rfl) (fun _ _ => rfl) (fun p n _ => bd_num p n) (fun p n h => num_len (by omega) n) (fun p n h => (fil_num h).lv.ne n) F7 T Cfirst_spreads Cnext_spreads Cspread_over Cleast_of_spread) (ok_bo (fun _ => rfl) (fun _ _ => rfl) (fun p n h => bd_cas (by omega) n) (fun p n h => casN_len (by omega) n) (fun p n h => (fil_cas h).lv.ne n) F7 T Cfirst_spreads Cnext_cascade_spreads Cspread_over Cleast_of_spread), m a7, k7, b7⟩
  have Cbest_reading : Cal l.prog w K mg base 4 "best_reading" ["p", "rows"] spBR _ _ := ⟨ok_br F8 mLAST_LEVEL Ccheck_ways Cnext_spreads Cbest_over, m a8, k8, b8⟩
  have Cbest_cascade : Cal l.prog w K mg base 4 "best_cascade" ["p", "rows"] spBK _ _ := ⟨ok_bk F10 mLAST_CASCADE Ccheck_ways Cnext_cascade_spreads Cbest_over, m a10, k10, b10⟩
  have Clike_join : Cal l.prog w K mg base 1 "like_join" ["p", "rows"] spLike _ _ := ⟨ok_like F11, m a11, k11, b11⟩
  have Cbalanced_passes : Cal l.prog w K mg base 1 "balanced_passes" ["p", "rows"] spBalP _ _ := ⟨ok_balp F12, m a12, k12, b12⟩
  have Cbalanced_reading : Cal l.prog w K mg base 2 "balanced_reading" ["p", "rows", "things"] spBalR _ _ := ⟨ok_balr F13 Cbalanced_passes, m a13, k13, b13⟩
  have Cheld_rows : Cal l.prog w K mg base 5 "held_rows" ["p", "rows"] spHeld _ _ := ⟨ok_held F14 Ccheck_ways Cbalanced_reading Clike_join Cbest_reading Cbest_cascade, m a14, k14, b14⟩
  have C_law_pot : Cal l.prog w K mg base 1 "_law_pot" ["script", "k"] (spPotT K) _ _ := ⟨ok_potT F15 T, m a15, k15, b15⟩
  have C_law_take : Cal l.prog w K mg base 1 "_law_take" ["pot", "many"] spTakeT _ _ := ⟨ok_takeT F16 T, m a16, k16, b16⟩
  have C_law_counts : Cal l.prog w K mg base 1 "_law_counts" ["p", "n"] spLCounts _ _ := ⟨ok_lcounts F17 T, m a17, k17, b17⟩
  have C_law_further : Cal l.prog w K mg base 1 "_law_further" ["reels", "cascade"] spFur _ _ := ⟨ok_fur F18 T (PySem.W.mg_none_of X G zenumerate), m a18, k18, b18⟩
  have C_law_numbers : Cal l.prog w K mg base 1 "_law_numbers" ["reels", "most"] spNms _ _ := ⟨ok_nms F19 T, m a19, k19, b19⟩
  have C_law_open : Cal l.prog w K mg base 1 "_law_open" ["found", "least"] spOpn _ _ := ⟨ok_opn F20 T (PySem.W.mg_none_of X G zany), m a20, k20, b20⟩
  have C_law_bests : Cal l.prog w K mg base 2 "_law_bests" ["p", "most", "cascade"] spBst _ _ := ⟨ok_bst F21 T (PySem.W.mg_none_of X G zenumerate) C_law_further C_law_numbers C_law_open, m a21, k21, b21⟩
  have C_law_log_reading : Cal l.prog w K mg base 1 "_law_log_reading" ["p", "lengths"] spLogR _ _ := ⟨ok_logR F22 T, m a22, k22, b22⟩
  have C_law_passes : Cal l.prog w K mg base 1 "_law_passes" ["p", "rows", "whole"] spLPass _ _ := ⟨ok_lpass F23, m a23, k23, b23⟩
  have C_law_whole : Cal l.prog w K mg base 1 "_law_whole" ["thing"] spWhole _ _ := ⟨ok_lwhole F24 T, m a24, k24, b24⟩
  have C_law_rows : Cal l.prog w K mg base 2 "_law_rows" ["pot", "p"] spRows73 _ _ := ⟨ok_rows73 F25 T C_law_take C_law_counts, m a25, k25, b25⟩
  exact ok_law F26 T C_law_pot C_law_take C_law_rows C_law_bests C_law_log_reading C_law_passes Cheld_rows C_law_whole
theorem walk {l : PySem.W.OpenLaw} {q : Program} {loose : List Str} {XP : (Str → Option Value) → Heap → Prop} {YP : World → Heap → Prop} {d : DefRec} {K : Params → PySem.W.Frag} (hn : l.most = some 63) (hdf : d.params.defaults = [])
    (hY : ∀ (w : World) (h : Heap), YP w h → (K w.params).In h)
    (F : ∀ (w : World) (mg : Str → Option Value) (fa : Addr) (h : Heap), (K w.params).In h → h.Ns mainGlobals mg → mg d.name = some (.ref fa) →
      ∃ fd : FuncData, (∀ (s : Shared) (u : Value), BindsTo s fd ⟨[u], []⟩ [("script", u)]) ∧ ∀ base : Heap, (K w.params).In base → base.Ns mainGlobals mg → FnOk l.prog w (K w.params) mg base CX0 6 fa fd ["script"] (spLaw (K w.params))) :
    PySem.W.WalkO q loose XP YP l.row.toRowW d [] (fun f vs => PySem.call f vs) :=
  L2.walk_of (n := 63) (k := 6) (x := "script") (CX := fun _ => CX0) (sp := fun w => spLaw (K w.params)) hn (by decide) hdf ⟨rfl, by decide, by decide, rfl⟩ hY F (fun _ _ a ns hl _ hS => ⟨a, ns, rfl, hS, hl, fun _ => rfl⟩) fun _ _ _ _ _ z => z
end Fh73
open PySem PySem.W PyProof.Rows
set_option maxRecDepth 100000 in
set_option maxHeartbeats 0 in
theorem PySem.Challenge.cw_fewreels_k73_held_rows_told_holds : PySem.Challenge.rw_fewreels_k73_held_rows_told.Holds := by
  w_on; o_law; k_head; (case hw => w_witness2)
  k_fill
  refine Fh73.walk (l := PySem.Challenge.rw_fewreels_k73_held_rows_told) rfl rfl (fun w h Y => PySem.W.kIn_of Y) ?F
  case F =>
    intro w mg fa h KX G hmg
    refine' Fh73.all_mk KX G hmg ?a0 ?l0 ?c0 ?k0 ?a1 ?l1 ?c1 ?k1 ?a2 ?l2 ?c2 ?k2 ?a3 ?l3 ?c3 ?k3 ?a4 ?l4 ?c4 ?k4 ?a5 ?l5 ?c5 ?k5 ?a6 ?l6 ?c6 ?k6 ?a7 ?l7 ?c7 ?k7 ?a8 ?l8 ?c8 ?k8 ?a9 ?l9 ?c9 ?k9 ?a10 ?l10 ?c10 ?k10 ?a11 ?l11 ?c11 ?k11 ?a12 ?l12 ?c12 ?k12 ?a13 ?l13 ?c13 ?k13 ?a14 ?l14 ?c14 ?k14 ?a15 ?l15 ?c15 ?k15 ?a16 ?l16 ?c16 ?k16 ?a17 ?l17 ?c17 ?k17 ?a18 ?l18 ?c18 ?k18 ?a19 ?l19 ?c19 ?k19 ?a20 ?l20 ?c20 ?k20 ?a21 ?l21 ?c21 ?k21 ?a22 ?l22 ?c22 ?k22 ?a23 ?l23 ?c23 ?k23 ?a24 ?l24 ?c24 ?k24 ?a25 ?l25 ?c25 ?k25 ?a26 ?l26 ?c26 ?k26 ?y0 ?y1 ?y2 ?y3 ?z0 ?z1 ?z2 ?z3 ?z4 ?z5 ?z6 ?z7 ?z8 ?z9 ?z10 ?z11 ?z12 ?zdict ?zenumerate ?zany
    (case a0 => k_is); (case l0 => k_is); (case c0 => k_is); (case k0 => k_is); (case a1 => k_is); (case l1 => k_is)
    (case c1 => k_is); (case k1 => k_is); (case a2 => k_is); (case l2 => k_is); (case c2 => k_is); (case k2 => k_is)
    (case a3 => k_is); (case l3 => k_is); (case c3 => k_is); (case k3 => k_is); (case a4 => k_is); (case l4 => k_is)
    (case c4 => k_is); (case k4 => k_is); (case a5 => k_is); (case l5 => k_is); (case c5 => k_is); (case k5 => k_is)
    (case a6 => k_is); (case l6 => k_is); (case c6 => k_is); (case k6 => k_is); (case a7 => k_is); (case l7 => k_is)
    (case c7 => k_is); (case k7 => k_is); (case a8 => k_is); (case l8 => k_is); (case c8 => k_is); (case k8 => k_is)
    (case a9 => k_is); (case l9 => k_is); (case c9 => k_is); (case k9 => k_is); (case a10 => k_is); (case l10 => k_is)
    (case c10 => k_is); (case k10 => k_is); (case a11 => k_is); (case l11 => k_is); (case c11 => k_is); (case k11 => k_is)
    (case a12 => k_is); (case l12 => k_is); (case c12 => k_is); (case k12 => k_is); (case a13 => k_is); (case l13 => k_is)
    (case c13 => k_is); (case k13 => k_is); (case a14 => k_is); (case l14 => k_is); (case c14 => k_is); (case k14 => k_is)
    (case a15 => k_is); (case l15 => k_is); (case c15 => k_is); (case k15 => k_is); (case a16 => k_is); (case l16 => k_is)
    (case c16 => k_is); (case k16 => k_is); (case a17 => k_is); (case l17 => k_is); (case c17 => k_is); (case k17 => k_is)
    (case a18 => k_is); (case l18 => k_is); (case c18 => k_is); (case k18 => k_is); (case a19 => k_is); (case l19 => k_is)
    (case c19 => k_is); (case k19 => k_is); (case a20 => k_is); (case l20 => k_is); (case c20 => k_is); (case k20 => k_is)
    (case a21 => k_is); (case l21 => k_is); (case c21 => k_is); (case k21 => k_is); (case a22 => k_is); (case l22 => k_is)
    (case c22 => k_is); (case k22 => k_is); (case a23 => k_is); (case l23 => k_is); (case c23 => k_is); (case k23 => k_is)
    (case a24 => k_is); (case l24 => k_is); (case c24 => k_is); (case k24 => k_is); (case a25 => k_is); (case l25 => k_is)
    (case c25 => k_is); (case k25 => k_is); (case a26 => k_is); (case l26 => k_is); (case c26 => k_is); (case k26 => k_is)
    (case y0 => k_is); (case y1 => k_is); (case y2 => k_is); (case y3 => k_is); (case z0 => k_is); (case z1 => k_is)
    (case z2 => k_is); (case z3 => k_is); (case z4 => k_is); (case z5 => k_is); (case z6 => k_is); (case z7 => k_is)
    (case z8 => k_is); (case z9 => k_is); (case z10 => k_is); (case z11 => k_is); (case z12 => k_is); (case zdict => k_is)
    (case zenumerate => k_is); (case zany => k_is)
