import PyProof.Rows.All
import Wide.All
import OpenK.AllK
import Wide.FinOn
import Lean
import PyProof.EqAt
import PyProof.EqKinds
import PyProof.TupleCall
import PyProof.NeKinds
import PyProof.Draws
import PyProof.SumWalkG
import PyProof.ListRange
import PyProof.ZipIter
import PyProof.Rows.SortRev
import KE.IntBitsLaws
import PyProof.ListMulRoad
import PyProof.TupleKey
import PyProof.Rows.SeqMore2
import KE.KRevIter
import PyProof.RulesTry
import PyProof.StationsW
import PyProof.RulesAs
import PyProof.NsDelKeeps
import PyProof.Rows.Own
import PyProof.Rows.Catch
import KE.KTryMore
import KE.KIsNot
import OpenK.KDescr
import PyProof.ExcAttrAll.ValueError
import PyProof.FString
import PyProof.InstStoreFacts
import OpenK.KMake
import KE.KItemsList
import KE.KPairComp
import PyProof.DictWalks
import PyProof.Rows.SortShellK
import KE.KSortTup
import KE.KDictSum
import PyProof.ReprRoads
import PyProof.ReprLen
import PyProof.CallStr
import PyProof.Rows.RuleIs
import PyProof.StrLawsRepr
import PyProof.Rows.TupAdd
import PyProof.Rows.StrJoin2
import PySem.Challenge.RW_fewreels_k18_standings_refused
set_option Elab.async false
set_option linter.all false
set_option maxRecDepth 100000
/-! THE HAND LAYER, for ints, bools, texts, own classes, LISTS and tuples (index, slices, in, append, pop ..), calls, loops. Paste it whole ahead of your own text; what your proof does not reach may be deleted. -/
namespace L2
open PySem PySem.Spec PyProof.Rows

/-- a key: an int or a str -/
abbrev Key := Sum Int Str
def keyIs : Key → Value → Bool
  | .inl k, v => Value.isInt k v
  | .inr x, v => Value.isStrOf x v
def keyH (w : World) : Key → Int
  | .inl k => hashInt k
  | .inr x => hashStr w x
theorem keyIs_shape : ∀ {k : Key} {v : Value}, keyIs k v = true → (∃ i t, k = Sum.inl i ∧ v = Value.int i t) ∨ (∃ x t, k = Sum.inr x ∧ v = Value.str x t)
  | .inl i, v, h => by
    obtain ⟨t, e⟩ := Value.isInt_shape (k := i) (v := v) h
    exact .inl ⟨i, t, rfl, e⟩
  | .inr x, v, h => by
    obtain ⟨t, e⟩ := Value.isStrOf_shape (x := x) (v := v) h
    exact .inr ⟨x, t, rfl, e⟩
theorem key_ll (a b : Int) : decide ((Sum.inl a : Key) = Sum.inl b) = (a == b) := by
  by_cases e : a = b
  · subst e; simp
  · have h : ¬ (Sum.inl a : Key) = Sum.inl b := fun q => e (Sum.inl.inj q)
    rw [decide_eq_false h]
    exact (beq_eq_false_iff_ne.mpr e).symm
theorem key_rr (a b : Str) : decide ((Sum.inr a : Key) = Sum.inr b) = decide (a = b) := by
  by_cases e : a = b
  · subst e; simp
  · have h : ¬ (Sum.inr a : Key) = Sum.inr b := fun q => e (Sum.inr.inj q)
    rw [decide_eq_false h, decide_eq_false e]
theorem key_lr (a : Int) (b : Str) : decide ((Sum.inl a : Key) = Sum.inr b) = false := decide_eq_false (fun q => nomatch q)
theorem key_rl (a : Str) (b : Int) : decide ((Sum.inr a : Key) = Sum.inl b) = false := decide_eq_false (fun q => nomatch q)

def mixKind (prog : Program) (w : World) : PySem.KeyKind prog w Key where
  is := keyIs
  hash := keyH w
  inj := fun v a b ha hb => by
    rcases keyIs_shape ha with ⟨i, t, rfl, rfl⟩ | ⟨x, t, rfl, rfl⟩
    · rcases keyIs_shape hb with ⟨j, u, rfl, e⟩ | ⟨y, u, rfl, e⟩
      · injection e with e1 _; rw [e1]
      · exact nomatch e
    · rcases keyIs_shape hb with ⟨j, u, rfl, e⟩ | ⟨y, u, rfl, e⟩
      · exact nomatch e
      · injection e with e1 _; rw [e1]
  byValue := fun k v h => by
    rcases keyIs_shape h with ⟨i, t, rfl, rfl⟩ | ⟨x, t, rfl, rfl⟩ <;> rfl
  pyHash := fun hv h => by
    rcases keyIs_shape hv with ⟨i, t, rfl, rfl⟩ | ⟨x, t, rfl, rfl⟩
    · exact wpAny_pyHash_int h
    · exact wpAny_pyHash_str h
  eqBool := fun hu hv h => by
    rcases keyIs_shape hu with ⟨i, t, rfl, rfl⟩ | ⟨x, t, rfl, rfl⟩
    · rcases keyIs_shape hv with ⟨j, u, rfl, rfl⟩ | ⟨y, u, rfl, rfl⟩
      · rw [key_ll] at h; exact wpAny_eqBool_int h
      · rw [key_lr] at h; exact SeqAt.EqAt.int_str i t y u _ _ _ _ h
    · rcases keyIs_shape hv with ⟨j, u, rfl, rfl⟩ | ⟨y, u, rfl, rfl⟩
      · rw [key_rl] at h; exact SeqAt.EqAt.str_int x t j u _ _ _ _ h
      · rw [key_rr] at h; exact wpAny_eqBool_str h
  «strs» := fun k x t v h => by
    rcases keyIs_shape h with ⟨i, u, rfl, e⟩ | ⟨y, u, rfl, e⟩
    · exact nomatch e
    · injection e with e1 _
      subst e1
      cases v <;> rfl

end L2

namespace L2
open PySem PySem.Spec PyProof.Rows

/-- a value, without the heap -/
inductive V where
  | non | bl (b : Bool) | int (i : Int) | str (x : Str) | byt (b : Array UInt8) | flt (b : UInt64) | ref (a : Addr) | ty (n : String)
  deriving DecidableEq

def RelV : V → Value → Prop
  | .non, u => u = Value.none
  | .bl b, u => u = Value.bool b
  | .int i, u => ∃ t, u = Value.int i t
  | .str x, u => ∃ t, u = Value.str x t
  | .byt b, u => ∃ t, u = Value.bytes b t
  | .flt b, u => ∃ t, u = Value.float b t
  | .ref a, u => u = Value.ref a
  | .ty n, u => u = Value.type n

abbrev Vals : List V → List Value → Prop := Paired RelV
theorem Vals.length {xs : List V} {us : List Value} (r : Vals xs us) : xs.length = us.length := Paired.length r
theorem Vals.get : ∀ {xs : List V} {us : List Value} {i : Nat} {x : V}, Vals xs us → xs[i]? = some x → ∃ u, us[i]? = some u ∧ RelV x u
  | _, _, _, _, .nil, e => by simp at e
  | _, _, 0, _, .cons r _, e => by simp at e; subst e; exact ⟨_, rfl, r⟩
  | _, _, i + 1, x, .cons _ t, e => by
    obtain ⟨u, h1, h2⟩ := Vals.get (i := i) (x := x) t (by simpa using e)
    exact ⟨u, by simpa using h1, h2⟩
theorem Vals.set {x : V} {u : Value} (r : RelV x u) : ∀ {xs : List V} {us : List Value} (i : Nat), Vals xs us → Vals (xs.set i x) (us.set i u)
  | _, _, _, .nil => .nil
  | _, _, 0, .cons _ t => .cons r t
  | _, _, i + 1, .cons q t => .cons q (Vals.set r i t)
theorem Vals.append : ∀ {xs ys : List V} {us ws : List Value}, Vals xs us → Vals ys ws → Vals (xs ++ ys) (us ++ ws)
  | _, _, _, _, .nil, s => s
  | _, _, _, _, .cons r t, s => .cons r (Vals.append t s)
theorem Vals.take : ∀ {xs : List V} {us : List Value} (n : Nat), Vals xs us → Vals (xs.take n) (us.take n)
  | _, _, 0, _ => .nil
  | _, _, _ + 1, .nil => .nil
  | _, _, n + 1, .cons r t => .cons r (Vals.take n t)
theorem Vals.drop : ∀ {xs : List V} {us : List Value} (n : Nat), Vals xs us → Vals (xs.drop n) (us.drop n)
  | _, _, 0, r => r
  | _, _, _ + 1, .nil => .nil
  | _, _, n + 1, .cons _ t => Vals.drop n t
theorem Vals.none_of : ∀ {xs : List V} {us : List Value} {i : Nat}, Vals xs us → xs[i]? = none → us[i]? = none := fun {xs us i} r e => by
  have h1 := r.length
  have h2 : xs.length ≤ i := List.getElem?_eq_none_iff.mp e
  exact List.getElem?_eq_none_iff.mpr (by omega)

def RelO : Option V → Option Value → Prop
  | some v, some u => RelV v u
  | none, none => True
  | _, _ => False
def KV {κ : Type} : List (κ × V) → List (κ × Value) → Prop := Paired fun (p : κ × V) (q : κ × Value) => p.1 = q.1 ∧ RelV p.2 q.2

/-- a key of a dict (00_mix): an int or a text -/
def kV : Key → V
  | .inl i => .int i
  | .inr x => .str x

/-- what stands at a tracked address -/
inductive HO where
  /-- a list -/
  | lst (xs : List V)
  /-- a tuple (never changes) -/
  | tup (xs : List V)
  /-- a dict whose keys are ints and texts; one whose keys are tuples of ints and texts (the empty one is both) -/
  | dK (kvs : List (Key × V)) | dT (kvs : List (List Key × V))
  /-- a set of ints: its members, its size -/
  | set (S : Int → Bool) (n : Nat)
  /-- an instance of the class at C, its dict at dx, its attributes -/
  | ins (C dx : Addr) (fs : List (Str × V))
  /-- the dict of the instance at x -/
  | own (x : Addr)
  /-- the dict of an exception -/
  | xd (fs : List (Str × V))
  /-- a bound method, f of x -/
  | met (f x : Addr)
  /-- a range object lo, lo + 1, .. below hi -/
  | rng (lo hi : Int)
  /-- a thing that is known to the object (the script; a dict while a loop walks it): read, never written while it is so -/
  | frz (o : Obj) (u : HO)
  /-- a code object's table -/
  | tbl (ps : Array Value)
  /-- any other thing, by what is true of its one object (a def of one's own: SetO a S n := HO.ext fun h => ..) -/
  | ext (φ : Heap → Prop)

abbrev Hp := Addr → Option HO
def upd (H : Hp) (a : Addr) (o : HO) : Hp := fun b => if b = a then some o else H b
theorem upd_same {H : Hp} {a : Addr} {o : HO} : upd H a o a = some o := by unfold upd; rw [if_pos rfl]
theorem upd_ne {H : Hp} {a b : Addr} {o : HO} (h : b ≠ a) : upd H a o b = H b := by unfold upd; rw [if_neg h]
theorem ne_of_none {H : Hp} {a b : Addr} {o : HO} (h : H a = some o) (h' : H b = none) : a ≠ b := by
  intro e; subst e; rw [h] at h'; cases h'

/-- a tuple without a dict of its own -/
def IsTupD (h : Heap) (a : Addr) (items : Array Value) : Prop := ∃ o, h.get? a = some o ∧ o.cls = .type "tuple" ∧ o.dict = none ∧ ∃ n, o.data = .seq items n
theorem IsTupD.tup {h : Heap} {a : Addr} {items : Array Value} (x : IsTupD h a items) : IsTup h a items := let ⟨o, e, c, _, d⟩ := x; ⟨o, e, c, d⟩
theorem IsTupD.new (h : Heap) (items : Array Value) : IsTupD (h.push { cls := .type "tuple", data := .seq items }) h.objs.size items := ⟨_, Heap.get?_push_size _ rfl, rfl, rfl, _, rfl⟩
section
variable (P : Program) (w : World)
def ObjOk (H : Hp) (h : Heap) (a : Addr) : HO → Prop
  | .lst xs => xs.length ≤ sizeLine ∧ ∃ (its : List Value) (n : Nat), Vals xs its ∧ h.get? a = some { cls := .type "list", data := .seq its.toArray n }
  | .tup xs => xs.length ≤ sizeLine ∧ ∃ its : List Value, Vals xs its ∧ IsTupD h a its.toArray
  | .dK kvs => kvs.length ≤ sizeLine ∧ (a == sysModules) = false ∧ ∃ vs, KV kvs vs ∧ h.DictOf (mixKind P w) a vs
  | .dT kvs => kvs.length ≤ sizeLine ∧ (a == sysModules) = false ∧ ∃ xs : List (List Key × Addr × Value),
      Paired (fun (p : List Key × V) (q : List Key × Addr × Value) => p.1 = q.1 ∧ H q.2.1 = some (.tup (p.1.map kV)) ∧ RelV p.2 q.2.2) kvs xs ∧
      ∃ o es ep, h.get? a = some o ∧ o.ExactDict ∧ o.data = .dict es ep ∧ es.toList = xs.map (entryOfKey (tupleKind (mixKind P w))) ∧ (xs.map (·.1)).Nodup
  | .set S n => h.SetOf (intKind P w) a S n
  | .ins C dx fs => H dx = some (.own a) ∧ fs.length ≤ 1000 ∧ dx ≠ a ∧ h.get? a = some (PySem.W.instObj C dx) ∧
      ∃ mA, h.Ns1 dx mA ∧ (∀ f, RelO (fs.lookup f) (mA f)) ∧ PySem.Within mA (fs.map (·.1))
  | .own _ => ∃ o, h.get? a = some o
  | .xd fs => ∃ mA, h.Ns1 a mA ∧ ∀ f, RelO (fs.lookup f) (mA f)
  | .rng lo hi => ∃ t u v, h.get? a = some { cls := .type "range", data := .fields #[.int lo t, .int hi u, .int 1 v] }
  | .frz o u => h.get? a = some o ∧ ObjOk H h a u
  | .tbl ps => h.get? a = some { cls := .none, data := .fields ps }
  | .met f x => h.get? a = some (PySem.W.methodObj (.ref f) (.ref x))
  | .ext φ => φ h ∧ (∃ o, h.get? a = some o) ∧ ∀ h1 h2 : Heap, φ h1 → (∀ o, h1.get? a = some o → h2.get? a = some o) → φ h2
/-- the abstract heap is held -/
def HOk (H : Hp) (h : Heap) : Prop := ∀ a o, H a = some o → ObjOk P w H h a o
end

section
variable {P : Program} {w : World} {H H' : Hp} {h h' : Heap} {a : Addr} {o : HO}
theorem ObjOk.lt (x : ObjOk P w H h a o) : a < h.objs.size := by
  cases o with
  | lst xs => obtain ⟨_, _, _, _, e⟩ := x; exact Heap.lt_size e
  | tup xs => obtain ⟨_, _, _, p⟩ := x; exact p.tup.lt
  | dK kvs => obtain ⟨_, _, _, _, o, _, _, e, _⟩ := x; exact Heap.lt_size e
  | dT kvs => obtain ⟨_, _, _, _, o, _, _, e, _⟩ := x; exact Heap.lt_size e
  | set S n => obtain ⟨o, _, _, _, e, _⟩ := x; exact Heap.lt_size e
  | ins C dx fs => obtain ⟨_, _, _, e, _⟩ := x; exact Heap.lt_size e
  | own y => obtain ⟨_, e⟩ := x; exact Heap.lt_size e
  | xd fs => obtain ⟨_, ⟨_, _, _, e, _⟩, _⟩ := x; exact Heap.lt_size e
  | rng lo hi => obtain ⟨_, _, _, e⟩ := x; exact Heap.lt_size e
  | frz ob u => obtain ⟨e, _⟩ := x; exact Heap.lt_size e
  | tbl ps => exact Heap.lt_size (show h.get? a = some _ from x)
  | met f y => exact Heap.lt_size (show h.get? a = some _ from x)
  | ext φ => obtain ⟨_, ⟨_, e⟩, _⟩ := x; exact Heap.lt_size e
theorem Paired.mapP {α β : Type} {F G : α → β → Prop} : ∀ {l₁ : List α} {l₂ : List β}, Paired F l₁ l₂ → (∀ a b, F a b → G a b) → Paired G l₁ l₂
  | _, _, .nil, _ => .nil
  | _, _, .cons r t, f => .cons (f _ _ r) (Paired.mapP t f)
/-- what an object's description leans on: its own object, its own dict, the tuples -/
theorem ObjOk.stay (x : ObjOk P w H h a o) (k : ∀ b u, (b = a ∨ H b = some (.own a)) → h.get? b = some u → h'.get? b = some u)
    (ho : ∀ b, H b = some (.own a) → H' b = some (.own a)) (ht : ∀ b xs, H b = some (.tup xs) → H' b = some (.tup xs)) : ObjOk P w H' h' a o := by
  induction o with
  | lst xs => obtain ⟨z, its, n, r, e⟩ := x; exact ⟨z, its, n, r, k _ _ (.inl rfl) e⟩
  | tup xs => obtain ⟨z, its, r, ob, e, c⟩ := x; exact ⟨z, its, r, ob, k _ _ (.inl rfl) e, c⟩
  | dK kvs => obtain ⟨z, y, vs, r, ob, es, ep, e, c⟩ := x; exact ⟨z, y, vs, r, ob, es, ep, k _ _ (.inl rfl) e, c⟩
  | dT kvs =>
    obtain ⟨z, y, xs, r, ob, es, ep, e, c⟩ := x
    exact ⟨z, y, xs, Paired.mapP r fun p q z => ⟨z.1, ht _ _ z.2.1, z.2.2⟩, ob, es, ep, k _ _ (.inl rfl) e, c⟩
  | set S n => obtain ⟨ob, es, ep, t, e, c⟩ := x; exact ⟨ob, es, ep, t, k _ _ (.inl rfl) e, c⟩
  | ins C dx fs =>
    obtain ⟨d, z, ne, e, mA, ⟨od, es, ep, e2, c⟩, r⟩ := x
    exact ⟨ho _ d, z, ne, k _ _ (.inl rfl) e, mA, ⟨od, es, ep, k _ _ (.inr d) e2, c⟩, r⟩
  | own y => obtain ⟨ob, e⟩ := x; exact ⟨ob, k _ _ (.inl rfl) e⟩
  | xd fs => obtain ⟨mA, ⟨od, es, ep, e, c⟩, r⟩ := x; exact ⟨mA, ⟨od, es, ep, k _ _ (.inl rfl) e, c⟩, r⟩
  | rng lo hi => obtain ⟨t, u, v, e⟩ := x; exact ⟨t, u, v, k _ _ (.inl rfl) e⟩
  | frz ob u ih => obtain ⟨e, q⟩ := x; exact ⟨k _ _ (.inl rfl) e, ih q⟩
  | tbl ps =>
    have e : h.get? a = some { cls := .none, data := .fields ps } := x
    show h'.get? a = some { cls := .none, data := .fields ps }
    exact k a _ (.inl rfl) e
  | met f y =>
    have e : h.get? a = some (PySem.W.methodObj (.ref f) (.ref y)) := x
    show h'.get? a = some (PySem.W.methodObj (.ref f) (.ref y))
    exact k a _ (.inl rfl) e
  | ext φ => obtain ⟨p, ⟨o, e⟩, st⟩ := x; exact ⟨st _ _ p fun o q => k _ _ (.inl rfl) q, ⟨o, k _ _ (.inl rfl) e⟩, st⟩
theorem HOk.lt (x : HOk P w H h) (e : H a = some o) : a < h.objs.size := (x a o e).lt
theorem HOk.fresh (x : HOk P w H h) (e : h.objs.size ≤ a) : H a = none := by
  cases q : H a with
  | none => rfl
  | some u => exact absurd (Nat.lt_of_lt_of_le (x.lt q) e) (Nat.lt_irrefl _)
/-- every object of the heap is kept -/
theorem HOk.kept (x : HOk P w H h) (k : ∀ b u, h.get? b = some u → h'.get? b = some u) : HOk P w H h' := fun a o e =>
  (x a o e).stay (fun b u _ q => k b u q) (fun _ q => q) fun _ _ q => q
/-- a new object is laid and tracked -/
theorem HOk.laid (x : HOk P w H h) (k : ∀ b u, h.get? b = some u → h'.get? b = some u) (hp : h.objs.size ≤ a) (new : ObjOk P w (upd H a o) h' a o) : HOk P w (upd H a o) h' := fun b u e => by
  have hn := x.fresh hp
  by_cases hb : b = a
  · subst hb; rw [upd_same] at e; cases e; exact new
  · rw [upd_ne hb] at e
    exact (x b u e).stay (fun c v _ q => k c v q) (fun c q => by rw [upd_ne (ne_of_none q hn)]; exact q) fun c xs q => by rw [upd_ne (ne_of_none q hn)]; exact q
end

/-- what may be read as u: it is u, or a known u -/
def Rd (H : Hp) (a : Addr) (u : HO) : Prop := H a = some u ∨ ∃ o, H a = some (.frz o u)
theorem Rd.ok {P : Program} {w : World} {H : Hp} {h : Heap} {a : Addr} {u : HO} (r : Rd H a u) (x : HOk P w H h) : ObjOk P w H h a u := by
  rcases r with r | ⟨o, r⟩
  · exact x a u r
  · obtain ⟨_, q⟩ := x a _ r
    exact q
/-- what may be written -/
def Mut : Option HO → Prop
  | some (.lst _) => True
  | some (.dK _) => True
  | some (.dT _) => True
  | some (.set _ _) => True
  | some (.ins _ _ _) => True
  | some (.ext _) => True
  | _ => False
section
variable {P : Program} {w : World} {H : Hp} {h h' : Heap} {x e : Addr} {o' : HO}
/-- the object at e is changed: x itself, or the dict of the instance x -/
theorem HOk.write (ok : HOk P w H h) (mu : Mut (H x)) (he : e = x ∨ H e = some (.own x)) (k : ∀ b u, b ≠ e → h.get? b = some u → h'.get? b = some u) (heo : ∃ u, h'.get? e = some u)
    (new : ObjOk P w (upd H x o') h' x o') : HOk P w (upd H x o') h' := fun b u q => by
  have nown : ∀ c y, H c = some (.own y) → c ≠ x := fun c y r z => by subst z; rw [r] at mu; exact mu
  have ntup : ∀ c xs, H c = some (.tup xs) → c ≠ x := fun c xs r z => by subst z; rw [r] at mu; exact mu
  by_cases hb : b = x
  · subst hb; rw [upd_same] at q; cases q; exact new
  · rw [upd_ne hb] at q
    by_cases hbe : b = e
    · have q' : H b = some (.own x) := by
        rcases he with z | z
        · exact absurd (hbe.trans z) hb
        · rw [hbe]; exact z
      rw [q] at q'; cases q'
      obtain ⟨v, hv⟩ := heo
      exact ⟨v, by rw [hbe]; exact hv⟩
    · refine (ok b u q).stay (fun c v hc r => k c v ?_ r) (fun c r => by rw [upd_ne (nown c b r)]; exact r) fun c xs r => by rw [upd_ne (ntup c xs r)]; exact r
      rcases hc with rfl | hc
      · exact hbe
      · rintro rfl
        rcases he with z | z
        · exact nown c b hc z
        · rw [hc] at z; cases z; exact hb rfl
end

/-! ### kept unless tracked; of the frames at fs (the callers') the slots may change (an exception that passes writes there); of the records at ex (iterators) nothing is said -/
structure Un (fs ex : List Addr) (H H' : Hp) (h h' : Heap) : Prop where
  keep : ∀ b o, h.get? b = some o → H b = none → b ∉ fs → b ∉ ex → h'.get? b = some o
  slot : ∀ b o, h.get? b = some o → H b = none → b ∈ fs → b ∉ ex → ∃ sl, h'.get? b = some { o with slots := sl }
  free : ∀ b o, h.get? b = some o → H b = none → b ∉ ex → H' b = none
  there : ∀ b o, h.get? b = some o → b ∉ ex → ∃ o', h'.get? b = some o'
  tups : ∀ b xs, H b = some (.tup xs) → H' b = some (.tup xs)
  frzs : ∀ b o u, H b = some (.frz o u) → H' b = some (.frz o u)
  tbls : ∀ b ps, H b = some (.tbl ps) → ∃ more, H' b = some (.tbl (ps ++ more))
section
variable {fs fs' ex ex' : List Addr} {H H1 H2 : Hp} {h h1 h2 h' : Heap} {a x e : Addr} {o : HO}
theorem Un.any (u : Un fs ex H H1 h h1) {b : Addr} {ob : Obj} (q : h.get? b = some ob) (n : H b = none) (hx : b ∉ ex) : ∃ sl, h1.get? b = some { ob with slots := sl } := by
  by_cases hb : b ∈ fs
  · exact u.slot b ob q n hb hx
  · exact ⟨ob.slots, u.keep b ob q n hb hx⟩
theorem Un.kept (k : ∀ b u, h.get? b = some u → h'.get? b = some u) : Un fs ex H H h h' :=
  ⟨fun b ob q _ _ _ => k b ob q, fun b ob q _ _ _ => ⟨ob.slots, k b ob q⟩, fun _ _ _ n _ => n, fun b ob q _ => ⟨ob, k b ob q⟩, fun _ _ q => q, fun _ _ _ q => q, fun _ ps q => ⟨#[], by rw [q]; simp⟩⟩
theorem Un.refl : Un fs ex H H h h := Un.kept fun _ _ q => q
theorem Un.laid (k : ∀ b u, h.get? b = some u → h'.get? b = some u) (hp : h.objs.size ≤ a) (hn : H a = none) : Un fs ex H (upd H a o) h h' where
  keep := fun b u q _ _ _ => k b u q
  slot := fun b u q _ _ _ => ⟨u.slots, k b u q⟩
  free := fun b u q n _ => by rw [upd_ne (Nat.ne_of_lt (Nat.lt_of_lt_of_le (Heap.lt_size q) hp))]; exact n
  there := fun b u q _ => ⟨u, k b u q⟩
  tups := fun b xs q => by rw [upd_ne (ne_of_none q hn)]; exact q
  frzs := fun b u xs q => by rw [upd_ne (ne_of_none q hn)]; exact q
  tbls := fun b ps q => ⟨#[], by rw [upd_ne (ne_of_none q hn), q]; simp⟩
theorem Un.write (mu : Mut (H x)) (he : e = x ∨ H e = some (.own x)) (k : ∀ b u, b ≠ e → h.get? b = some u → h'.get? b = some u) (heo : ∃ u, h'.get? e = some u) : Un fs ex H (upd H x o) h h' := by
  have hx : ∀ b, H b = none → b ≠ x := fun b n z => by subst z; rw [n] at mu; exact mu
  have hb : ∀ b, H b = none → b ≠ e := fun b n z => by
    subst z
    rcases he with r | r
    · exact hx b n r
    · rw [n] at r; cases r
  have hm : ∀ b u, H b = some u → ¬ Mut (some u) → b ≠ x := fun b u q nm z => by subst z; rw [q] at mu; exact nm mu
  refine ⟨fun b u q n _ _ => k b u (hb b n) q, fun b u q n _ _ => ⟨u.slots, k b u (hb b n) q⟩, fun b u q n _ => by rw [upd_ne (hx b n)]; exact n, fun b u q _ => ?_,
    fun b xs q => by rw [upd_ne (hm b _ q fun z => z)]; exact q, fun b u xs q => by rw [upd_ne (hm b _ q fun z => z)]; exact q, fun b ps q => ⟨#[], by rw [upd_ne (hm b _ q fun z => z), q]; simp⟩⟩
  by_cases hbe : b = e
  · subst hbe; exact heo
  · exact ⟨u, k b u hbe q⟩
end

/-! ### the heap without what is tracked -/
def trk (h : Heap) (H : Hp) : List Addr := (List.range h.objs.size).filter fun a => (H a).isSome
def hidT (h : Heap) (H : Hp) : Heap := PySem.W.hideAll h (trk h H)
theorem hidT_size (h : Heap) (H : Hp) : (hidT h H).objs.size = h.objs.size := PySem.W.hideAll_size _ _
theorem hidT_get {h : Heap} {H : Hp} {b : Addr} {o : Obj} (e : h.get? b = some o) (n : H b = none) : (hidT h H).get? b = some o :=
  PySem.W.hideAll_get _ e fun hm => by
    have q : (H b).isSome = true := (List.mem_filter.mp hm).2
    rw [n] at q; simp at q
theorem of_hidT {h : Heap} {H : Hp} {b : Addr} {o : Obj} (e : (hidT h H).get? b = some o) : h.get? b = some o ∧ H b = none := by
  have e' : h.get? b = some o := PySem.W.of_hideAll (trk h H) e
  refine ⟨e', ?_⟩
  cases q : H b with
  | none => rfl
  | some x =>
    have hm : b ∈ trk h H := List.mem_filter.mpr ⟨List.mem_range.mpr (Heap.lt_size e'), by simp [q]⟩
    have z : (hidT h H).get? b = none := PySem.W.hideAll_none (trk h H) hm
    rw [z] at e; cases e

/-! ### OpenK's ledger, filled with every new object but one -/
def allNews (g h : Heap) (L : Addr) : List (Addr × Obj) := (List.range h.objs.size).filterMap fun a => if a = L ∨ (g.get? a).isSome = true then none else (h.get? a).map fun o => (a, o)
def rest (g h : Heap) (L d : Addr) : List (Addr × Obj) := (allNews g h L).filter fun p => decide (p.1 ≠ d)
end L2

namespace L2
open PySem PySem.Spec PyProof.Rows

/-- the module's facts, over the base: the heap at the law's entry without what is tracked there -/
structure Mod (K : PySem.W.Frag) (mg : Str → Option Value) (base : Heap) : Prop where
  kin : K.In base
  glob : base.Ns mainGlobals mg
  blt : ∃ mb, base.Ns builtinsNs mb ∧ ∀ x : Str, x ≠ "__name__" → mb x = bootBuiltins x
  nolimit : base.NoLimit

/-- the context: a def's body (or a comprehension's block) running. base: fixed through the whole law; s₀, H₀: the entry; outer: the frames whose slots others may change (a def's callers); stack: all frames that run;
   ex: iterators that were made ahead of the entry and are walked here (a comprehension's); fn: the names whose cells were made at the entry (a def: all; a comprehension's block: its own); calm: not within an except suite; pn: pins that every state bears; xe: what is wanted of an exception that leaves the code -/
structure Cx where
  prog : Program
  w : World
  K : PySem.W.Frag
  mg : Str → Option Value
  base : Heap
  A : Around
  N : List Str
  s₀ : Shared
  H₀ : Hp
  env : Env
  outer : List Env
  stack : List Env
  ex : List Addr
  fn : Str → Bool
  calm : Bool
  pn : List (Addr × Obj)
  xe : Value → Shared → Prop
/-- the callers' frames -/
def frs (l : List Env) : List Addr := l.filterMap (·.frame)
abbrev Cx.fs (X : Cx) : List Addr := frs X.outer

def Vis (sc : Scope) (x : Str) : Prop := sc.names.lookup x = some .local ∨ sc.names.lookup x = some .cell ∨ sc.names.lookup x = some .free
def Loc (sc : Scope) (x : Str) : Prop := sc.names.lookup x = some .local ∨ sc.names.lookup x = some .cell
def Look (env : Env) (h : Heap) (m : Str → Option Value) (x : Str) (u : Value) : Prop :=
  (env.kindOf x = some .local ∧ m x = some u) ∨ ((env.kindOf x = some .cell ∨ env.kindOf x = some .free) ∧ ∃ c, env.cells.lookup x = some c ∧ h.IsCell c (some u))

structure Cx.Ok (X : Cx) : Prop where
  mod : Mod X.K X.mg X.base
  kind : X.env.scope.kind = .function
  glob : X.env.globals = mainGlobals
  blt : X.env.builtins = builtinsNs
  above : X.s₀.heap.objs.size ≤ X.env.locals
  inj : ∀ x y c, X.env.cells.lookup x = some c → X.env.cells.lookup y = some c → x = y
  has : ∀ x, (X.env.kindOf x = some .cell ∨ X.env.kindOf x = some .free) → ∃ c, X.env.cells.lookup x = some c
  cab : ∀ x c, X.fn x = true → X.env.cells.lookup x = some c → X.s₀.heap.objs.size ≤ c
  hd : X.calm = true → X.A.handled = none
  frames : X.A.frames = some X.stack
  stk : X.stack = X.outer ∨ (X.stack = X.env :: X.outer ∧ X.env.frame = some X.env.locals)
  exf : ∀ b ∈ X.ex, b ≠ X.env.locals ∧ ∀ x c, X.env.cells.lookup x = some c → c ≠ b
  bs : ∀ b o, X.base.get? b = some o → X.s₀.heap.get? b = some o ∧ X.H₀ b = none
  bsz : X.base.objs.size ≤ X.s₀.heap.objs.size
  noex : ∀ b o, X.base.get? b = some o → b ∉ X.ex
  exfs : ∀ b ∈ X.ex, b ∉ X.fs
  funs : X.s₀.heap.FunFrames X.base X.outer
  frf : ∀ b ∈ X.fs, X.H₀ b = none

structure Inv (X : Cx) (pins : List (Addr × Obj)) (σ : List (Option V)) (H : Hp) (s : Shared) : Prop where
  ok : X.Ok
  os : s.os = X.s₀.os
  bare : AllBare s.gens
  base : Un X.fs X.ex X.H₀ H X.s₀.heap s.heap
  loc : ∃ m, s.heap.Ns X.env.locals m ∧ ∀ (i : Nat) (x : Str) (v : V), X.N[i]? = some x → σ[i]? = some (some v) → Vis X.env.scope x → ∃ u, RelV v u ∧ Look X.env s.heap m x u
  cell : ∀ x c, X.env.cells.lookup x = some c → ∃ v, s.heap.IsCell c v
  free : H X.env.locals = none
  freeC : ∀ x c, X.env.cells.lookup x = some c → H c = none
  pin : ∀ p ∈ X.pn ++ pins, s.heap.get? p.1 = some p.2 ∧ H p.1 = none ∧ p.1 ≠ X.env.locals ∧ p.1 ∉ X.fs ∧ ∀ v, p.2.data ≠ .cell v
  hok : HOk X.prog X.w H s.heap
  len : σ.length = X.N.length

section
variable {X : Cx} {pins : List (Addr × Obj)} {σ : List (Option V)} {H H' : Hp} {s : Shared} {h' : Heap}

theorem Cx.Ok.nofr (ok : X.Ok) {b : Addr} {o : Obj} (e : X.base.get? b = some o) : b ∉ X.fs := fun hb => by
  have := (ok.funs.mem hb).1
  rw [e] at this; cases this
theorem Inv.bs (I : Inv X pins σ H s) : ∀ b o, X.base.get? b = some o → s.heap.get? b = some o ∧ H b = none := fun b o e =>
  ⟨I.base.keep b o (I.ok.bs b o e).1 (I.ok.bs b o e).2 (I.ok.nofr e) (I.ok.noex b o e), I.base.free b o (I.ok.bs b o e).1 (I.ok.bs b o e).2 (I.ok.noex b o e)⟩
theorem Inv.bk (I : Inv X pins σ H s) : ∀ b o, X.base.get? b = some o → s.heap.get? b = some o := fun b o e => (I.bs b o e).1
theorem Inv.mod (I : Inv X pins σ H s) : Mod X.K X.mg X.base := I.ok.mod
theorem Inv.kIn (I : Inv X pins σ H s) : X.K.In s.heap := I.ok.mod.kin.keeps I.bk
theorem Inv.lt (I : Inv X pins σ H s) : X.env.locals < s.heap.objs.size := let ⟨_, hn, _⟩ := I.loc; hn.lt
theorem Inv.sz (I : Inv X pins σ H s) : X.s₀.heap.objs.size ≤ s.heap.objs.size := Nat.le_trans I.ok.above (Nat.le_of_lt I.lt)
theorem Inv.nofs (I : Inv X pins σ H s) {a : Addr} (h : s.heap.objs.size ≤ a) : a ∉ X.fs := fun hb => by
  obtain ⟨_, o, ho, _⟩ := I.ok.funs.mem hb
  exact absurd (Nat.lt_of_lt_of_le (Heap.lt_size ho) (Nat.le_trans I.sz h)) (Nat.lt_irrefl _)
theorem Inv.cne (I : Inv X pins σ H s) : ∀ x c, X.env.cells.lookup x = some c → c ≠ X.env.locals := fun x c e z => by
  obtain ⟨v, o, ho, hd⟩ := I.cell x c e
  obtain ⟨m, ⟨o', es, ep, ho', hd', _⟩, _⟩ := I.loc
  rw [z, ho'] at ho; cases ho; rw [hd'] at hd; cases hd
theorem Inv.funs (I : Inv X pins σ H s) : s.heap.FunFrames X.base X.outer := by
  have all : ∀ (l : List Env), (∀ b ∈ frs l, b ∈ X.fs) → X.s₀.heap.FunFrames X.base l → s.heap.FunFrames X.base l := by
    intro l
    induction l with
    | nil => intro _ _; trivial
    | cons env r ih =>
      intro hs hl
      obtain ⟨hk, ⟨L, o, hf, hn, ho, hd⟩, hr⟩ := hl
      have hL : L ∈ X.fs := hs L (by unfold frs; rw [List.filterMap_cons, hf]; exact List.mem_cons_self)
      obtain ⟨sl, e⟩ := I.base.slot L o ho (I.ok.frf L hL) hL fun z => I.ok.exfs L z hL
      exact ⟨hk, ⟨L, _, hf, hn, e, hd⟩, ih (fun b hb => hs b (by unfold frs; rw [List.filterMap_cons, hf]; exact List.mem_cons_of_mem _ hb)) hr⟩
  exact all X.outer (fun _ hb => hb) I.ok.funs

/-- the frames that run, for a call -/
theorem Inv.stack (I : Inv X pins σ H s) : s.heap.FunFrames X.base X.stack := by
  rcases I.ok.stk with e | ⟨e, hf⟩
  · rw [e]; exact I.funs
  · rw [e]
    obtain ⟨m, hn, _⟩ := I.loc
    refine .cons (by rw [I.ok.kind]; decide) hf hn ?_ I.funs
    exact Heap.get?_none_of_le (Nat.le_trans I.ok.bsz I.ok.above)
theorem Inv.stkSub (I : Inv X pins σ H s) : ∀ b ∈ frs X.stack, b ∈ X.env.locals :: X.fs := fun b hb => by
  rcases I.ok.stk with e | ⟨e, hf⟩
  · rw [e] at hb; exact List.mem_cons_of_mem _ hb
  · rw [e] at hb
    unfold frs at hb
    rw [List.filterMap_cons, hf] at hb
    exact hb
theorem Inv.stkFree (I : Inv X pins σ H s) : ∀ b ∈ frs X.stack, H b = none := fun b hb => by
  rcases List.mem_cons.mp (I.stkSub b hb) with e | hb
  · rw [e]; exact I.free
  · obtain ⟨_, o, ho, _⟩ := I.ok.funs.mem hb
    exact I.base.free b o ho (I.ok.frf b hb) fun z => I.ok.exfs b z hb

/-- THE STEP: the untracked objects but the frame and the records at ch are kept (the callers' frames up to slots), the frame's map is kept, the new abstract heap is held -/
theorem Inv.step {g' : Array GenState} {t' : Nat} {d' : Drawn} {ch : List Addr} (I : Inv X pins σ H s)
    (hch : ∀ b ∈ ch, (b ∈ X.ex ∨ X.s₀.heap.objs.size ≤ b) ∧ b ≠ X.env.locals ∧ (∀ x c, X.env.cells.lookup x = some c → c ≠ b) ∧ ∀ p ∈ X.pn ++ pins, p.1 ≠ b)
    (keep : ∀ b o, b ≠ X.env.locals → b ∉ X.fs → b ∉ ch → s.heap.get? b = some o → H b = none → h'.get? b = some o)
    (slot : ∀ b o, b ≠ X.env.locals → b ∈ X.fs → b ∉ ch → s.heap.get? b = some o → H b = none → ∃ sl, h'.get? b = some { o with slots := sl }) (free : ∀ b o, b ∉ ch → s.heap.get? b = some o → H b = none → H' b = none)
    (there : ∀ b o, b ∉ ch → s.heap.get? b = some o → ∃ o', h'.get? b = some o')
    (tups : ∀ b xs, H b = some (.tup xs) → H' b = some (.tup xs)) (frzs : ∀ b o u, H b = some (.frz o u) → H' b = some (.frz o u)) (tbls : ∀ b ps, H b = some (.tbl ps) → ∃ more, H' b = some (.tbl (ps ++ more)))
    (ns : ∀ m, s.heap.Ns X.env.locals m → h'.Ns X.env.locals m) (hok : HOk X.prog X.w H' h') (hg : AllBare g') :
    Inv X pins σ H' { s with heap := h', gens := g', drawn := d', toks := t' } := by
  have neL : ∀ b o, X.s₀.heap.get? b = some o → b ≠ X.env.locals := fun b o e => Nat.ne_of_lt (Nat.lt_of_lt_of_le (Heap.lt_size e) I.ok.above)
  have neC : ∀ b o, X.s₀.heap.get? b = some o → b ∉ X.ex → b ∉ ch := fun b o e hx hb => by
    rcases (hch b hb).1 with z | z
    · exact hx z
    · exact absurd (Nat.lt_of_lt_of_le (Heap.lt_size e) z) (Nat.lt_irrefl _)
  have cellK : ∀ x c, X.env.cells.lookup x = some c → ∀ v, s.heap.IsCell c v → h'.IsCell c v := fun x c e v ⟨o, ho, hd⟩ => by
    have nch : c ∉ ch := fun z => (hch c z).2.2.1 x c e rfl
    by_cases hc : c ∈ X.fs
    · obtain ⟨sl, q⟩ := slot c o (I.cne x c e) hc nch ho (I.freeC x c e)
      exact ⟨_, q, hd⟩
    · exact ⟨o, keep c o (I.cne x c e) hc nch ho (I.freeC x c e), hd⟩
  refine ⟨I.ok, I.os, hg, ⟨fun b o e n hb hx => ?_, fun b o e n hb hx => ?_, fun b o e n hx => ?_, fun b o e hx => ?_, fun b xs e => tups b xs (I.base.tups b xs e), fun b o xs e => frzs b o xs (I.base.frzs b o xs e), fun b ps e => ?_⟩, ?_, fun x c e => ?_, ?_, fun x c e => ?_, fun p hp => ?_, hok, I.len⟩
  · exact keep b o (neL b o e) hb (neC b o e hx) (I.base.keep b o e n hb hx) (I.base.free b o e n hx)
  · obtain ⟨sl, e1⟩ := I.base.slot b o e n hb hx
    obtain ⟨sl', e2⟩ := slot b _ (neL b o e) hb (neC b o e hx) e1 (I.base.free b o e n hx)
    exact ⟨sl', e2⟩
  · obtain ⟨o', e1⟩ := I.base.there b o e hx
    exact free b o' (neC b o e hx) e1 (I.base.free b o e n hx)
  · obtain ⟨o', e1⟩ := I.base.there b o e hx
    exact there b o' (neC b o e hx) e1
  · obtain ⟨m1, e1⟩ := I.base.tbls b ps e
    obtain ⟨m2, e2⟩ := tbls b _ e1
    exact ⟨m1 ++ m2, by rw [e2, Array.append_assoc]⟩
  · obtain ⟨m, hn, hl⟩ := I.loc
    refine ⟨m, ns m hn, fun i x v e1 e2 e3 => ?_⟩
    obtain ⟨u, r, l⟩ := hl i x v e1 e2 e3
    refine ⟨u, r, ?_⟩
    rcases l with l | ⟨k, c, e, z⟩
    · exact .inl l
    · exact .inr ⟨k, c, e, cellK x c e _ z⟩
  · obtain ⟨v, z⟩ := I.cell x c e
    exact ⟨v, cellK x c e v z⟩
  · obtain ⟨m, ⟨o, _, _, ho, _⟩, _⟩ := I.loc
    exact free _ o (fun z => (hch _ z).2.1 rfl) ho I.free
  · obtain ⟨v, o, ho, hd⟩ := I.cell x c e
    exact free c o (fun z => (hch c z).2.2.1 x c e rfl) ho (I.freeC x c e)
  · obtain ⟨e, n, ne, nf, d⟩ := I.pin p hp
    have nch : p.1 ∉ ch := fun z => (hch p.1 z).2.2.2 p hp rfl
    exact ⟨keep p.1 p.2 ne nf nch e n, free p.1 p.2 nch e n, ne, nf, d⟩
/-- .. where the frame's own object is kept too -/
theorem Inv.un {t' : Nat} (I : Inv X pins σ H s) (u : Un X.fs [] H H' s.heap h') (hok : HOk X.prog X.w H' h') : Inv X pins σ H' { s with heap := h', toks := t' } := by
  obtain ⟨m, ⟨o, es, ep, ho, r⟩, _⟩ := id I.loc
  obtain ⟨sl, hL⟩ := u.any ho I.free (by simp)
  exact I.step (g' := s.gens) (d' := s.drawn) (ch := []) (fun _ z => nomatch z) (fun b o _ hb _ e n => u.keep b o e n hb (by simp)) (fun b o _ hb _ e n => u.slot b o e n hb (by simp)) (fun b o _ e n => u.free b o e n (by simp)) (fun b o _ e => u.there b o e (by simp)) u.tups u.frzs u.tbls (fun m' hm => by
    obtain ⟨o', es', ep', ho', r'⟩ := hm
    rw [ho] at ho'; cases ho'
    exact ⟨_, es', ep', hL, r'⟩) hok I.bare
/-- behind a call (or a comprehension's block): the slots of this frame may have changed too, the records at ch may have turned -/
theorem Inv.call {g' : Array GenState} {t' : Nat} {d' : Drawn} {ch : List Addr} (I : Inv X pins σ H s) (u : Un (frs X.stack) ch H H' s.heap h') (hok : HOk X.prog X.w H' h') (hg : AllBare g')
    (hch : ∀ b ∈ ch, (b ∈ X.ex ∨ X.s₀.heap.objs.size ≤ b) ∧ b ≠ X.env.locals ∧ (∀ x c, X.env.cells.lookup x = some c → c ≠ b) ∧ ∀ p ∈ X.pn ++ pins, p.1 ≠ b) :
    Inv X pins σ H' { s with heap := h', gens := g', drawn := d', toks := t' } := by
  obtain ⟨m, ⟨o, es, ep, ho, r⟩, _⟩ := id I.loc
  obtain ⟨sl, hL⟩ := u.any ho I.free fun z => (hch _ z).2.1 rfl
  exact I.step (ch := ch) hch (fun b o hL hb hc e n => u.keep b o e n (fun z => (List.mem_cons.mp (I.stkSub b z)).elim hL hb) hc) (fun b o _ _ hc e n => u.any e n hc) (fun b o hc e n => u.free b o e n hc) (fun b o hc e => u.there b o e hc) u.tups u.frzs u.tbls (fun m' hm => by
    obtain ⟨o', es', ep', ho', r'⟩ := hm
    rw [ho] at ho'; cases ho'
    exact ⟨_, es', ep', hL, r'⟩) hok hg
/-- an untracked record of ours (an iterator) has turned -/
theorem Inv.turned {t' : Nat} {it : Addr} (I : Inv X pins σ H s) (k : ∀ b o, b ≠ it → s.heap.get? b = some o → h'.get? b = some o) (hn : H it = none) (hL : it ≠ X.env.locals)
    (h1 : it ∈ X.ex ∨ X.s₀.heap.objs.size ≤ it) (h2 : ∀ x c, X.env.cells.lookup x = some c → c ≠ it) (h3 : ∀ p ∈ X.pn ++ pins, p.1 ≠ it) : Inv X pins σ H { s with heap := h', toks := t' } := by
  have nit : ∀ b u, H b = some u → b ≠ it := fun b u e z => by rw [z, hn] at e; cases e
  refine I.step (g' := s.gens) (d' := s.drawn) (ch := [it]) (fun b hb => ?_) (fun b o _ _ hc e _ => k b o (fun z => hc (by simp [z])) e) (fun b o _ _ hc e _ => ⟨o.slots, k b o (fun z => hc (by simp [z])) e⟩) (fun _ _ _ _ n => n)
    (fun b o hc e => ⟨o, k b o (fun z => hc (by simp [z])) e⟩) (fun _ _ e => e) (fun _ _ _ e => e) (fun b ps e => ⟨#[], by rw [e]; simp⟩) (fun m hm => ?_) (fun b u e => ?_) I.bare
  · have e : b = it := by simpa using hb
    subst e
    exact ⟨h1, hL, h2, h3⟩
  · obtain ⟨o, es, ep, ho, r⟩ := hm
    exact ⟨o, es, ep, k _ o (Ne.symm hL) ho, r⟩
  · refine (I.hok b u e).stay (fun c v hc q => k c v ?_ q) (fun _ q => q) fun _ _ q => q
    rcases hc with z | z
    · rw [z]; exact nit b u e
    · exact nit c _ z
theorem Inv.tok (I : Inv X pins σ H s) (t : Nat) : Inv X pins σ H { s with toks := t } := I.un (h' := s.heap) (t' := t) Un.refl I.hok
/-- all objects kept -/
theorem Inv.kept {t' : Nat} (I : Inv X pins σ H s) (k : ∀ b u, s.heap.get? b = some u → h'.get? b = some u) : Inv X pins σ H { s with heap := h', toks := t' } := I.un (Un.kept k) (I.hok.kept k)
/-- a new object laid and tracked -/
theorem Inv.laid {a : Addr} {o : HO} {t' : Nat} (I : Inv X pins σ H s) (k : ∀ b u, s.heap.get? b = some u → h'.get? b = some u) (hp : s.heap.objs.size ≤ a) (new : ObjOk X.prog X.w (upd H a o) h' a o) :
    Inv X pins σ (upd H a o) { s with heap := h', toks := t' } := I.un (Un.laid k hp (I.hok.fresh hp)) (I.hok.laid k hp new)
/-- an object written -/
theorem Inv.write {x e : Addr} {o : HO} {t' : Nat} (I : Inv X pins σ H s) (mu : Mut (H x)) (he : e = x ∨ H e = some (.own x)) (k : ∀ b u, b ≠ e → s.heap.get? b = some u → h'.get? b = some u) (heo : ∃ u, h'.get? e = some u)
    (new : ObjOk X.prog X.w (upd H x o) h' x o) : Inv X pins σ (upd H x o) { s with heap := h', toks := t' } := I.un (Un.write mu he k heo) (I.hok.write mu he k heo new)
/-- forgetting slots, pins -/
theorem Inv.weak {σ' : List (Option V)} (I : Inv X pins σ H s) (hl : σ'.length = σ.length) (w : ∀ (i : Nat) v, σ'[i]? = some (some v) → σ[i]? = some (some v)) : Inv X pins σ' H s :=
  ⟨I.ok, I.os, I.bare, I.base, let ⟨m, hn, hl'⟩ := I.loc; ⟨m, hn, fun i x v e1 e2 e3 => hl' i x v e1 (w i v e2) e3⟩, I.cell, I.free, I.freeC, I.pin, I.hok, hl.trans I.len⟩
theorem Inv.pins_of {pins' : List (Addr × Obj)} (I : Inv X pins σ H s) (h : ∀ p ∈ pins', s.heap.get? p.1 = some p.2 ∧ H p.1 = none ∧ p.1 ≠ X.env.locals ∧ p.1 ∉ X.fs ∧ ∀ v, p.2.data ≠ .cell v) : Inv X pins' σ H s :=
  ⟨I.ok, I.os, I.bare, I.base, I.loc, I.cell, I.free, I.freeC, fun p hp => (List.mem_append.mp hp).elim (fun z => I.pin p (List.mem_append_left _ z)) (h p), I.hok, I.len⟩

theorem nodup_ix {N : List Str} (hN : N.Nodup) {i j : Nat} {x : Str} (a : N[i]? = some x) (b : N[j]? = some x) : i = j := by
  obtain ⟨h1, e1⟩ := List.getElem?_eq_some_iff.mp a
  obtain ⟨h2, e2⟩ := List.getElem?_eq_some_iff.mp b
  exact (List.getElem_inj hN).mp (e1.trans e2.symm)

/-- a name is stored; what changed -/
theorem store_ok2 {M : Model} {A : Around} {E : Value → Shared → Prop} {i : Nat} {x : Str} {v : V} {u : Value} {Q : Unit → Shared → Prop} (I : Inv X pins σ H s) (hN : X.N.Nodup) (hi : X.N[i]? = some x) (hx : Loc X.env.scope x) (r : RelV v u)
    (h : ∀ s', Inv X pins (σ.set i (some v)) H s' → (∃ a, Heap.SameBut a s.heap s'.heap ∧ (a = X.env.locals ∨ X.env.cells.lookup x = some a)) → Q () s') (hf : X.fn x = true ∨ X.env.scope.names.lookup x = some .local := by first | exact .inl rfl | exact .inr rfl | assumption) : wpAny M A (storeName X.env x u) Q E s := by
  obtain ⟨m, hn, hl⟩ := id I.loc
  have hcls : (X.env.scope.kind == .class || (X.env.scope.kind == .module && X.env.locals != X.env.globals)) = false := by rw [I.ok.kind]; rfl
  have hiσ : i < σ.length := by rw [I.len]; exact (List.getElem?_eq_some_iff.mp hi).1
  have cne := I.cne
  have tracked : ∀ {a : Addr} {h' : Heap}, (∃ o, s.heap.get? a = some o ∧ H a = none) → Heap.SameBut a s.heap h' → HOk X.prog X.w H h' := fun {a h'} ha hs b ob e => by
    obtain ⟨_, _, hfree⟩ := ha
    refine (I.hok b ob e).stay (fun c w' hc q => (hs.2 c ?_).trans q) (fun _ q => q) fun _ _ q => q
    rintro rfl
    rcases hc with rfl | hc
    · rw [hfree] at e; cases e
    · rw [hfree] at hc; cases hc
  rcases hx with hk | hk
  · refine wpAny_storeName_local hk hn (fun h' hn' hs => ?_) hcls
    obtain ⟨oL, _, _, hoL, _⟩ := id hn
    refine h _ ⟨I.ok, I.os, I.bare, ⟨fun b o e n hb hx => ?_, fun b o e n hb hx => ?_, I.base.free, fun b o e hx => ?_, I.base.tups, I.base.frzs, I.base.tbls⟩, ⟨_, hn', fun j y v' e1 e2 e3 => ?_⟩, fun y c e => ?_, I.free, I.freeC, fun p hp => ?_, tracked ⟨oL, hoL, I.free⟩ hs, by simpa using I.len⟩ ⟨_, hs, .inl rfl⟩
    · exact (hs.2 b (Nat.ne_of_lt (Nat.lt_of_lt_of_le (Heap.lt_size e) I.ok.above))).trans (I.base.keep b o e n hb hx)
    · obtain ⟨sl, e1⟩ := I.base.slot b o e n hb hx
      exact ⟨sl, (hs.2 b (Nat.ne_of_lt (Nat.lt_of_lt_of_le (Heap.lt_size e) I.ok.above))).trans e1⟩
    · obtain ⟨o', e1⟩ := I.base.there b o e hx
      exact ⟨o', (hs.2 b (Nat.ne_of_lt (Nat.lt_of_lt_of_le (Heap.lt_size e) I.ok.above))).trans e1⟩
    · by_cases hj : j = i
      · subst hj
        rw [hi] at e1; cases e1
        rw [List.getElem?_set_self hiσ] at e2
        cases e2
        exact ⟨u, r, .inl ⟨hk, by simp⟩⟩
      · rw [List.getElem?_set_ne (Ne.symm hj)] at e2
        obtain ⟨u', r', q⟩ := hl j y v' e1 e2 e3
        refine ⟨u', r', ?_⟩
        rcases q with ⟨k, e⟩ | ⟨k, c, e, z⟩
        · refine .inl ⟨k, ?_⟩
          have : y ≠ x := fun e => hj (nodup_ix hN e1 (e ▸ hi))
          simp [this, e]
        · exact .inr ⟨k, c, e, z.sameBut hs (cne y c e)⟩
    · obtain ⟨w', z⟩ := I.cell y c e
      exact ⟨w', z.sameBut hs (cne y c e)⟩
    · obtain ⟨e, n, ne, nf, d⟩ := I.pin p hp
      exact ⟨(hs.2 p.1 ne).trans e, n, ne, nf, d⟩
  · have hfn : X.fn x = true := by
      rcases hf with z | z
      · exact z
      · rw [z] at hk; cases hk
    obtain ⟨c, hc⟩ := I.ok.has x (.inl hk)
    obtain ⟨w', z⟩ := I.cell x c hc
    refine wpAny_storeName_cell I.ok.kind hk hc z (fun h' hc' hs => ?_)
    obtain ⟨oc, hoc, hocd⟩ := id z
    refine h { s with heap := h' } ⟨I.ok, I.os, I.bare, ⟨fun b o e n hb hx => ?_, fun b o e n hb hx => ?_, I.base.free, fun b o e hx => ?_, I.base.tups, I.base.frzs, I.base.tbls⟩, ⟨m, hn.sameBut hs (Ne.symm (cne x c hc)), fun j y v' e1 e2 e3 => ?_⟩, fun y c' e => ?_, I.free, I.freeC, fun p hp => ?_, tracked ⟨oc, hoc, I.freeC x c hc⟩ hs, by simpa using I.len⟩ ⟨c, hs, .inr hc⟩
    · exact (hs.2 b (Nat.ne_of_lt (Nat.lt_of_lt_of_le (Heap.lt_size e) (I.ok.cab x c hfn hc)))).trans (I.base.keep b o e n hb hx)
    · obtain ⟨sl, e1⟩ := I.base.slot b o e n hb hx
      exact ⟨sl, (hs.2 b (Nat.ne_of_lt (Nat.lt_of_lt_of_le (Heap.lt_size e) (I.ok.cab x c hfn hc)))).trans e1⟩
    · obtain ⟨o', e1⟩ := I.base.there b o e hx
      exact ⟨o', (hs.2 b (Nat.ne_of_lt (Nat.lt_of_lt_of_le (Heap.lt_size e) (I.ok.cab x c hfn hc)))).trans e1⟩
    · by_cases hj : j = i
      · subst hj
        rw [hi] at e1; cases e1
        rw [List.getElem?_set_self hiσ] at e2
        cases e2
        exact ⟨u, r, .inr ⟨.inl hk, c, hc, hc'⟩⟩
      · rw [List.getElem?_set_ne (Ne.symm hj)] at e2
        obtain ⟨u', r', q⟩ := hl j y v' e1 e2 e3
        refine ⟨u', r', ?_⟩
        rcases q with q | ⟨k, c', e, z'⟩
        · exact .inl q
        · refine .inr ⟨k, c', e, z'.sameBut hs ?_⟩
          rintro rfl
          exact hj (nodup_ix hN e1 (I.ok.inj _ _ _ e hc ▸ hi))
    · by_cases hcc : c' = c
      · subst hcc; exact ⟨_, hc'⟩
      · obtain ⟨w2, z2⟩ := I.cell y c' e
        exact ⟨w2, z2.sameBut hs hcc⟩
    · obtain ⟨e, n, ne, nf, d⟩ := I.pin p hp
      refine ⟨(hs.2 p.1 ?_).trans e, n, ne, nf, d⟩
      intro q
      rw [q, hoc] at e
      have q' : oc = p.2 := Option.some.inj e
      exact d w' (by rw [← q']; exact hocd)
theorem store_ok {M : Model} {A : Around} {E : Value → Shared → Prop} {i : Nat} {x : Str} {v : V} {u : Value} {Q : Unit → Shared → Prop} (I : Inv X pins σ H s) (hN : X.N.Nodup) (hi : X.N[i]? = some x) (hx : Loc X.env.scope x) (r : RelV v u)
    (h : ∀ s', Inv X pins (σ.set i (some v)) H s' → Q () s') (hf : X.fn x = true ∨ X.env.scope.names.lookup x = some .local := by first | exact .inl rfl | exact .inr rfl | assumption) : wpAny M A (storeName X.env x u) Q E s :=
  store_ok2 I hN hi hx r (fun s' I' _ => h s' I') hf
/-- behind a call or a block, the state as it is -/
theorem Inv.call' {s' : Shared} {ch : List Addr} (I : Inv X pins σ H s) (ho : s'.os = s.os) (u : Un (frs X.stack) ch H H' s.heap s'.heap) (hok : HOk X.prog X.w H' s'.heap) (hg : AllBare s'.gens)
    (hch : ∀ b ∈ ch, (b ∈ X.ex ∨ X.s₀.heap.objs.size ≤ b) ∧ b ≠ X.env.locals ∧ (∀ x c, X.env.cells.lookup x = some c → c ≠ b) ∧ ∀ p ∈ X.pn ++ pins, p.1 ≠ b) : Inv X pins σ H' s' := by
  obtain ⟨h', g', d', t', o'⟩ := s'
  have e : o' = s.os := ho
  subst e
  exact I.call (g' := g') (t' := t') (d' := d') u hok hg hch
end

/-! ### the judgements -/
/-- an exception: its class, its own dict's address (where it has one), the abstract heap behind it -/
abbrev XK := Value → Option Addr → Hp → Prop
abbrev St := List (Option V)
abbrev VK := V → Hp → Prop
/-- an expression's reading; a test's; an argument list's -/
abbrev TE := St → Hp → VK → Prop
abbrev TT := St → Hp → (Bool → Hp → Prop) → Prop
abbrev TA := St → Hp → (List V → Hp → Prop) → Prop
/-- what is wanted behind a statement -/
structure Ends where
  nx : St → Hp → Prop
  rt : VK
  bk : St → Hp → Prop := fun _ _ => False
  ct : St → Hp → Prop := fun _ _ => False
abbrev TS := Ends → St → Hp → Prop

def EP (X : Cx) (pins : List (Addr × Obj)) (σ : St) (Q : VK) (u : Value) (s' : Shared) : Prop := ∃ v H', Inv X pins σ H' s' ∧ RelV v u ∧ Q v H'
def TP (X : Cx) (pins : List (Addr × Obj)) (σ : St) (Q : Bool → Hp → Prop) (b : Bool) (s' : Shared) : Prop := ∃ H', Inv X pins σ H' s' ∧ Q b H'
def AP (X : Cx) (pins : List (Addr × Obj)) (σ : St) (Q : List V → Hp → Prop) (us : List Value) (s' : Shared) : Prop := ∃ vs H', Inv X pins σ H' s' ∧ Vals vs us ∧ Q vs H'
def SP (X : Cx) (pins : List (Addr × Obj)) (D : Ends) (f : Flow) (s' : Shared) : Prop :=
  match f with
  | .next => ∃ σ' H', Inv X pins σ' H' s' ∧ D.nx σ' H'
  | .brk => ∃ σ' H', Inv X pins σ' H' s' ∧ D.bk σ' H'
  | .cont => ∃ σ' H', Inv X pins σ' H' s' ∧ D.ct σ' H'
  | .ret u => ∃ v σ' H', Inv X pins σ' H' s' ∧ RelV v u ∧ D.rt v H'

def PE (X : Cx) (e : Expr) (t : TE) : Prop :=
  ∀ (pins : List (Addr × Obj)) (s : Shared) (σ : St) (H : Hp) (Q : VK), Inv X pins σ H s → t σ H Q → wpAny (model X.prog X.w) X.A (eval e X.env) (EP X pins σ Q) X.xe s
def PT (X : Cx) (e : Expr) (t : TT) : Prop :=
  ∀ (pins : List (Addr × Obj)) (s : Shared) (σ : St) (H : Hp) (Q : Bool → Hp → Prop), Inv X pins σ H s → t σ H Q → wpAny (model X.prog X.w) X.A (isTrue e X.env (eval e X.env)) (TP X pins σ Q) X.xe s
/-- a test whatever its 'whole' is (and, or) -/
def PW (X : Cx) (e : Expr) (t : TT) : Prop :=
  ∀ (whole : Sem Value) (pins : List (Addr × Obj)) (s : Shared) (σ : St) (H : Hp) (Q : Bool → Hp → Prop), Inv X pins σ H s → t σ H Q → wpAny (model X.prog X.w) X.A (isTrue e X.env whole) (TP X pins σ Q) X.xe s
theorem PW.pt {X : Cx} {e : Expr} {t : TT} (h : PW X e t) : PT X e t := h _
/-- an argument list (no star), from the left -/
def PA (X : Cx) (es : List Expr) (t : TA) : Prop :=
  ∀ (pos : Pos) (pins : List (Addr × Obj)) (s : Shared) (σ : St) (H : Hp) (Q : List V → Hp → Prop), Inv X pins σ H s → t σ H Q → wpAny (model X.prog X.w) X.A (spliced (backTo pos (starEach es X.env))) (AP X pins σ Q) X.xe s
def PS (X : Cx) (st : Stmt) (t : TS) : Prop :=
  ∀ (pins : List (Addr × Obj)) (s : Shared) (σ : St) (H : Hp) (D : Ends), Inv X pins σ H s → t D σ H → wpAny (model X.prog X.w) X.A (exec st X.env) (SP X pins D) X.xe s
def PSs (X : Cx) (st : List Stmt) (t : TS) : Prop :=
  ∀ (pins : List (Addr × Obj)) (s : Shared) (σ : St) (H : Hp) (D : Ends), Inv X pins σ H s → t D σ H → wpAny (model X.prog X.w) X.A (execs st X.env) (SP X pins D) X.xe s
/-- weaken the end -/
theorem thn {α : Type} {t : Sem α} {Q Q' : α → Shared → Prop} {M : Model} {A : Around} {E : Value → Shared → Prop} {s : Shared} (h : wpAny M A t Q E s) (hQ : ∀ a s, Q a s → Q' a s) : wpAny M A t Q' E s := wpAny_mono h hQ fun _ _ x => x
end L2

namespace L2
open PySem PySem.Spec PyProof.Rows
section
variable {X : Cx}

/-! ### names and constants -/
def tVar (i : Nat) : TE := fun σ H Q => ∃ v, σ[i]? = some (some v) ∧ Q v H
def tC (v : V) : TE := fun _ H Q => Q v H
theorem pe_var {i : Nat} {x : Str} {pos : Pos} (hN : X.N[i]? = some x) (hv : Vis X.env.scope x) (hd : (x == ("__debug__" : Str)) = false := by decide) (hcd : (x == ("__classdict__" : Str)) = false := by decide) : PE X (.Name x pos) (tVar i) := by
  intro pins s σ H Q I h
  obtain ⟨v, e, h⟩ := h
  obtain ⟨m, hn, hl⟩ := I.loc
  obtain ⟨u, r, l⟩ := hl i x v hN e hv
  have fin : EP X pins σ Q u s := ⟨v, H, I, r, h⟩
  rcases l with ⟨hk, hm⟩ | ⟨hk, c, hc, hcell⟩
  · exact wpAny_Name (wpAny_loadName_local I.ok.kind hk hn hm fin) hd
  · rcases hk with hk | hk
    · exact wpAny_Name (wpAny_loadName_cell I.ok.kind hk hc hcell fin) hd
    · exact wpAny_Name (wpAny_loadName_free I.ok.kind hk hc hcell fin hcd) hd
theorem pe_int {i j pos} : PE X (.Constant (.int i) j pos) (tC (.int i)) := fun _ _ _ H _ I h => wpAny_Constant_int ⟨.int i, H, I.tok _, ⟨_, rfl⟩, h⟩
theorem pe_bl {b j pos} : PE X (.Constant (.bool b) j pos) (tC (.bl b)) := fun _ _ _ H _ I h => Constant_bool ⟨.bl b, H, I, rfl, h⟩
theorem pe_non {j pos} : PE X (.Constant .none j pos) (tC .non) := fun _ _ _ H _ I h => Constant_none ⟨.non, H, I, rfl, h⟩
theorem pe_str {x j pos} : PE X (.Constant (.str x) j pos) (tC (.str x)) := fun _ _ _ H _ I h => Calls.Constant_str ⟨.str x, H, I.tok _, ⟨_, rfl⟩, h⟩

/-- a global name of the def -/
def Gl (X : Cx) (x : Str) : Prop := X.env.kindOf x = some .globalImplicit
theorem ld_glob {E : Value → Shared → Prop} {pins : List (Addr × Obj)} {s : Shared} {σ : St} {H : Hp} {x : Str} {u : Value} {pos : Pos} {Q : Value → Shared → Prop} (I : Inv X pins σ H s) (hg : Gl X x) (hm : X.mg x = some u) (h : Q u s)
    (hd : (x == ("__debug__" : Str)) = false := by decide) : wpAny (model X.prog X.w) X.A (eval (.Name x pos) X.env) Q E s :=
  Calls.Name_function_global I.ok.kind hg (Calls.loadGlobal_global (by rw [I.ok.glob]; exact I.mod.glob.keeps I.bk) hm h) hd
theorem ld_blt {E : Value → Shared → Prop} {pins : List (Addr × Obj)} {s : Shared} {σ : St} {H : Hp} {x : Str} {u : Value} {pos : Pos} {Q : Value → Shared → Prop} (I : Inv X pins σ H s) (hg : Gl X x) (hm : X.mg x = none) (hv : bootBuiltins x = some u) (h : Q u s)
    (hn : x ≠ "__name__" := by decide) (hd : (x == ("__debug__" : Str)) = false := by decide) : wpAny (model X.prog X.w) X.A (eval (.Name x pos) X.env) Q E s := by
  obtain ⟨mb, h1, h2⟩ := I.mod.blt
  exact Calls.Name_function_global I.ok.kind hg (Calls.loadGlobal_builtin (by rw [I.ok.glob]; exact I.mod.glob.keeps I.bk) hm (by rw [I.ok.blt]; exact h1.keeps I.bk) ((h2 x hn).trans hv) h) hd
/-- a module's constant, a class, a function, as a value -/
theorem pe_glob {x : Str} {v : V} {u : Value} {pos : Pos} (hg : Gl X x) (hm : X.mg x = some u) (r : RelV v u) (hd : (x == ("__debug__" : Str)) = false := by decide) : PE X (.Name x pos) (tC v) :=
  fun _ _ _ H _ I h => ld_glob I hg hm ⟨v, H, I, r, h⟩ hd
theorem pe_bltn {x : Str} {v : V} {u : Value} {pos : Pos} (hg : Gl X x) (hm : X.mg x = none) (hv : bootBuiltins x = some u) (r : RelV v u) (hn : x ≠ "__name__" := by decide) (hd : (x == ("__debug__" : Str)) = false := by decide) : PE X (.Name x pos) (tC v) :=
  fun _ _ _ H _ I h => ld_blt I hg hm hv ⟨v, H, I, r, h⟩ hn hd

/-! ### arithmetic -/
variable {a b : Expr} {ta tb : TE} {pos : Pos}
/-! ### comparisons -/
/-- a comparison as a value, as a test -/
def tB (t : TE) : TT := fun σ H Q => t σ H fun x H1 => ∃ c, x = .bl c ∧ Q c H1
/-- an expression whose value is a bool, as a test -/
theorem pt_val {e : Expr} {t : TE} (h : PE X e t) (he : ∀ whole, isTrue e X.env whole = (do let v ← whole; standAt e.pos; holding [v] (truthy v)) := by intro _; rfl) : PT X e (tB t) := by
  intro pins s σ H Q I hw
  refine isTrue_plain (thn (h pins s σ H _ I hw) fun v s1 ⟨x, H1, I1, r1, q1⟩ => ?_) (he _)
  obtain ⟨d, rfl, q⟩ := q1
  cases r1
  exact wpAny_truthy_bool ⟨H1, I1, q⟩

/-! ### and, or, not -/
variable {tA tB' : TT} {rest : List Expr}
def tOr (t u : TT) : TT := fun σ H Q => t σ H fun c H1 => if c = true then Q true H1 else u σ H1 Q
def tNot (t : TT) : TT := fun σ H Q => t σ H fun c H1 => Q (!c) H1
theorem pw_or1 (ha : PT X a tA) : PW X (.BoolOp .Or [a] pos) tA := by
  intro wh pins s σ H Q I h
  refine isTrue_or (thn (ha pins s σ H Q I h) fun c s1 e => ?_)
  cases c with
  | false => exact isTrue_or_nil e
  | true => exact e
theorem pw_or (ha : PT X a tA) (hb : PW X (.BoolOp .Or (b :: rest) pos) tB') : PW X (.BoolOp .Or (a :: b :: rest) pos) (tOr tA tB') := by
  intro wh pins s σ H Q I h
  refine isTrue_or (thn (ha pins s σ H _ I h) fun c s1 ⟨H1, I1, q1⟩ => ?_)
  cases c with
  | true => exact ⟨H1, I1, q1⟩
  | false => exact hb wh pins s1 σ H1 Q I1 q1
theorem pt_not (ha : PT X a tA) : PT X (.UnaryOp .Not a pos) (tNot tA) := by
  intro pins s σ H Q I h
  exact isTrue_not (ha pins s σ H (fun c H1 => Q (!c) H1) I h)
/-- .. as values (bools) -/
def tAndV (ta tb : TE) : TE := fun σ H Q => ta σ H fun x H1 => ∃ c, x = .bl c ∧ if c = true then tb σ H1 Q else Q (.bl false) H1
def tNotV (ta : TE) : TE := fun σ H Q => ta σ H fun x H1 => ∃ c, x = .bl c ∧ Q (.bl (!c)) H1
theorem pe_one {op} {t : TE} (h : PE X a t) : PE X (.BoolOp op [a] pos) t := fun pins s σ H Q I hw => BoolOp_one (h pins s σ H Q I hw)
theorem pe_and (ha : PE X a ta) (hb : PE X (.BoolOp .And (b :: rest) pos) tb) : PE X (.BoolOp .And (a :: b :: rest) pos) (tAndV ta tb) := by
  intro pins s σ H Q I h
  refine BoolOp_and (thn (ha pins s σ H _ I h) fun v s1 ⟨x, H1, I1, r1, q1⟩ => ?_)
  obtain ⟨c, rfl, q1⟩ := q1
  cases r1
  refine wpAny_truthy_bool ?_
  cases c with
  | true => exact hb pins s1 σ H1 Q I1 q1
  | false => exact ⟨.bl false, H1, I1, rfl, q1⟩
theorem pe_not (ha : PE X a ta) : PE X (.UnaryOp .Not a pos) (tNotV ta) := by
  intro pins s σ H Q I h
  refine UnaryOp_ (thn (ha pins s σ H _ I h) fun v s1 ⟨x, H1, I1, r1, q1⟩ => ?_)
  obtain ⟨c, rfl, q1⟩ := q1
  cases r1
  exact not_of (wpAny_truthy_bool ⟨.bl (!c), H1, I1, rfl, q1⟩)
/-- a if t else b -/
def tIf (t : TT) (ta tb : TE) : TE := fun σ H Q => t σ H fun c H1 => if c = true then ta σ H1 Q else tb σ H1 Q
theorem pe_ifExp {c : Expr} (hc : PT X c tA) (ha : PE X a ta) (hb : PE X b tb) : PE X (.IfExp c a b pos) (tIf tA ta tb) := by
  intro pins s σ H Q I h
  refine wpAny_IfExp (thn (hc pins s σ H _ I h) fun d s1 ⟨H1, I1, q1⟩ => ?_)
  cases d with
  | true => exact ha pins s1 σ H1 Q I1 q1
  | false => exact hb pins s1 σ H1 Q I1 q1
end
end L2

namespace L2
open PySem PySem.Spec PyProof.Rows

/-! ### a list, a tuple that is read: tracked, frozen, or an object of the module -/
def SqL (K : PySem.W.Frag) (H : Hp) (a : Addr) (xs : List V) : Prop :=
  Rd H a (.lst xs) ∨
    ∃ (o : Obj) (its : Array Value) (n : Nat), K.lookup a = some o ∧ o.cls = .type "list" ∧ o.dict = none ∧ o.data = .seq its n ∧ its.size ≤ sizeLine ∧ Vals xs its.toList
def SqT (K : PySem.W.Frag) (H : Hp) (a : Addr) (xs : List V) : Prop :=
  Rd H a (.tup xs) ∨
    ∃ (o : Obj) (its : Array Value) (n : Nat), K.lookup a = some o ∧ o.cls = .type "tuple" ∧ o.data = .seq its n ∧ its.size ≤ sizeLine ∧ Vals xs its.toList
def absV : Value → Option V
  | .none => some .non
  | .bool b => some (.bl b)
  | .int i _ => some (.int i)
  | .str x _ => some (.str x)
  | .bytes b _ => some (.byt b)
  | .float b _ => some (.flt b)
  | .ref a => some (.ref a)
  | .type n => some (.ty n)
  | _ => none
theorem RelV.abs {x : V} {u : Value} (r : RelV x u) : absV u = some x := by
  cases x with
  | non => cases r; rfl
  | bl _ => cases r; rfl
  | int _ => obtain ⟨t, rfl⟩ := r; rfl
  | str _ => obtain ⟨t, rfl⟩ := r; rfl
  | byt _ => obtain ⟨t, rfl⟩ := r; rfl
  | flt _ => obtain ⟨t, rfl⟩ := r; rfl
  | ref _ => cases r; rfl
  | ty _ => cases r; rfl
theorem RelV.inj {x y : V} {u : Value} (r : RelV x u) (q : RelV y u) : x = y := Option.some.inj (r.abs.symm.trans q.abs)
theorem Vals.inj : ∀ {xs ys : List V} {us : List Value}, Vals xs us → Vals ys us → xs = ys
  | _, _, _, .nil, .nil => rfl
  | _, _, _, .cons r t, .cons r' t' => by rw [r.inj r', Vals.inj t t']
section
variable {X : Cx} {pins : List (Addr × Obj)} {σ : St} {H : Hp} {s : Shared} {a : Addr} {xs ys : List V}
theorem SqL.of {K : PySem.W.Frag} (h : H a = some (.lst xs)) : SqL K H a xs := .inl (.inl h)
theorem SqT.of {K : PySem.W.Frag} (h : H a = some (.tup xs)) : SqT K H a xs := .inl (.inl h)
theorem Inv.list (I : Inv X pins σ H s) (h : SqL X.K H a xs) : ∃ its : List Value, Vals xs its ∧ PlainL s.heap a its.toArray ∧ xs.length ≤ sizeLine := by
  rcases h with h | ⟨o, its, n, hk, hc, hd, hs, hz, r⟩
  · obtain ⟨z, its, n, r, e⟩ := h.ok I.hok
    exact ⟨its, r, ⟨_, n, e, rfl, rfl, rfl⟩, z⟩
  · refine ⟨its.toList, r, ⟨o, n, I.kIn a o hk, hc, hd, by simpa using hs⟩, ?_⟩
    have e := r.length
    simp only [Array.length_toList] at e
    omega
theorem Inv.tuple (I : Inv X pins σ H s) (h : SqT X.K H a xs) : ∃ its : List Value, Vals xs its ∧ IsTup s.heap a its.toArray ∧ xs.length ≤ sizeLine := by
  rcases h with h | ⟨o, its, n, hk, hc, hs, hz, r⟩
  · obtain ⟨z, its, r, p⟩ := h.ok I.hok
    exact ⟨its, r, p.tup, z⟩
  · refine ⟨its.toList, r, ⟨o, I.kIn a o hk, hc, n, by simpa using hs⟩, ?_⟩
    have e := r.length
    simp only [Array.length_toList] at e
    omega
theorem Inv.list_inj (I : Inv X pins σ H s) (h : SqL X.K H a xs) (h' : SqL X.K H a ys) : xs = ys := by
  obtain ⟨its, r, ⟨o, n, e, _, _, d⟩, _⟩ := I.list h
  obtain ⟨its', r', ⟨o', n', e', _, _, d'⟩, _⟩ := I.list h'
  rw [e] at e'; cases e'
  rw [d] at d'
  injection d' with d1 _
  have : its = its' := by simpa using congrArg Array.toList d1
  subst this
  exact r.inj r'
theorem Inv.tuple_inj (I : Inv X pins σ H s) (h : SqT X.K H a xs) (h' : SqT X.K H a ys) : xs = ys := by
  obtain ⟨its, r, ⟨o, e, _, n, d⟩, _⟩ := I.tuple h
  obtain ⟨its', r', ⟨o', e', _, n', d'⟩, _⟩ := I.tuple h'
  rw [e] at e'; cases e'
  rw [d] at d'
  injection d' with d1 _
  have : its = its' := by simpa using congrArg Array.toList d1
  subst this
  exact r.inj r'
end

/-! ### another wish about exceptions -/
abbrev Cx.wish (X : Cx) (E : Value → Shared → Prop) : Cx := { X with xe := E }
/-- no exception leaves -/
abbrev Cx.nox (X : Cx) : Cx := X.wish fun _ _ => False
theorem Cx.Ok.wish {X : Cx} (ok : X.Ok) (E : Value → Shared → Prop) : (X.wish E).Ok :=
  ⟨ok.mod, ok.kind, ok.glob, ok.blt, ok.above, ok.inj, ok.has, ok.cab, ok.hd, ok.frames, ok.stk, ok.exf, ok.bs, ok.bsz, ok.noex, ok.exfs, ok.funs, ok.frf⟩
theorem Cx.Ok.unwish {X : Cx} {E : Value → Shared → Prop} (ok : (X.wish E).Ok) : X.Ok :=
  ⟨ok.mod, ok.kind, ok.glob, ok.blt, ok.above, ok.inj, ok.has, ok.cab, ok.hd, ok.frames, ok.stk, ok.exf, ok.bs, ok.bsz, ok.noex, ok.exfs, ok.funs, ok.frf⟩
section
variable {X : Cx} {pins : List (Addr × Obj)} {σ : St} {H : Hp} {s : Shared} {E : Value → Shared → Prop}
theorem Inv.wish (I : Inv X pins σ H s) (E : Value → Shared → Prop) : Inv (X.wish E) pins σ H s := ⟨I.ok.wish E, I.os, I.bare, I.base, I.loc, I.cell, I.free, I.freeC, I.pin, I.hok, I.len⟩
theorem Inv.unwish (I : Inv (X.wish E) pins σ H s) : Inv X pins σ H s := ⟨I.ok.unwish, I.os, I.bare, I.base, I.loc, I.cell, I.free, I.freeC, I.pin, I.hok, I.len⟩
theorem SP.unwish {D : Ends} {f : Flow} {s' : Shared} (h : SP (X.wish E) pins D f s') : SP X pins D f s' := by
  cases f with
  | next => obtain ⟨σ', H', I, q⟩ := h; exact ⟨σ', H', I.unwish, q⟩
  | brk => obtain ⟨σ', H', I, q⟩ := h; exact ⟨σ', H', I.unwish, q⟩
  | cont => obtain ⟨σ', H', I, q⟩ := h; exact ⟨σ', H', I.unwish, q⟩
  | ret u => obtain ⟨v, σ', H', I, r, q⟩ := h; exact ⟨v, σ', H', I.unwish, r, q⟩
theorem PSs.nox {st : List Stmt} {t : TS} (h : PSs X.nox st t) : PSs X st t := fun pins s σ H D I hw =>
  wpAny_mono (h pins s σ H D (I.wish _) hw) (fun _ _ q => q.unwish) fun _ _ z => False.elim z
end

/-! ### blocks and small statements -/
section
variable {X : Cx} {st : Stmt} {rest : List Stmt} {t u : TS} {e : Expr} {te : TE} {pos : Pos}
def tNext : TS := fun D σ H => D.nx σ H
def tSeq (t u : TS) : TS := fun D σ H => t { D with nx := u D } σ H
theorem pss_nil : PSs X [] tNext := fun _ _ σ H _ I h => wpAny_execs_nil ⟨σ, H, I, h⟩
theorem pss_cons (h1 : PS X st t) (h2 : PSs X rest u) : PSs X (st :: rest) (tSeq t u) := by
  intro pins s σ H D I h
  refine wpAny_execs_cons (thn (h1 pins s σ H { D with nx := u D } I h) fun f s1 q => ?_)
  cases f with
  | next =>
    obtain ⟨σ', H', I', q⟩ := q
    exact h2 pins s1 σ' H' D I' q
  | ret v => exact q
  | brk => exact q
  | cont => exact q
theorem pss_one (h1 : PS X st t) : PSs X [st] t := by
  intro pins s σ H D I h
  refine wpAny_execs_cons (thn (h1 pins s σ H D I h) fun f s1 q => ?_)
  cases f with
  | next => exact wpAny_execs_nil q
  | ret v => exact q
  | brk => exact q
  | cont => exact q
/-- in a def's body nothing is shown -/
theorem Inv.quiet {pins : List (Addr × Obj)} {σ : St} {H : Hp} {s : Shared} (I : Inv X pins σ H s) : interactive X.env = false := by simp [interactive, I.ok.kind]
/-- an expression whose value is dropped -/
def tDrop (te : TE) : TS := fun D σ H => te σ H fun _ H1 => D.nx σ H1
theorem ps_expr (he : PE X e te) (hs : swapsWith e none pos.line X.env = pure false := by rfl) : PS X (.Expr e pos) (tDrop te) := by
  intro pins s σ H D I h
  exact wpAny_Expr_any (thn (he pins s σ H _ I h) fun v s1 ⟨x, H1, I1, r1, q1⟩ => ⟨σ, H1, I1, q1⟩) I.quiet hs
def tRet (te : TE) : TS := fun D σ H => te σ H D.rt
theorem ps_ret (he : PE X e te) : PS X (.Return (some e) pos) (tRet te) := by
  intro pins s σ H D I h
  exact wpAny_Return_some (thn (he pins s σ H _ I h) fun v s1 ⟨x, H1, I1, r1, q1⟩ => ⟨x, σ, H1, I1, r1, q1⟩)
def tIfS (c : TT) (t u : TS) : TS := fun D σ H => c σ H fun b H1 => if b = true then t D σ H1 else u D σ H1
theorem ps_if {c : Expr} {a b : List Stmt} {tc : TT} (hc : PT X c tc) (ha : PSs X a t) (hb : PSs X b u) : PS X (.If c a b pos) (tIfS tc t u) := by
  intro pins s σ H D I h
  refine wpAny_If (thn (hc pins s σ H _ I h) fun d s1 ⟨H1, I1, q1⟩ => ?_)
  cases d with
  | true => exact ha pins s1 σ H1 D I1 q1
  | false => exact hb pins s1 σ H1 D I1 q1
/-- code that the proof never comes to -/
def tNever : TS := fun _ _ _ => False
theorem pss_never {sts : List Stmt} : PSs X sts tNever := fun _ _ _ _ _ _ h => h.elim
end

/-! ### targets -/
abbrev TG := V → St → Hp → (St → Hp → Prop) → Prop
abbrev TGs := List V → St → Hp → (St → Hp → Prop) → Prop
def PG (X : Cx) (target : Expr) (t : TG) : Prop :=
  ∀ (pins : List (Addr × Obj)) (s : Shared) (σ : St) (H : Hp) (v : V) (u : Value) (Q : St → Hp → Prop), Inv X pins σ H s → RelV v u → t v σ H Q →
    wpAny (model X.prog X.w) X.A (assign target X.env u) (fun _ s' => ∃ σ' H', Inv X pins σ' H' s' ∧ Q σ' H') X.xe s
/-- several targets, one after another -/
def PGs (X : Cx) (ts : List Expr) (t : TGs) : Prop :=
  ∀ (pins : List (Addr × Obj)) (s : Shared) (σ : St) (H : Hp) (vs : List V) (us : List Value) (Q : St → Hp → Prop), Inv X pins σ H s → Vals vs us → t vs σ H Q →
    wpAny (model X.prog X.w) X.A (assignInOrder ((assignEach ts X.env).map (·.2)) us) (fun _ s' => ∃ σ' H', Inv X pins σ' H' s' ∧ Q σ' H') X.xe s
/-- o[i] = v, by values -/
abbrev TSet := V → V → V → Hp → (Hp → Prop) → Prop
def PSet (X : Cx) (t : TSet) : Prop :=
  ∀ (pins : List (Addr × Obj)) (s : Shared) (σ : St) (H : Hp) (o i v : V) (ov iv u : Value) (Q : Hp → Prop), Inv X pins σ H s → RelV o ov → RelV i iv → RelV v u → t o i v H Q →
    wpAny (model X.prog X.w) X.A (setItem ov iv u) (fun _ s' => ∃ H', Inv X pins σ H' s' ∧ Q H') X.xe s
section
variable {X : Cx} {pos : Pos}
def gName (i : Nat) : TG := fun v σ H Q => Q (σ.set i (some v)) H
theorem pg_name {i : Nat} {x : Str} (hN : X.N.Nodup) (hi : X.N[i]? = some x) (hx : Loc X.env.scope x) (hf : X.fn x = true ∨ X.env.scope.names.lookup x = some .local := by first | exact .inl rfl | exact .inr rfl | assumption) : PG X (.Name x pos) (gName i) := by
  intro pins s σ H v u Q I r h
  exact wpAny_assign_Name (store_ok I hN hi hx r (fun s' I' => ⟨_, H, I', h⟩) hf)
def gNil : TGs := fun vs σ H Q => vs = [] ∧ Q σ H
def gCons (t : TG) (u : TGs) : TGs := fun vs σ H Q => ∃ v r, vs = v :: r ∧ t v σ H fun σ' H' => u r σ' H' Q
theorem pgs_nil : PGs X [] gNil := by
  intro pins s σ H vs us Q I r h
  obtain ⟨e, h⟩ := h
  subst e
  cases r
  exact assignInOrder_nil ⟨σ, H, I, h⟩
theorem pgs_cons {e : Expr} {es : List Expr} {t : TG} {u : TGs} (h1 : PG X e t) (h2 : PGs X es u)
    (hs : (assignEach (e :: es) X.env).map (·.2) = assign e X.env :: (assignEach es X.env).map (·.2) := by rfl) : PGs X (e :: es) (gCons t u) := by
  intro pins s σ H vs us Q I r h
  obtain ⟨v, vr, e1, h⟩ := h
  subst e1
  cases r with
  | cons r rr =>
    rw [hs]
    refine assignInOrder_cons (thn (h1 pins s σ H _ _ _ I r h) fun _ s1 ⟨σ1, H1, I1, q1⟩ => ?_)
    exact h2 pins s1 σ1 H1 _ _ Q I1 rr q1
/-- (a, b, ..) = a tuple of that length -/
def gTup (K : PySem.W.Frag) (n : Nat) (t : TGs) : TG := fun v σ H Q => ∃ a xs, v = .ref a ∧ SqT K H a xs ∧ xs.length = n ∧ t xs σ H Q
theorem pg_tup {es : List Expr} {k : Nat} {t : TGs} {n : Nat} (hc : X.calm = true) (h : PGs X es t)
    (hn : (assignEach es X.env).length = n := by rfl) (hst : (assignEach es X.env).findIdx? (·.1) = none := by rfl) : PG X (.Tuple es k pos) (gTup X.K n t) := by
  intro pins s σ H v u Q I r hw
  obtain ⟨a, xs, e1, hq, hl, hw⟩ := hw
  subst e1
  cases r
  obtain ⟨its, rv, ht, hz⟩ := I.tuple hq
  refine assign_Tuple_tuple (I.ok.hd hc) ht (by simp [hn, ← hl, rv.length]) hst fun h' hx => ?_
  have I1 : Inv X pins σ H { s with heap := h' } := I.kept (t' := s.toks) fun b o e => hx b o (Nat.ne_of_lt (Heap.lt_size e)) e
  exact h pins _ σ H xs _ Q I1 (by simpa using rv) hw
/-- o[i] = .. -/
def gSub (to ti : TE) (t : TSet) : TG := fun v σ H Q => to σ H fun o H1 => ti σ H1 fun i H2 => t o i v H2 fun H3 => Q σ H3
theorem pg_sub {o i : Expr} {to ti : TE} {t : TSet} (ho : PE X o to) (hi : PE X i ti) (hs : PSet X t)
    (ha : ∀ v, assign (.Subscript o i pos) X.env v = (do
      let ov ← holding [v] (eval o X.env)
      let iv ← holding [v, ov] (eval i X.env)
      standAt pos
      holding [v, ov, iv] (setItem ov iv v)
      release [v, ov, iv] []) := by intro _; rfl) : PG X (.Subscript o i pos) (gSub to ti t) := by
  intro pins s σ H v u Q I r h
  rw [ha]
  refine wpAny_bind (wpAny_holding (thn (ho pins s σ H _ I h) fun ov s1 ⟨x, H1, I1, r1, q1⟩ => ?_))
  refine wpAny_bind (wpAny_holding (thn (hi pins s1 σ H1 _ I1 q1) fun iv s2 ⟨y, H2, I2, r2, q2⟩ => ?_))
  refine wpAny_bind (wpAny_standAt (wpAny_bind (wpAny_holding (thn (hs pins s2 σ H2 x y v ov iv u _ I2 r1 r2 r q2) fun _ s3 ⟨H3, I3, q3⟩ => ?_))))
  exact wpAny_release ⟨σ, H3, I3, q3⟩
/-- target = value -/
def tAsg (te : TE) (g : TG) : TS := fun D σ H => te σ H fun x H1 => g x σ H1 D.nx
theorem ps_asg {tg e : Expr} {te : TE} {g : TG} (he : PE X e te) (hg : PG X tg g) (hs : swapsWithSole [tg] e pos.line X.env = pure false := by rfl) (hw : swappedStores [tg] e X.env = pure none := by rfl)
    (h1 : (assignEach [tg] X.env).map (·.2) = [assign tg X.env] := by rfl) : PS X (.Assign [tg] e pos) (tAsg te g) := by
  intro pins s σ H D I h
  refine wpAny_Assign_stores (thn (he pins s σ H _ I h) fun v s1 ⟨x, H1, I1, r1, q1⟩ => ?_) hs hw
  rw [h1]
  exact thn (hg pins s1 σ H1 x v _ I1 r1 q1) fun _ s2 q => q
/-- name = value -/
theorem ps_set {i : Nat} {x : Str} {e : Expr} {te : TE} {pos' : Pos} (hN : X.N.Nodup) (hi : X.N[i]? = some x) (hx : Loc X.env.scope x) (he : PE X e te) (hs : swapsWith e (some (.Name x pos')) pos.line X.env = pure false := by rfl) (hf : X.fn x = true ∨ X.env.scope.names.lookup x = some .local := by first | exact .inl rfl | exact .inr rfl | assumption) :
    PS X (.Assign [.Name x pos'] e pos) (tAsg te (gName i)) := by
  intro pins s σ H D I h
  refine wpAny_Assign_Name (thn (he pins s σ H _ I h) fun v s1 ⟨y, H1, I1, r1, q1⟩ => ?_) hs
  exact store_ok I1 hN hi hx r1 (fun s2 I2 => ⟨_, H1, I2, q1⟩) hf
end

/-! ### while -/
section
variable {X : Cx} {pos : Pos}
/-- the invariant W with its measure -/
def tWhile (c : TT) (tb : TS) : TS := fun D σ H => ∃ W : Nat → St → Hp → Prop, (∃ m, W m σ H) ∧ ∀ m σ H, W m σ H →
  c σ H fun b H1 => if b = true then ∃ N : St → Hp → Prop, (∀ σ' H', N σ' H' → ∃ m', m' < m ∧ W m' σ' H') ∧ tb { D with nx := N, ct := N, bk := D.nx } σ H1 else D.nx σ H1
theorem ps_while {c : Expr} {body : List Stmt} {tc : TT} {tb : TS} (hp : PassesOwn (model X.prog X.w) X.A X.env X.xe) (hc : PT X c tc) (hb : PSs X body tb) : PS X (.While c body [] pos) (tWhile tc tb) := by
  intro pins s σ H D I h
  obtain ⟨W, ⟨m0, w0⟩, turn⟩ := h
  refine wpAny_While (codeAny_whileLoop (fun n s' => ∃ σ' H', Inv X pins σ' H' s' ∧ W n σ' H') ?_ m0 ⟨σ, H, I, w0⟩)
  rintro n s1 ⟨σ1, H1, I1, w1⟩
  refine wpAny_passesOwn hp (thn (hc pins s1 σ1 H1 _ I1 (turn n σ1 H1 w1)) fun b s2 ⟨H2, I2, q2⟩ => ?_)
  cases b with
  | true =>
    obtain ⟨N, hN, q2⟩ := q2
    rw [if_pos rfl]
    refine wpAny_passesOwn hp (thn (hb pins s2 σ1 H2 _ I2 q2) fun f s3 q3 => ?_)
    cases f with
    | next =>
      obtain ⟨σ3, H3, I3, n3⟩ := q3
      obtain ⟨m', hm, w3⟩ := hN σ3 H3 n3
      exact ⟨m', hm, σ3, H3, I3, w3⟩
    | cont =>
      obtain ⟨σ3, H3, I3, n3⟩ := q3
      obtain ⟨m', hm, w3⟩ := hN σ3 H3 n3
      exact ⟨m', hm, σ3, H3, I3, w3⟩
    | brk => exact q3
    | ret v => exact q3
  | false =>
    rw [if_neg Bool.false_ne_true]
    exact wpAny_execs_nil ⟨σ1, H2, I2, q2⟩
end

/-! ### what a loop or a comprehension walks -/
/-- at turn i: it yields x (the heap may grow), or it stops -/
structure It where
  go : Nat → Hp → Prop
  yld : Nat → Hp → V → Hp → Prop
  stop : Nat → Hp → Prop
/-- the iterator's own objects may turn: they are not the frame's, not pinned, younger than the entry (or a comprehension's own) -/
def FpOk (X : Cx) (pins : List (Addr × Obj)) (H : Hp) (b : Addr) : Prop :=
  H b = none ∧ b ≠ X.env.locals ∧ b ∉ X.fs ∧ (b ∈ X.ex ∨ X.s₀.heap.objs.size ≤ b) ∧ (∀ x c, X.env.cells.lookup x = some c → c ≠ b) ∧ ∀ p ∈ X.pn ++ pins, p.1 ≠ b
theorem Inv.fpOk {X : Cx} {pins : List (Addr × Obj)} {σ : St} {H H' : Hp} {s : Shared} {b : Addr} (I : Inv X pins σ H s) (hb : s.heap.objs.size ≤ b) (hn : H' b = none) : FpOk X pins H' b := by
  refine ⟨hn, Nat.ne_of_gt (Nat.lt_of_lt_of_le I.lt hb), I.nofs hb, .inr (Nat.le_trans I.sz hb), fun x c e z => ?_, fun p hp z => ?_⟩
  · obtain ⟨v, q⟩ := I.cell x c e
    exact absurd (Nat.lt_of_lt_of_le q.lt (by rw [z]; exact hb)) (Nat.lt_irrefl _)
  · exact absurd (Nat.lt_of_lt_of_le (Heap.lt_size (I.pin p hp).1) (by rw [z]; exact hb)) (Nat.lt_irrefl _)
structure Turn (P : Program) (w : World) (K : PySem.W.Frag) (tg : Expr) (J : It) (fp : List Addr) (it : Addr) (tn : Nat → Heap → Prop) : Prop where
  mem : it ∈ fp
  obj : ∀ i h, tn i h → ∀ b ∈ fp, ∃ o, h.get? b = some o ∧ ∀ v, o.data ≠ .cell v
  keep : ∀ i h h', tn i h → (∀ b ∈ fp, ∀ o, h.get? b = some o → h'.get? b = some o) → tn i h'
  item : ∀ (X : Cx), X.prog = P → X.w = w → X.K = K → X.calm = true → ∀ (i : Nat) (pins : List (Addr × Obj)) (s : Shared) (σ : St) (H : Hp) (E : Value → Shared → Prop), Inv X pins σ H s → (∀ b ∈ fp, FpOk X pins H b) → tn i s.heap → J.go i H →
    wpAny (model P w) X.A (pyNext (.ref it)) (fun r s1 => ∃ u, r = some u ∧
      wpAny (model P w) X.A (letOwnedTupleGo tg (.ref it) u) (fun _ s2 => ∃ x H', Inv X pins σ H' s2 ∧ RelV x u ∧ J.yld i H x H' ∧ tn (i + 1) s2.heap ∧ ∀ b ∈ fp, H' b = none) E s1) E s
  done : ∀ (X : Cx), X.prog = P → X.w = w → X.K = K → X.calm = true → ∀ (i : Nat) (pins : List (Addr × Obj)) (s : Shared) (σ : St) (H : Hp) (E : Value → Shared → Prop), Inv X pins σ H s → (∀ b ∈ fp, FpOk X pins H b) → tn i s.heap → J.stop i H →
    wpAny (model P w) X.A (pyNext (.ref it)) (fun r s1 => r = none ∧ Inv X pins σ H s1) E s
  self : ∀ (A : Around) (i : Nat) (s : Shared) (Q : Value → Shared → Prop) (E : Value → Shared → Prop), tn i s.heap → Q (.ref it) s → wpAny (model P w) A (pyIter (.ref it)) Q E s
abbrev TI := St → Hp → (It → Hp → Prop) → Prop
/-- an iterator has come -/
def PIE (X : Cx) (pins : List (Addr × Obj)) (σ : St) (tg : Expr) (R : It → Hp → Prop) (itv : Value) (s2 : Shared) : Prop :=
  ∃ (it : Addr) (fp : List Addr) (tn : Nat → Heap → Prop) (J : It) (H' : Hp), itv = .ref it ∧ Inv X pins σ H' s2 ∧ Turn X.prog X.w X.K tg J fp it tn ∧ tn 0 s2.heap ∧ (∀ b ∈ fp, FpOk X pins H' b) ∧ R J H'
def PI (X : Cx) (tg iter : Expr) (wi : TI) : Prop :=
  ∀ (pins : List (Addr × Obj)) (s : Shared) (σ : St) (H : Hp) (R : It → Hp → Prop), Inv X pins σ H s → wi σ H R →
    wpAny (model X.prog X.w) X.A (eval iter X.env) (fun v s1 => wpAny (model X.prog X.w) X.A (pyIter v) (PIE X pins σ tg R) X.xe s1) X.xe s

/-- the step ahead of the store is nothing for an iterator that keeps no tuple -/
theorem go_of {M : Model} {A : Around} {E : Value → Shared → Prop} {s : Shared} {tg : Expr} {it : Addr} {u : Value} {o : Obj} {n : String} {vs : Array Value} {Q : Unit → Shared → Prop} (ho : s.heap.get? it = some o) (hc : o.cls = .type n) (hd : o.data = .fields vs)
    (hn : ["enumerate", "zip", "dict_itemiterator", "dict_reverseitemiterator", "odict_iterator", "itertools.zip_longest", "itertools.pairwise"].contains n = false) (hQ : Q () s) : wpAny M A (letOwnedTupleGo tg (.ref it) u) Q E s := by
  unfold letOwnedTupleGo
  cases tg <;> first
    | exact wpAny_pure hQ
    | (cases u <;> first
        | exact wpAny_pure hQ
        | (refine wpAny_bind (wpAny_load ho ?_)
           rw [hc, hd]
           show wpAny M A (if (["enumerate", "zip", "dict_itemiterator", "dict_reverseitemiterator", "odict_iterator", "itertools.zip_longest", "itertools.pairwise"].contains n && vs[0]? == some (rawInt _)) = true then _ else _) Q E s
           rw [if_neg (by intro h; rw [hn, Bool.false_and] at h; cases h)]
           exact wpAny_pure hQ))

/-- the list at a, as it stands at each turn (a loop may append to it) -/
def Itl (K : PySem.W.Frag) (a : Addr) : It :=
  ⟨fun i H => ∃ xs x, SqL K H a xs ∧ xs[i]? = some x, fun i H x H' => H' = H ∧ ∀ xs, SqL K H a xs → xs[i]? = some x, fun i H => ∃ xs, SqL K H a xs ∧ xs.length ≤ i⟩
def Itt (K : PySem.W.Frag) (a : Addr) : It :=
  ⟨fun i H => ∃ xs x, SqT K H a xs ∧ xs[i]? = some x, fun i H x H' => H' = H ∧ ∀ xs, SqT K H a xs → xs[i]? = some x, fun i H => ∃ xs, SqT K H a xs ∧ xs.length ≤ i⟩
/-- lo, lo + 1, .. (n of them) -/
def Itr (lo : Int) (n : Nat) : It := ⟨fun i _ => i < n, fun i H x H' => H' = H ∧ x = .int (lo + i), fun i _ => n ≤ i⟩
theorem turn_list {P : Program} {w : World} {K : PySem.W.Frag} {tg : Expr} (a it : Addr) : Turn P w K tg (Itl K a) [it] it (fun i h => h.IsListIter it a i) where
  mem := by simp
  obj := fun i h st b hb => by
    have e : b = it := by simpa using hb
    subst e
    obtain ⟨o, e, c, d⟩ := st
    exact ⟨o, e, fun v z => by rw [d] at z; cases z⟩
  keep := fun i h h' st k => st.at fun o e => k it (by simp) o e
  item := by
    intro X hP hw hK hc i pins s σ H E I hf st hg
    subst hP hw hK
    obtain ⟨xs, x, hq, hx⟩ := hg
    obtain ⟨its, rv, p, hz⟩ := I.list hq
    obtain ⟨u, hu, ru⟩ := rv.get hx
    obtain ⟨f0, f1, f2, f3, f4, f5⟩ := hf it (by simp)
    refine wpAny_pyNext_list_item st p.isList (x := u) (by simpa using hu) fun h' st' sb => ?_
    have I1 : Inv X pins σ H { s with heap := h' } := I.turned (t' := s.toks) (fun b o hb e => (sb.2 b hb).trans e) f0 f1 f3 f4 f5
    obtain ⟨o, e, c, d⟩ := id st'
    exact ⟨u, rfl, go_of (s := { s with heap := h' }) e c d (by decide) ⟨x, H, I1, ru, ⟨rfl, fun ys hy => by rw [I.list_inj hy hq]; exact hx⟩, st', fun b hb => (hf b hb).1⟩⟩
  done := by
    intro X hP hw hK hc i pins s σ H E I hf st hg
    subst hP hw hK
    obtain ⟨xs, hq, hx⟩ := hg
    obtain ⟨its, rv, p, hz⟩ := I.list hq
    obtain ⟨f0, f1, f2, f3, f4, f5⟩ := hf it (by simp)
    have hl := rv.length
    exact wpAny_pyNext_list_end (I.ok.hd hc) st p.isList (by simp; omega) fun h' eb => ⟨rfl, I.turned (t' := s.toks) (fun b o hb e => eb b o hb e) f0 f1 f3 f4 f5⟩
  self := fun _ _ _ _ _ st h => wpAny_pyIter_listiter st h
theorem turn_tuple {P : Program} {w : World} {K : PySem.W.Frag} {tg : Expr} (a it : Addr) : Turn P w K tg (Itt K a) [it] it (fun i h => h.IsTupleIter it a i) where
  mem := by simp
  obj := fun i h st b hb => by
    have e : b = it := by simpa using hb
    subst e
    obtain ⟨o, e, c, d⟩ := st
    exact ⟨o, e, fun v z => by rw [d] at z; cases z⟩
  keep := fun i h h' st k => st.at fun o e => k it (by simp) o e
  item := by
    intro X hP hw hK hc i pins s σ H E I hf st hg
    subst hP hw hK
    obtain ⟨xs, x, hq, hx⟩ := hg
    obtain ⟨its, rv, p, hz⟩ := I.tuple hq
    obtain ⟨u, hu, ru⟩ := rv.get hx
    obtain ⟨f0, f1, f2, f3, f4, f5⟩ := hf it (by simp)
    refine wpAny_pyNext_tuple_item st (show s.heap.IsTuple a its.toArray from p) (x := u) (by simpa using hu) fun h' st' sb => ?_
    have I1 : Inv X pins σ H { s with heap := h' } := I.turned (t' := s.toks) (fun b o hb e => (sb.2 b hb).trans e) f0 f1 f3 f4 f5
    obtain ⟨o, e, c, d⟩ := id st'
    exact ⟨u, rfl, go_of (s := { s with heap := h' }) e c d (by decide) ⟨x, H, I1, ru, ⟨rfl, fun ys hy => by rw [I.tuple_inj hy hq]; exact hx⟩, st', fun b hb => (hf b hb).1⟩⟩
  done := by
    intro X hP hw hK hc i pins s σ H E I hf st hg
    subst hP hw hK
    obtain ⟨xs, hq, hx⟩ := hg
    obtain ⟨its, rv, p, hz⟩ := I.tuple hq
    obtain ⟨f0, f1, f2, f3, f4, f5⟩ := hf it (by simp)
    have hl := rv.length
    exact wpAny_pyNext_tuple_end (I.ok.hd hc) st (show s.heap.IsTuple a its.toArray from p) (by simp; omega) fun h' eb => ⟨rfl, I.turned (t' := s.toks) (fun b o hb e => eb b o hb e) f0 f1 f3 f4 f5⟩
  self := fun _ _ _ _ _ st h => wpAny_pyIter_tupleiter st h
theorem turn_range {P : Program} {w : World} {K : PySem.W.Frag} {tg : Expr} (it : Addr) (lo : Int) (n : Nat) : Turn P w K tg (Itr lo n) [it] it (fun i h => IsRangeIter h it (lo + (i : Nat) * 1) ((n : Int) - (i : Nat)) 1) where
  mem := by simp
  obj := fun i h st b hb => by
    have e : b = it := by simpa using hb
    subst e
    exact ⟨_, st, fun v z => by
      have z' : Data.fields _ = Data.cell v := z
      cases z'⟩
  keep := fun i h h' st k => k it (by simp) _ st
  item := by
    intro X hP hw hK hc i pins s σ H E I hf st hg
    subst hP hw hK
    obtain ⟨f0, f1, f2, f3, f4, f5⟩ := hf it (by simp)
    have W := Walks.range (prog := X.prog) (w := X.w) (I.ok.hd hc) it lo 1 n
    refine W.item i s _ _ hg st fun v h' tk hv st' kk => ?_
    obtain ⟨t, rfl⟩ := hv
    have I1 : Inv X pins σ H { s with heap := h', toks := tk } := I.turned (fun b o hb e => kk b o (by simpa using hb) e) f0 f1 f3 f4 f5
    refine ⟨_, rfl, go_of (s := { s with heap := h', toks := tk }) (n := "range_iterator") st' rfl rfl (by decide) ⟨.int (lo + i), H, I1, ⟨t, ?_⟩, ⟨rfl, rfl⟩, st', fun b hb => (hf b hb).1⟩⟩
    rw [Int.mul_one]
  done := by
    intro X hP hw hK hc i pins s σ H E I hf st hg
    subst hP hw hK
    obtain ⟨f0, f1, f2, f3, f4, f5⟩ := hf it (by simp)
    exact wpAny_pyNext_range_end (I.ok.hd hc) st (by have : n ≤ i := hg; omega) fun h' eb => ⟨rfl, I.turned (t' := s.toks) (fun b o hb e => eb b o hb e) f0 f1 f3 f4 f5⟩
  self := fun _ _ _ _ _ st h => wpAny_pyIter_rangeiter st h
end L2

namespace L2
open PySem PySem.Spec PyProof.Rows
section
variable {X : Cx} {tg : Expr}
def iList (K : PySem.W.Frag) (tl : TE) : TI := fun σ H R => tl σ H fun x H1 => ∃ a, x = .ref a ∧ (∃ xs, SqL K H1 a xs) ∧ R (Itl K a) H1
def iTup (K : PySem.W.Frag) (tl : TE) : TI := fun σ H R => tl σ H fun x H1 => ∃ a, x = .ref a ∧ (∃ xs, SqT K H1 a xs) ∧ R (Itt K a) H1
theorem pi_list {l : Expr} {tl : TE} (hl : PE X l tl) : PI X tg l (iList X.K tl) := by
  intro pins s σ H R I h
  refine thn (hl pins s σ H _ I h) fun v s1 ⟨x, H1, I1, r1, q1⟩ => ?_
  obtain ⟨a, e, ⟨xs, hq⟩, q⟩ := q1
  subst e
  cases r1
  obtain ⟨its, rv, p, hz⟩ := I1.list hq
  refine wpAny_pyIter_list p.isList ?_
  refine ⟨s1.heap.objs.size, [s1.heap.objs.size], _, _, H1, rfl, I1.kept (t' := s1.toks) fun b o e => Heap.get?_push_of_some _ e, turn_list a _, ⟨_, Heap.get?_push_size _ rfl, rfl, rfl⟩, fun b hb => ?_, q⟩
  have e : b = s1.heap.objs.size := by simpa using hb
  subst e
  exact I1.fpOk (Nat.le_refl _) (I1.hok.fresh (Nat.le_refl _))
theorem pi_tup {l : Expr} {tl : TE} (hl : PE X l tl) : PI X tg l (iTup X.K tl) := by
  intro pins s σ H R I h
  refine thn (hl pins s σ H _ I h) fun v s1 ⟨x, H1, I1, r1, q1⟩ => ?_
  obtain ⟨a, e, ⟨xs, hq⟩, q⟩ := q1
  subst e
  cases r1
  obtain ⟨its, rv, p, hz⟩ := I1.tuple hq
  refine wpAny_pyIter_tuple (show s1.heap.IsTuple a its.toArray from p) ?_
  refine ⟨s1.heap.objs.size, [s1.heap.objs.size], _, _, H1, rfl, I1.kept (t' := s1.toks) fun b o e => Heap.get?_push_of_some _ e, turn_tuple a _, ⟨_, Heap.get?_push_size _ rfl, rfl, rfl⟩, fun b hb => ?_, q⟩
  have e : b = s1.heap.objs.size := by simpa using hb
  subst e
  exact I1.fpOk (Nat.le_refl _) (I1.hok.fresh (Nat.le_refl _))
/-- a range object just made, walked -/
theorem range_it {pins : List (Addr × Obj)} {σ : St} {H : Hp} {s : Shared} {R : It → Hp → Prop} {E : Value → Shared → Prop} {lo hi : Int} {t u v : Tok} {tk : Nat} (I : Inv X pins σ H s) (h1 : -(2 ^ 62) ≤ lo) (h2 : lo < 2 ^ 62) (h3 : -(2 ^ 62) ≤ hi) (h4 : hi < 2 ^ 62)
    (q : R (Itr lo (hi - lo).toNat) H) : wpAny (model X.prog X.w) X.A (pyIter (.ref s.heap.objs.size)) (PIE X pins σ tg R) E { s with heap := s.heap.push { cls := .type "range", data := .fields #[.int lo t, .int hi u, .int 1 v] }, toks := tk } := by
  refine wpAny_pyIter_range (IsRange.new ..) (small_one h1 h2 h3 h4) ?_
  have I1 : Inv X pins σ H { s with heap := s.heap.push { cls := .type "range", data := .fields #[.int lo t, .int hi u, .int 1 v] }, toks := tk } := I.kept fun b o e => Heap.get?_push_of_some _ e
  refine ⟨(s.heap.push { cls := .type "range", data := .fields #[.int lo t, .int hi u, .int 1 v] }).objs.size, [(s.heap.push { cls := .type "range", data := .fields #[.int lo t, .int hi u, .int 1 v] }).objs.size], _, _, H, rfl,
    I1.kept (t' := tk) fun b o e => Heap.get?_push_of_some _ e, turn_range _ lo (hi - lo).toNat, ?_, fun b hb => ?_, q⟩
  · have e1 : lo + ((0 : Nat) : Int) * 1 = lo := by simp
    have e2 : (((hi - lo).toNat : Nat) : Int) - ((0 : Nat) : Int) = Builtin.Range.rangeSize lo hi 1 := by rw [rangeSize_one]; split <;> omega
    show IsRangeIter _ _ (lo + ((0 : Nat) : Int) * 1) ((((hi - lo).toNat : Nat) : Int) - ((0 : Nat) : Int)) 1
    rw [e1, e2]
    exact Heap.get?_push_size _ rfl
  · have e : b = (s.heap.push { cls := .type "range", data := .fields #[.int lo t, .int hi u, .int 1 v] }).objs.size := by simpa using hb
    subst e
    exact I1.fpOk (Nat.le_refl _) (I1.hok.fresh (Nat.le_refl _))
def iRng1 (ta : TA) : TI := fun σ H R => ta σ H fun vs H1 => ∃ j : Int, vs = [.int j] ∧ -(2 ^ 62) ≤ j ∧ j < 2 ^ 62 ∧ R (Itr 0 j.toNat) H1
def iRng2 (ta : TA) : TI := fun σ H R => ta σ H fun vs H1 => ∃ i j : Int, vs = [.int i, .int j] ∧ (-(2 ^ 62) ≤ i ∧ i < 2 ^ 62 ∧ -(2 ^ 62) ≤ j ∧ j < 2 ^ 62) ∧ R (Itr i (j - i).toNat) H1
theorem pi_range1 {a : Expr} {ta : TA} {p pos : Pos} (hg : Gl X "range") (hm : X.mg "range" = none) (ha : PA X [a] ta) (hs : starEach [a] X.env = [(false, eval a X.env)] := by rfl) : PI X tg (.Call (.Name "range" p) [a] [] pos) (iRng1 ta) := by
  intro pins s σ H R I h
  refine Call_ (ld_blt I hg hm boot_range (PyProof.Rows.callWith_type1 (thn (ha pos pins s σ H _ I h) fun us s1 ⟨vs, H1, I1, r1, q1⟩ => ?_) hs rfl))
  obtain ⟨j, e, q1, q2, q⟩ := q1
  subst e
  cases r1 with
  | cons r rr =>
    cases rr
    obtain ⟨t, rfl⟩ := r
    exact call_range_1 (range_it I1 (by omega) (by omega) q1 q2 (by simpa using q))
theorem pi_range2 {a b : Expr} {ta : TA} {p pos : Pos} (hg : Gl X "range") (hm : X.mg "range" = none) (ha : PA X [a, b] ta) (hs : starEach [a, b] X.env = [(false, eval a X.env), (false, eval b X.env)] := by rfl) (hs2 : starEach [b] X.env = [(false, eval b X.env)] := by rfl) :
    PI X tg (.Call (.Name "range" p) [a, b] [] pos) (iRng2 ta) := by
  intro pins s σ H R I h
  refine Call_ (ld_blt I hg hm boot_range (PyProof.Rows.callWith_type1 (thn (ha pos pins s σ H _ I h) fun us s1 ⟨vs, H1, I1, r1, q1⟩ => ?_) (by rw [hs, hs2]) (by rw [hs2]; rfl)))
  obtain ⟨i, j, e, ⟨q1, q2, q3, q4⟩, q⟩ := q1
  subst e
  cases r1 with
  | cons r rr =>
    cases rr with
    | cons r' rr =>
      cases rr
      obtain ⟨t, rfl⟩ := r
      obtain ⟨t', rfl⟩ := r'
      exact call_range_2 (range_it I1 q1 q2 q3 q4 q)

/-! ### for -/
/-- W: the invariant by the turn and a measure; N: what the body is to reach -/
def tFor (wi : TI) (g : TG) (tb : TS) : TS := fun D σ H => wi σ H fun J H1 => ∃ W : Nat → Nat → St → Hp → Prop, (∃ m, W 0 m σ H1) ∧ ∀ i m σ H, W i m σ H →
  (J.stop i H ∧ D.nx σ H) ∨ (J.go i H ∧ ∃ N : St → Hp → Prop, (∀ σ' H', N σ' H' → ∃ m', m' < m ∧ W (i + 1) m' σ' H') ∧ ∀ x H', J.yld i H x H' → g x σ H' fun σ2 H2 => tb { D with nx := N, ct := N, bk := D.nx } σ2 H2)
/-- the records at fp as they stand -/
def pinsAt (fp : List Addr) (h : Heap) : List (Addr × Obj) := fp.filterMap fun b => (h.get? b).map fun o => (b, o)
theorem mem_pinsAt {fp : List Addr} {h : Heap} {b : Addr} {o : Obj} (hb : b ∈ fp) (e : h.get? b = some o) : (b, o) ∈ pinsAt fp h := List.mem_filterMap.mpr ⟨b, hb, by rw [e]; rfl⟩
theorem of_pinsAt {fp : List Addr} {h : Heap} {p : Addr × Obj} (hp : p ∈ pinsAt fp h) : p.1 ∈ fp ∧ h.get? p.1 = some p.2 := by
  obtain ⟨b, hb, e⟩ := List.mem_filterMap.mp hp
  cases q : h.get? b with
  | none => rw [q] at e; cases e
  | some o =>
    rw [q] at e
    have e' : (b, o) = p := Option.some.inj e
    subst e'
    exact ⟨hb, q⟩
theorem Inv.pinned {pins : List (Addr × Obj)} {σ : St} {H : Hp} {s : Shared} {fp : List Addr} (I : Inv X pins σ H s) (hf : ∀ b ∈ fp, FpOk X pins H b) (ho : ∀ b ∈ fp, ∃ o, s.heap.get? b = some o ∧ ∀ v, o.data ≠ .cell v) : Inv X (pins ++ pinsAt fp s.heap) σ H s :=
  I.pins_of fun p hp => (List.mem_append.mp hp).elim (fun z => I.pin p (List.mem_append_right _ z)) fun z => by
    obtain ⟨hb, e⟩ := of_pinsAt z
    obtain ⟨f0, f1, f2, _⟩ := hf p.1 hb
    obtain ⟨o, e', d⟩ := ho p.1 hb
    rw [e] at e'; cases e'
    exact ⟨e, f0, f1, f2, d⟩
theorem Inv.unpinned {pins pl : List (Addr × Obj)} {σ : St} {H : Hp} {s : Shared} (I : Inv X (pins ++ pl) σ H s) : Inv X pins σ H s := I.pins_of fun p hp => I.pin p (List.mem_append_right _ (List.mem_append_left _ hp))
theorem ps_for {iter : Expr} {body : List Stmt} {wi : TI} {g : TG} {tb : TS} {pos : Pos} (hp : PassesOwn (model X.prog X.w) X.A X.env X.xe) (hc : X.calm = true) (hi : PI X tg iter wi) (hg : PG X tg g) (hb : PSs X body tb)
    (hs : ∀ x, foldedSetIterable iter X.env x = pure x := by intro _; rfl) : PS X (.For tg iter body [] pos) (tFor wi g tb) := by
  intro pins s σ H D I h
  refine wpAny_For (thn (hi pins s σ H _ I h) fun v s1 h1 => thn h1 fun itv s2 h2 => ?_) hs
  obtain ⟨it, fp, tn, J, H2, e, I2, T, st2, f2, W, ⟨m0, w0⟩, turn⟩ := h2
  subst e
  -- what stays true of the iterator's objects through the loop
  have stat : ∀ {H' : Hp}, (∀ b ∈ fp, H' b = none) → ∀ b ∈ fp, FpOk X pins H' b := fun hn b hb => ⟨hn b hb, (f2 b hb).2⟩
  refine codeAny_forLoop_any (fun n s' => ∃ i σ' H', Inv X pins σ' H' s' ∧ tn i s'.heap ∧ (∀ b ∈ fp, H' b = none) ∧ W i n σ' H') ?_ m0 ⟨0, σ, H2, I2, st2, fun b hb => (f2 b hb).1, w0⟩
  rintro n s3 ⟨i, σ3, H3, I3, st3, fr3, w3⟩
  rcases turn i n σ3 H3 w3 with ⟨stop, qn⟩ | ⟨go, N, hN, step⟩
  · refine wpAny_passesOwn hp (thn (T.done X rfl rfl rfl hc i pins s3 σ3 H3 X.xe I3 (stat fr3) st3 stop) fun r s4 ⟨hr, I4⟩ => ?_)
    subst hr
    exact wpAny_execs_nil ⟨σ3, H3, I4, qn⟩
  · refine wpAny_passesOwn hp (thn (T.item X rfl rfl rfl hc i pins s3 σ3 H3 X.xe I3 (stat fr3) st3 go) fun r s4 ⟨u, hr, h4⟩ => ?_)
    subst hr
    refine wpAny_passesOwn hp (thn h4 fun _ s5 ⟨x, H5, I5, r5, y5, st5, fr5⟩ => ?_)
    have I5' := I5.pinned (stat fr5) (T.obj _ _ st5)
    refine wpAny_passesOwn hp (thn (hg _ s5 σ3 H5 x u _ I5' r5 (step x H5 y5)) fun _ s6 ⟨σ6, H6, I6, q6⟩ => ?_)
    refine wpAny_passesOwn hp (thn (hb _ s6 σ6 H6 _ I6 q6) fun f s7 q7 => ?_)
    have again : ∀ {σ7 : St} {H7 : Hp}, Inv X (pins ++ pinsAt fp s5.heap) σ7 H7 s7 → N σ7 H7 → ∃ m, m < n ∧ ∃ i σ' H', Inv X pins σ' H' s7 ∧ tn i s7.heap ∧ (∀ b ∈ fp, H' b = none) ∧ W i m σ' H' := fun {σ7 H7} I7 n7 => by
      obtain ⟨m', hm, w7⟩ := hN σ7 H7 n7
      refine ⟨m', hm, i + 1, σ7, H7, I7.unpinned, T.keep _ _ _ st5 fun b hb o e => (I7.pin (b, o) (List.mem_append_right _ (List.mem_append_right _ (mem_pinsAt hb e)))).1, fun b hb => ?_, w7⟩
      obtain ⟨o, e, d⟩ := T.obj _ _ st5 b hb
      exact (I7.pin (b, o) (List.mem_append_right _ (List.mem_append_right _ (mem_pinsAt hb e)))).2.1
    cases f with
    | next => obtain ⟨σ7, H7, I7, n7⟩ := q7; exact again I7 n7
    | cont => obtain ⟨σ7, H7, I7, n7⟩ := q7; exact again I7 n7
    | brk => obtain ⟨σ7, H7, I7, q7⟩ := q7; exact ⟨σ7, H7, I7.unpinned, q7⟩
    | ret v => obtain ⟨x7, σ7, H7, I7, r7, q7⟩ := q7; exact ⟨x7, σ7, H7, I7.unpinned, r7, q7⟩
end

/-! ### the forms one uses -/
/-- over a list that the body leaves as it is -/
theorem for_list {K : PySem.W.Frag} {a : Addr} {xs : List V} {g : TG} {tb : TS} {D : Ends} {σ : St} {H : Hp} (Pv : Nat → St → Hp → Prop) (h0 : Pv 0 σ H) (hl : ∀ i σ H, i ≤ xs.length → Pv i σ H → SqL K H a xs)
    (hs : ∀ i x σ H, xs[i]? = some x → Pv i σ H → g x σ H fun σ2 H2 => tb { D with nx := Pv (i + 1), ct := Pv (i + 1), bk := D.nx } σ2 H2) (hd : ∀ σ H, Pv xs.length σ H → D.nx σ H) :
    ∃ W : Nat → Nat → St → Hp → Prop, (∃ m, W 0 m σ H) ∧ ∀ i m σ H, W i m σ H →
      ((Itl K a).stop i H ∧ D.nx σ H) ∨ ((Itl K a).go i H ∧ ∃ N : St → Hp → Prop, (∀ σ' H', N σ' H' → ∃ m', m' < m ∧ W (i + 1) m' σ' H') ∧ ∀ x H', (Itl K a).yld i H x H' → g x σ H' fun σ2 H2 => tb { D with nx := N, ct := N, bk := D.nx } σ2 H2) := by
  refine ⟨fun i m σ H => m = xs.length - i ∧ i ≤ xs.length ∧ Pv i σ H, ⟨xs.length, by simp, Nat.zero_le _, h0⟩, ?_⟩
  rintro i m σ H ⟨rfl, hi, p⟩
  have q := hl i σ H hi p
  by_cases hlt : i < xs.length
  · refine .inr ⟨⟨xs, xs[i], q, by simp [hlt]⟩, Pv (i + 1), fun σ' H' p' => ⟨xs.length - (i + 1), by omega, rfl, hlt, p'⟩, fun x H' y => ?_⟩
    obtain ⟨e, y⟩ := y
    subst e
    exact hs i x σ _ (y xs q) p
  · have e : i = xs.length := by omega
    subst e
    exact .inl ⟨⟨xs, q, Nat.le_refl _⟩, hd σ H p⟩
theorem for_range {lo : Int} {n : Nat} {g : TG} {tb : TS} {D : Ends} {σ : St} {H : Hp} (Pv : Nat → St → Hp → Prop) (h0 : Pv 0 σ H)
    (hs : ∀ i σ H, i < n → Pv i σ H → g (.int (lo + i)) σ H fun σ2 H2 => tb { D with nx := Pv (i + 1), ct := Pv (i + 1), bk := D.nx } σ2 H2) (hd : ∀ σ H, Pv n σ H → D.nx σ H) :
    ∃ W : Nat → Nat → St → Hp → Prop, (∃ m, W 0 m σ H) ∧ ∀ i m σ H, W i m σ H →
      ((Itr lo n).stop i H ∧ D.nx σ H) ∨ ((Itr lo n).go i H ∧ ∃ N : St → Hp → Prop, (∀ σ' H', N σ' H' → ∃ m', m' < m ∧ W (i + 1) m' σ' H') ∧ ∀ x H', (Itr lo n).yld i H x H' → g x σ H' fun σ2 H2 => tb { D with nx := N, ct := N, bk := D.nx } σ2 H2) := by
  refine ⟨fun i m σ H => m = n - i ∧ i ≤ n ∧ Pv i σ H, ⟨n, by simp, Nat.zero_le _, h0⟩, ?_⟩
  rintro i m σ H ⟨rfl, hi, p⟩
  by_cases hlt : i < n
  · refine .inr ⟨hlt, Pv (i + 1), fun σ' H' p' => ⟨n - (i + 1), by omega, rfl, hlt, p'⟩, fun x H' y => ?_⟩
    obtain ⟨e, y⟩ := y
    subst e y
    exact hs i σ _ hlt p
  · have e : i = n := by omega
    subst e
    exact .inl ⟨Nat.le_refl _, hd σ H p⟩
end L2

namespace L2
open PySem PySem.Spec PyProof.Rows

abbrev R2 := V → V → Hp → VK → Prop
/-- a two-place operation on values: f is binaryOp op, inplaceOp op or compareOp op -/
def OpR (X : Cx) (f : Value → Value → Sem Value) (r : R2) : Prop :=
  ∀ (pins : List (Addr × Obj)) (s : Shared) (σ : St) (H : Hp) (x y : V) (v u : Value) (Q : VK), Inv X pins σ H s → RelV x v → RelV y u → r x y H Q →
    wpAny (model X.prog X.w) X.A (f v u) (EP X pins σ Q) X.xe s
/-- a one-place operation -/
def UnR (X : Cx) (f : Value → Sem Value) (r : V → Hp → VK → Prop) : Prop :=
  ∀ (pins : List (Addr × Obj)) (s : Shared) (σ : St) (H : Hp) (x : V) (v : Value) (Q : VK), Inv X pins σ H s → RelV x v → r x H Q →
    wpAny (model X.prog X.w) X.A (f v) (EP X pins σ Q) X.xe s
/-- a call of a value that is known (a builtin, a type) with values -/
def CallR (X : Cx) (f : Value) (r : List V → Hp → VK → Prop) : Prop :=
  ∀ (pins : List (Addr × Obj)) (s : Shared) (σ : St) (H : Hp) (xs : List V) (us : List Value) (Q : VK), Inv X pins σ H s → Vals xs us → r xs H Q →
    wpAny (model X.prog X.w) X.A (call f us) (EP X pins σ Q) X.xe s
/-- a value's truth -/
def TruR (X : Cx) (r : V → Hp → (Bool → Hp → Prop) → Prop) : Prop :=
  ∀ (pins : List (Addr × Obj)) (s : Shared) (σ : St) (H : Hp) (x : V) (v : Value) (Q : Bool → Hp → Prop), Inv X pins σ H s → RelV x v → r x H Q →
    wpAny (model X.prog X.w) X.A (truthy v) (TP X pins σ Q) X.xe s

def tOp (r : R2) (ta tb : TE) : TE := fun σ H Q => ta σ H fun x H1 => tb σ H1 fun y H2 => r x y H2 Q
def tUn (r : V → Hp → VK → Prop) (ta : TE) : TE := fun σ H Q => ta σ H fun x H1 => r x H1 Q
/-- ints in, under C, and a value out -/
def rI (C : Int → Int → Prop) (g : Int → Int → V) : R2 := fun x y H Q => ∃ i j, x = .int i ∧ y = .int j ∧ C i j ∧ Q (g i j) H
def rI0 (g : Int → Int → V) : R2 := fun x y H Q => ∃ i j, x = .int i ∧ y = .int j ∧ Q (g i j) H
def rU (g : Int → V) : V → Hp → VK → Prop := fun x H Q => ∃ i, x = .int i ∧ Q (g i) H

section
variable {X : Cx} {a b c : Expr} {ta tb tc : TE} {pos : Pos}

theorem binT (ha : PE X a ta) (hb : PE X b tb) {pins : List (Addr × Obj)} {s : Shared} {σ : St} {H : Hp} {R : V → V → Hp → Prop} (I : Inv X pins σ H s)
    (h : ta σ H fun x H1 => tb σ H1 fun y H2 => R x y H2) {Q : Value → Shared → Prop} {f : Value → Value → Sem Value}
    (hf : ∀ v u s2 x y H2, Inv X pins σ H2 s2 → RelV x v → RelV y u → R x y H2 → wpAny (model X.prog X.w) X.A (f v u) Q X.xe s2) :
    wpAny (model X.prog X.w) X.A (eval a X.env) (fun v s₁ => wpAny (model X.prog X.w) X.A (eval b X.env) (fun u s₂ => wpAny (model X.prog X.w) X.A (f v u) Q X.xe s₂) X.xe s₁) X.xe s := by
  refine thn (ha pins s σ H _ I h) fun v s1 ⟨x, H1, I1, r1, q1⟩ => ?_
  refine thn (hb pins s1 σ H1 _ I1 q1) fun u s2 ⟨y, H2, I2, r2, q2⟩ => ?_
  exact hf v u s2 x y H2 I2 r1 r2 q2

theorem pe_op {op : Operator} {r : R2} (ho : OpR X (binaryOp op) r) (ha : PE X a ta) (hb : PE X b tb) : PE X (.BinOp a op b pos) (tOp r ta tb) := by
  intro pins s σ H Q I h
  exact wpAny_BinOp (binT ha hb I h fun v u s2 x y H2 I2 rx ry q => ho pins s2 σ H2 x y v u Q I2 rx ry q)
theorem pe_un {op : UnaryOp} {r : V → Hp → VK → Prop} (ho : UnR X (unaryOp op) r) (ha : PE X a ta) : PE X (.UnaryOp op a pos) (tUn r ta) := by
  intro pins s σ H Q I h
  exact UnaryOp_ (thn (ha pins s σ H _ I h) fun v s1 ⟨x, H1, I1, r1, q1⟩ => ho pins s1 σ H1 x v Q I1 r1 q1)
/-! ### ints -/
theorem opI {f : Value → Value → Sem Value} {C : Int → Int → Prop} {g : Int → Int → Int}
    (rule : ∀ (i j : Int) (t u : Tok) (s : Shared) (Q : Value → Shared → Prop) (E : Value → Shared → Prop), C i j → Q (.int (g i j) s.toks) { s with toks := s.toks + 1 } → wpAny (model X.prog X.w) X.A (f (.int i t) (.int j u)) Q E s) :
    OpR X f (rI C fun i j => .int (g i j)) := by
  intro pins s σ H x y v u Q I rx ry h
  obtain ⟨i, j, rfl, rfl, hc, q⟩ := h
  obtain ⟨t, rfl⟩ := rx
  obtain ⟨t', rfl⟩ := ry
  exact rule i j t t' s _ _ hc ⟨.int (g i j), H, I.tok _, ⟨_, rfl⟩, q⟩
theorem opI0 {f : Value → Value → Sem Value} {g : Int → Int → Int}
    (rule : ∀ (i j : Int) (t u : Tok) (s : Shared) (Q : Value → Shared → Prop) (E : Value → Shared → Prop), Q (.int (g i j) s.toks) { s with toks := s.toks + 1 } → wpAny (model X.prog X.w) X.A (f (.int i t) (.int j u)) Q E s) :
    OpR X f (rI0 fun i j => .int (g i j)) := by
  intro pins s σ H x y v u Q I rx ry h
  obtain ⟨i, j, rfl, rfl, q⟩ := h
  obtain ⟨t, rfl⟩ := rx
  obtain ⟨t', rfl⟩ := ry
  exact rule i j t t' s _ _ ⟨.int (g i j), H, I.tok _, ⟨_, rfl⟩, q⟩
theorem opB0 {f : Value → Value → Sem Value} {g : Int → Int → Bool}
    (rule : ∀ (i j : Int) (t u : Tok) (s : Shared) (Q : Value → Shared → Prop) (E : Value → Shared → Prop), Q (.bool (g i j)) s → wpAny (model X.prog X.w) X.A (f (.int i t) (.int j u)) Q E s) :
    OpR X f (rI0 fun i j => .bl (g i j)) := by
  intro pins s σ H x y v u Q I rx ry h
  obtain ⟨i, j, rfl, rfl, q⟩ := h
  obtain ⟨t, rfl⟩ := rx
  obtain ⟨t', rfl⟩ := ry
  exact rule i j t t' s _ _ ⟨.bl (g i j), H, I, rfl, q⟩

def CPow (i j : Int) : Prop := 0 ≤ j ∧ j ≤ 1000000 ∧ i.natAbs < 2 ^ 64
def CMul (i j : Int) : Prop := (-(2 ^ 64) < i ∧ i < 2 ^ 64) ∨ (-(2 ^ 64) < j ∧ j < 2 ^ 64)
theorem CMul.ok {i j : Int} (h : CMul i j) : IntMulOk i j := by
  rcases h with ⟨h1, h2⟩ | ⟨h1, h2⟩
  · exact .of_left (intBits_le_64 h1 h2)
  · exact .of_right (intBits_le_64 h1 h2)
theorem op_add : OpR X (binaryOp .Add) (rI0 fun i j => .int (i + j)) := opI0 fun _ _ _ _ _ _ _ q => add_int q
theorem op_sub : OpR X (binaryOp .Sub) (rI0 fun i j => .int (i - j)) := opI0 fun _ _ _ _ _ _ _ q => sub_int q
theorem op_mul : OpR X (binaryOp .Mult) (rI CMul fun i j => .int (i * j)) := opI fun _ _ _ _ _ _ _ hc q => mul_int q hc.ok
/-- % by a positive divisor of any size -/
theorem op_mod : OpR X (binaryOp .Mod) (rI (fun _ j => 0 < j) fun i j => .int (i % j)) := opI fun i j _ _ _ _ _ hc q => by
  have h1 : (0 : Int) < j := hc
  exact mod_int' (by omega) (by rw [Int.fmod_eq_emod_of_nonneg i (by omega)]; exact q)
theorem op_pow : OpR X (binaryOp .Pow) (rI CPow fun i j => .int (i ^ j.toNat)) := opI fun _ _ _ _ _ _ _ hc q => pow_int_small hc.1 hc.2.1 hc.2.2 q
theorem unI {f : Value → Sem Value} {g : Int → Int}
    (rule : ∀ (i : Int) (t : Tok) (s : Shared) (Q : Value → Shared → Prop) (E : Value → Shared → Prop), Q (.int (g i) s.toks) { s with toks := s.toks + 1 } → wpAny (model X.prog X.w) X.A (f (.int i t)) Q E s) :
    UnR X f (rU fun i => .int (g i)) := by
  intro pins s σ H x v Q I rx h
  obtain ⟨i, rfl, q⟩ := h
  obtain ⟨t, rfl⟩ := rx
  exact rule i t s _ _ ⟨.int (g i), H, I.tok _, ⟨_, rfl⟩, q⟩
theorem un_neg : UnR X (unaryOp .USub) (rU fun i => .int (-i)) := unI fun _ _ _ _ _ q => neg_int q
/-! ### bools among ints: n += (a < b) -/
end

/-! ### comparisons -/
/-- the scalars that == tells apart as data does -/
def scal : V → V → Bool
  | .non, .non => true | .non, .int _ => true | .int _, .non => true | .non, .bl _ => true | .bl _, .non => true | .non, .str _ => true | .str _, .non => true
  | .int _, .int _ => true | .bl _, .bl _ => true | .str _, .str _ => true | .byt _, .byt _ => true
  | .int _, .str _ => true | .str _, .int _ => true | .bl _, .str _ => true | .str _, .bl _ => true
  | _, _ => false
def rEq : R2 := fun x y H Q => scal x y = true ∧ Q (.bl (decide (x = y))) H
def rNe : R2 := fun x y H Q => scal x y = true ∧ Q (.bl (!decide (x = y))) H

theorem dec_int {i j : Int} : decide (V.int i = V.int j) = (i == j) := by
  rw [Bool.eq_iff_iff]
  simp
theorem dec_bl {i j : Bool} : decide (V.bl i = V.bl j) = (i == j) := by
  rw [Bool.eq_iff_iff]
  simp
theorem dec_str {i j : Str} : decide (V.str i = V.str j) = (i == j) := by
  rw [Bool.eq_iff_iff]
  simp
theorem dec_byt {i j : Array UInt8} : decide (V.byt i = V.byt j) = (i.toList == j.toList) := by
  rw [Bool.eq_iff_iff]
  cases i
  cases j
  simp

section
variable {X : Cx} {a b c : Expr} {ta tb tc : TE} {pos : Pos}
theorem fin_bl {pins : List (Addr × Obj)} {σ : St} {H : Hp} {s : Shared} {Q : VK} {k k' : Bool} (I : Inv X pins σ H s) (q : Q (.bl k) H) (e : k = k') : EP X pins σ Q (.bool k') s := by
  subst e
  exact ⟨.bl k, H, I, rfl, q⟩
theorem op_eq : OpR X (compareOp .Eq) rEq := by
  intro pins s σ H x y v u Q I rx ry h
  obtain ⟨hs, q⟩ := h
  cases x with
  | non =>
    cases rx
    cases y with
    | non => cases ry; exact PySem.EqNone.eq_none_none (fin_bl I q (by simp))
    | bl j => cases ry; exact PySem.EqNone.eq_none_bool (fin_bl I q (by simp))
    | int j => obtain ⟨t', rfl⟩ := ry; exact PySem.EqNone.eq_none_int (fin_bl I q (by simp))
    | str j => obtain ⟨t', rfl⟩ := ry; exact PySem.EqNone.eq_none_str (fin_bl I q (by simp))
    | _ => exact absurd (show false = true from hs) Bool.false_ne_true
  | bl i =>
    cases rx
    cases y with
    | non => cases ry; exact PySem.EqNone.eq_bool_none (fin_bl I q (by simp))
    | bl j => cases ry; exact eq_bool (fin_bl I q dec_bl)
    | str j => obtain ⟨t', rfl⟩ := ry; exact PySem.EqMixed.eq_bool_str (fin_bl I q (by simp))
    | _ => exact absurd (show false = true from hs) Bool.false_ne_true
  | int i =>
    obtain ⟨t, rfl⟩ := rx
    cases y with
    | non => cases ry; exact PySem.EqNone.eq_int_none (fin_bl I q (by simp))
    | int j => obtain ⟨t', rfl⟩ := ry; exact eq_int (fin_bl I q dec_int)
    | str j => obtain ⟨t', rfl⟩ := ry; exact PySem.EqMixed.eq_int_str (fin_bl I q (by simp))
    | _ => exact absurd (show false = true from hs) Bool.false_ne_true
  | str i =>
    obtain ⟨t, rfl⟩ := rx
    cases y with
    | non => cases ry; exact PySem.EqNone.eq_str_none (fin_bl I q (by simp))
    | bl j => cases ry; exact PySem.EqMixed.eq_str_bool (fin_bl I q (by simp))
    | int j => obtain ⟨t', rfl⟩ := ry; exact PySem.EqMixed.eq_str_int (fin_bl I q (by simp))
    | str j => obtain ⟨t', rfl⟩ := ry; exact eq_str (fin_bl I q dec_str)
    | _ => exact absurd (show false = true from hs) Bool.false_ne_true
  | byt i =>
    obtain ⟨t, rfl⟩ := rx
    cases y with
    | byt j => obtain ⟨t', rfl⟩ := ry; exact PySem.W.eq_bytes (fin_bl I q dec_byt)
    | _ => exact absurd (show false = true from hs) Bool.false_ne_true
  | _ => cases y <;> exact absurd (show false = true from hs) Bool.false_ne_true
theorem op_ne : OpR X (compareOp .NotEq) rNe := by
  intro pins s σ H x y v u Q I rx ry h
  obtain ⟨hs, q⟩ := h
  cases x with
  | non =>
    cases rx
    cases y with
    | non => cases ry; exact PySem.EqNone.ne_none_none (fin_bl I q (by simp))
    | bl j => cases ry; exact PySem.EqNone.ne_none_bool (fin_bl I q (by simp))
    | int j => obtain ⟨t', rfl⟩ := ry; exact PySem.EqNone.ne_none_int (fin_bl I q (by simp))
    | str j => obtain ⟨t', rfl⟩ := ry; exact PySem.EqNone.ne_none_str (fin_bl I q (by simp))
    | _ => exact absurd (show false = true from hs) Bool.false_ne_true
  | bl i =>
    cases rx
    cases y with
    | non => cases ry; exact PySem.EqNone.ne_bool_none (fin_bl I q (by simp))
    | bl j => cases ry; exact ne_bool (fin_bl I q (congrArg not dec_bl))
    | str j => obtain ⟨t', rfl⟩ := ry; exact PySem.EqMixed.ne_bool_str (fin_bl I q (by simp))
    | _ => exact absurd (show false = true from hs) Bool.false_ne_true
  | int i =>
    obtain ⟨t, rfl⟩ := rx
    cases y with
    | non => cases ry; exact PySem.EqNone.ne_int_none (fin_bl I q (by simp))
    | int j => obtain ⟨t', rfl⟩ := ry; exact ne_int (fin_bl I q (congrArg not dec_int))
    | str j => obtain ⟨t', rfl⟩ := ry; exact PySem.EqMixed.ne_int_str (fin_bl I q (by simp))
    | _ => exact absurd (show false = true from hs) Bool.false_ne_true
  | str i =>
    obtain ⟨t, rfl⟩ := rx
    cases y with
    | non => cases ry; exact PySem.EqNone.ne_str_none (fin_bl I q (by simp))
    | bl j => cases ry; exact PySem.EqMixed.ne_str_bool (fin_bl I q (by simp))
    | int j => obtain ⟨t', rfl⟩ := ry; exact PySem.EqMixed.ne_str_int (fin_bl I q (by simp))
    | str j => obtain ⟨t', rfl⟩ := ry; exact ne_str (fin_bl I q (congrArg not dec_str))
    | _ => exact absurd (show false = true from hs) Bool.false_ne_true
  | byt i =>
    obtain ⟨t, rfl⟩ := rx
    cases y with
    | byt j => obtain ⟨t', rfl⟩ := ry; exact PySem.W.ne_bytes (fin_bl I q (congrArg not dec_byt))
    | _ => exact absurd (show false = true from hs) Bool.false_ne_true
  | _ => cases y <;> exact absurd (show false = true from hs) Bool.false_ne_true

theorem op_lt : OpR X (compareOp .Lt) (rI0 fun i j => .bl (decide (i < j))) := opB0 fun _ _ _ _ _ _ _ q => lt_int q
theorem op_le : OpR X (compareOp .LtE) (rI0 fun i j => .bl (decide (i ≤ j))) := opB0 fun _ _ _ _ _ _ _ q => le_int q
theorem op_gt : OpR X (compareOp .Gt) (rI0 fun i j => .bl (decide (j < i))) := opB0 fun _ _ _ _ _ _ _ q => gt_int q
theorem op_ge : OpR X (compareOp .GtE) (rI0 fun i j => .bl (decide (j ≤ i))) := opB0 fun _ _ _ _ _ _ _ q => ge_int q
/-- is None, is not None: the right side a value none -/
theorem op_isN : OpR X (compareOp .Is) (fun x y H Q => y = .non ∧ Q (.bl (decide (x = .non))) H) := by
  intro pins s σ H x y v u Q I rx ry h
  obtain ⟨rfl, q⟩ := h
  cases ry
  refine is_none_gen (fin_bl I q ?_)
  cases x <;> first
    | (cases rx; rfl)
    | (obtain ⟨t, rfl⟩ := rx; rfl)
theorem nomark (b : Expr) {op : CmpOp} (h : op ≠ .In := by decide) (h2 : op ≠ .NotIn := by decide) : behindInMarks op b = false := by
  have e1 : (op == CmpOp.In) = false := by cases op <;> first | rfl | exact absurd rfl h
  have e2 : (op == CmpOp.NotIn) = false := by cases op <;> first | rfl | exact absurd rfl h2
  cases b <;> simp [behindInMarks, e1, e2]
/-- a comparison as a value; hm: nomark b, or (for in, not in) by with_unfolding_all rfl -/
theorem pe_cmpR {op : CmpOp} {r : R2} (ho : OpR X (compareOp op) r) (ha : PE X a ta) (hb : PE X b tb) (hm : behindInMarks op b = false) : PE X (.Compare a [op] [b] pos) (tOp r ta tb) := by
  intro pins s σ H Q I h
  exact wpAny_Compare1 (binT ha hb I h fun v u s2 x y H2 I2 rx ry q => ho pins s2 σ H2 x y v u Q I2 rx ry q) hm
/-- a reading of a value as a test -/
def tTest (t : TE) : TT := fun σ H Q => t σ H fun x H' => ∃ k, x = .bl k ∧ Q k H'
theorem pt_cmpR {op : CmpOp} {r : R2} (ho : OpR X (compareOp op) r) (ha : PE X a ta) (hb : PE X b tb) (hm : behindInMarks op b = false) : PT X (.Compare a [op] [b] pos) (tTest (tOp r ta tb)) := by
  intro pins s σ H Q I h
  refine wpAny_isTrue_Compare1 (thn (ha pins s σ H _ I h) fun v s1 ⟨x, H1, I1, r1, q1⟩ => thn (hb pins s1 σ H1 _ I1 q1) fun u s2 ⟨y, H2, I2, r2, q2⟩ =>
    thn (ho pins s2 σ H2 x y v u _ I2 r1 r2 q2) fun c s3 ⟨z, H3, I3, r3, k, e, q3⟩ => ?_) hm
  subst e
  cases r3
  exact wpAny_truthy_bool ⟨H3, I3, q3⟩
/-- a op1 b op2 c -/
def tChain (r r' : R2) (ta tb tc : TE) : TE := fun σ H Q => ta σ H fun x H1 => tb σ H1 fun y H2 => r x y H2 fun z H3 => ∃ k, z = .bl k ∧
  (if k = true then tc σ H3 fun w' H4 => r' y w' H4 Q else Q (.bl false) H3)
theorem pe_chain {op op' : CmpOp} {r r' : R2} (ho : OpR X (compareOp op) r) (ho' : OpR X (compareOp op') r') (ha : PE X a ta) (hb : PE X b tb) (hc : PE X c tc)
    (hm : lastMarks [op, op'] [b, c] = false := by with_unfolding_all rfl) : PE X (.Compare a [op, op'] [b, c] pos) (tChain r r' ta tb tc) := by
  intro pins s σ H Q I h
  refine Compare_chain (thn (ha pins s σ H _ I h) fun v s1 ⟨x, H1, I1, r1, q1⟩ => chain_link (thn (hb pins s1 σ H1 _ I1 q1) fun u s2 ⟨y, H2, I2, r2, q2⟩ =>
    thn (ho pins s2 σ H2 x y v u _ I2 r1 r2 q2) fun d s3 ⟨z, H3, I3, r3, k, e, q3⟩ => ?_)) hm
  subst e
  cases r3
  refine wpAny_truthy_bool ?_
  cases k with
  | false => exact ite_ff ⟨.bl false, H3, I3, rfl, q3⟩
  | true => exact ite_tt (chain_last (thn (hc pins s3 σ H3 _ I3 q3) fun w' s4 ⟨z', H4, I4, r4, q4⟩ => ho' pins s4 σ H4 y z' u w' Q I4 r2 r4 q4))
theorem pt_chain {op op' : CmpOp} {r r' : R2} (ho : OpR X (compareOp op) r) (ho' : OpR X (compareOp op') r') (ha : PE X a ta) (hb : PE X b tb) (hc : PE X c tc)
    (hm : lastMarks [op, op'] [b, c] = false := by with_unfolding_all rfl) : PT X (.Compare a [op, op'] [b, c] pos) (tTest (tChain r r' ta tb tc)) := by
  intro pins s σ H Q I h
  refine isTrue_chain (thn (ha pins s σ H _ I h) fun v s1 ⟨x, H1, I1, r1, q1⟩ => test_link (thn (hb pins s1 σ H1 _ I1 q1) fun u s2 ⟨y, H2, I2, r2, q2⟩ =>
    thn (ho pins s2 σ H2 x y v u _ I2 r1 r2 q2) fun d s3 ⟨z, H3, I3, r3, k, e, q3⟩ => ?_)) hm
  subst e
  cases r3
  refine wpAny_truthy_bool ?_
  cases k with
  | false =>
    obtain ⟨k', e', q'⟩ := q3
    cases e'
    exact ite_ff ⟨H3, I3, q'⟩
  | true =>
    refine ite_tt (test_last (thn (hc pins s3 σ H3 _ I3 q3) fun w' s4 ⟨z', H4, I4, r4, q4⟩ => thn (ho' pins s4 σ H4 y z' u w' _ I4 r2 r4 q4) fun d' s5 ⟨z2, H5, I5, r5, k2, e2, q5⟩ => ?_))
    subst e2
    cases r5
    exact wpAny_truthy_bool ⟨H5, I5, q5⟩

/-! ### truth -/
/-- a value's truth by the abstract heap -/
def TruV (K : PySem.W.Frag) (x : V) (H : Hp) (k : Bool) : Prop :=
  match x with
  | .non => k = false
  | .bl b => k = b
  | .int i => k = (i != 0)
  | .str y => y.length ≤ sizeLine ∧ k = ((y.length : Int) != 0)
  | .byt y => y.size ≤ sizeLine ∧ k = ((y.size : Int) != 0)
  | .ref p => (∃ xs, SqL K H p xs ∧ k = !xs.isEmpty) ∨ (∃ xs, SqT K H p xs ∧ k = !xs.isEmpty) ∨ ∃ kvs, H p = some (.dK kvs) ∧ k = !kvs.isEmpty
  | _ => False
theorem isEmpty_kv {κ : Type} {kvs : List (κ × V)} {vs : List (κ × Value)} (r : KV kvs vs) : (!vs.isEmpty) = !kvs.isEmpty := by
  cases r <;> rfl
theorem isEmpty_of {xs : List V} {its : List Value} (r : Vals xs its) : (!its.toArray.isEmpty) = !xs.isEmpty := by
  cases r <;> simp
theorem line63 : (sizeLine : Nat) < 2 ^ 63 := by rw [sizeLine_eq]; decide
theorem tru_ok : TruR X (fun x H Q => ∃ k, TruV X.K x H k ∧ Q k H) := by
  intro pins s σ H x v Q I rx h
  obtain ⟨k, e, q⟩ := h
  have hl := line63
  have hs : sizeLine = 16777216 := sizeLine_eq
  cases x with
  | non =>
    cases rx
    have e' : k = false := e
    subst e'
    exact truthy_none ⟨H, I, q⟩
  | bl b =>
    cases rx
    have e' : k = b := e
    subst e'
    exact wpAny_truthy_bool ⟨H, I, q⟩
  | int i =>
    obtain ⟨t, rfl⟩ := rx
    have e' : k = (i != 0) := e
    subst e'
    exact PySem.P.truthy_int ⟨H, I, q⟩
  | str y =>
    obtain ⟨t, rfl⟩ := rx
    obtain ⟨hy, e'⟩ : y.length ≤ sizeLine ∧ k = ((y.length : Int) != 0) := e
    subst e'
    exact PySem.P.truthy_str (by omega) ⟨H, I.tok _, q⟩
  | byt y =>
    obtain ⟨t, rfl⟩ := rx
    obtain ⟨hy, e'⟩ : y.size ≤ sizeLine ∧ k = ((y.size : Int) != 0) := e
    subst e'
    exact PySem.W.truthy_bytes (by omega) ⟨H, I.tok _, q⟩
  | ref p =>
    cases rx
    have e' : (∃ xs, SqL X.K H p xs ∧ k = !xs.isEmpty) ∨ (∃ xs, SqT X.K H p xs ∧ k = !xs.isEmpty) ∨ ∃ kvs, H p = some (.dK kvs) ∧ k = !kvs.isEmpty := e
    rcases e' with ⟨xs, hx, e'⟩ | ⟨xs, hx, e'⟩ | ⟨kvs, hx, e'⟩
    · subst e'
      obtain ⟨its, r, pl, hz⟩ := I.list hx
      have hlen := r.length
      exact wpAny_truthy_list pl.isList (by simp only [List.size_toArray]; omega) ⟨H, I.tok _, by rw [isEmpty_of r]; exact q⟩
    · subst e'
      obtain ⟨its, r, pl, hz⟩ := I.tuple hx
      have hlen := r.length
      exact truthy_tuple pl (by simp only [List.size_toArray]; omega) ⟨H, I.tok _, by rw [isEmpty_of r]; exact q⟩
    · subst e'
      obtain ⟨hz, hS, vs, r, m⟩ : kvs.length ≤ sizeLine ∧ (p == sysModules) = false ∧ ∃ vs, KV kvs vs ∧ s.heap.DictOf (mixKind X.prog X.w) p vs := I.hok p _ hx
      have hlen : kvs.length = vs.length := Paired.length r
      exact wpAny_truthy_dict hS m (by omega) ⟨H, I.tok _, by rw [isEmpty_kv r]; exact q⟩
  | _ => exact (show False from e).elim
/-- any expression whose test is its value's truth (a name, a call, a subscript, a field ..: he by fun _ => rfl) -/
theorem pt_truth (ha : PE X a ta) (he : ∀ whole, isTrue a X.env whole = (do let v ← whole; standAt a.pos; holding [v] (truthy v))) :
    PT X a (fun σ H Q => ta σ H fun x H' => ∃ k, TruV X.K x H' k ∧ Q k H') := by
  intro pins s σ H Q I h
  exact isTrue_plain (thn (ha pins s σ H _ I h) fun v s1 ⟨x, H1, I1, r1, q1⟩ => tru_ok pins s1 σ H1 x v Q I1 r1 q1) (he _)

/-! ### strs and bytes -/
/-! ### scalar builtins, by CallR -/
theorem vals1 {x : V} {us : List Value} (r : Vals [x] us) : ∃ u, us = [u] ∧ RelV x u := by
  cases r with
  | cons r1 r2 => cases r2; exact ⟨_, rfl, r1⟩
theorem vals2 {x y : V} {us : List Value} (r : Vals [x, y] us) : ∃ u w', us = [u, w'] ∧ RelV x u ∧ RelV y w' := by
  cases r with
  | cons r1 r2 =>
    cases r2 with
    | cons r3 r4 => cases r4; exact ⟨_, _, rfl, r1, r3⟩
theorem call_max2 (hc : X.calm = true) : CallR X (.builtin "max") (fun xs H Q => ∃ i j, xs = [.int i, .int j] ∧ Q (.int (if j > i then j else i)) H) := by
  intro pins s σ H xs us Q I r h
  obtain ⟨i, j, rfl, q⟩ := h
  obtain ⟨u, w', rfl, ⟨t, rfl⟩, ⟨t', rfl⟩⟩ := vals2 r
  refine max_two_ints (I.ok.hd hc) fun h' tk k => ⟨_, H, I.kept k, ?_, q⟩
  by_cases hj : j > i
  · rw [if_pos hj, if_pos hj]; exact ⟨_, rfl⟩
  · rw [if_neg hj, if_neg hj]; exact ⟨_, rfl⟩
theorem call_min2 (hc : X.calm = true) : CallR X (.builtin "min") (fun xs H Q => ∃ i j, xs = [.int i, .int j] ∧ Q (.int (if j < i then j else i)) H) := by
  intro pins s σ H xs us Q I r h
  obtain ⟨i, j, rfl, q⟩ := h
  obtain ⟨u, w', rfl, ⟨t, rfl⟩, ⟨t', rfl⟩⟩ := vals2 r
  refine min_two_ints (I.ok.hd hc) fun h' tk k => ⟨_, H, I.kept k, ?_, q⟩
  by_cases hj : j < i
  · rw [if_pos hj, if_pos hj]; exact ⟨_, rfl⟩
  · rw [if_neg hj, if_neg hj]; exact ⟨_, rfl⟩
theorem call_int1 : CallR X (.type "int") (fun xs H Q => (∃ i, xs = [.int i] ∧ Q (.int i) H) ∨ ∃ k, xs = [.bl k] ∧ Q (.int (if k then 1 else 0)) H) := by
  intro pins s σ H xs us Q I r h
  rcases h with ⟨i, rfl, q⟩ | ⟨k, rfl, q⟩
  · obtain ⟨u, rfl, t, rfl⟩ := vals1 r
    exact call_int_int ⟨.int i, H, I, ⟨_, rfl⟩, q⟩
  · obtain ⟨u, rfl, r1⟩ := vals1 r
    cases r1
    exact call_int_bool ⟨.int (if k then 1 else 0), H, I.tok _, ⟨_, rfl⟩, q⟩
end
end L2

namespace L2
open PySem PySem.Spec PyProof.Rows

/-! ### an instance, its attributes a map -/
structure ObjM (h : Heap) (x dx C : Addr) (mA : Str → Option Value) : Prop where
  obj : h.get? x = some (PySem.W.instObj C dx)
  ns : h.Ns1 dx mA
  ne : dx ≠ x

theorem lookIn_ns {h : Heap} {dx : Addr} {mA : Str → Option Value} (n : h.Ns1 dx mA) : ∃ od, h.get? dx = some od ∧ ∀ name, PySem.W.lookIn name od = some (mA name) := by
  obtain ⟨o, es, ep, ho, hd, hk, _, hm⟩ := n
  refine ⟨o, ho, fun name => ?_⟩
  have e := hm name
  unfold nsFind findBy at e
  rw [← Array.find?_toList] at e
  unfold PySem.W.lookIn
  rw [hd]
  dsimp only
  split
  · rename_i y q
    rw [q] at e
    exact congrArg some e
  · rename_i q
    rw [q] at e
    have a : es.toList.any (·.refKey) = false := by
      rw [List.any_eq_false]
      intro y hy
      obtain ⟨z, t, hkey⟩ := hk y (Array.mem_toList_iff.mp hy)
      simp [DictEntry.refKey, hkey]
    have a' : ¬ es.toList.any (·.refKey) = true := by rw [a]; exact Bool.false_ne_true
    rw [if_neg a']
    exact congrArg some e

theorem ObjM.look {h : Heap} {x dx C : Addr} {mA : Str → Option Value} (I : ObjM h x dx C mA) : ∃ od, PySem.W.InstAt h x (PySem.W.instObj C dx) C (some od) ∧ ∀ name, PySem.W.lookIn name od = some (mA name) :=
  let ⟨od, ho, hl⟩ := lookIn_ns I.ns
  ⟨od, ⟨I.obj, rfl, rfl, ho⟩, hl⟩

section
variable {prog : Program} {w : World} {A : Around} {E : Value → Shared → Prop} {s : Shared} {K : PySem.W.Frag} {x dx C f : Addr} {mA : Str → Option Value} {name : Str} {v : Value}

end

/-! ### the attributes as a list of pairs -/
section
variable {P : Program} {w : World} {H H' : Hp} {h h' : Heap} {a C dx : Addr} {fs fs' : List (Str × V)}
theorem ins_get (hok : HOk P w H h) (e : H a = some (.ins C dx fs)) : ∃ mA, ObjM h a dx C mA ∧ (∀ f, RelO (fs.lookup f) (mA f)) ∧ PySem.Within mA (fs.map (·.1)) ∧ fs.length ≤ 1000 ∧ H dx = some (.own a) := by
  obtain ⟨d, z, ne, ob, mA, n, r, q⟩ := (show ObjOk P w H h a (.ins C dx fs) from hok a _ e)
  exact ⟨mA, ⟨ob, n, ne⟩, r, q, z, d⟩
end

/-! ### what of the text a class must have -/
structure Cls (K : PySem.W.Frag) (C : Addr) : Prop where
  pg : PySem.W.plainGet K C Str.empty = true
  hd : PySem.W.hasDictIn K C = true
  po : PySem.W.plainOver K C = true
  sa : PySem.W.findIn K (.ref C) "__setattr__" = some (some (.builtin "object.__setattr__"))
theorem Cls.get {K : PySem.W.Frag} {C : Addr} (c : Cls K C) (f : Str) : PySem.W.plainGet K C f = true := c.pg
/-- a constant of the class -/
structure Con (K : PySem.W.Frag) (C : Addr) (f : Str) (v : V) (u : Value) : Prop where
  at_ : PySem.W.findIn K (.ref C) f = some (some u)
  rel : RelV v u
  get : PySem.W.specialIn K u "__get__" = some none
  cp : PySem.W.copiedNames.contains f = false
/-- a method: a plain def of the class or of one above it -/
structure Meth (K : PySem.W.Frag) (C : Addr) (m : Str) (f : Addr) : Prop where
  at_ : PySem.W.findIn K (.ref C) m = some (some (.ref f))
  fn : PySem.W.isFn K (.ref f) = true
  kp : PySem.W.keepIn K (.ref f) = true

section
variable {X : Cx} {pins : List (Addr × Obj)} {σ : St} {H : Hp} {s : Shared} {a C dx : Addr} {fs : List (Str × V)} {f : Str} {v : V} {A : Around} {E : Value → Shared → Prop}

end

/-! ### readings and rules -/
section
variable {X : Cx} {o e value : Expr} {f : Str} {pos pos' tpos : Pos} {ta tv : TE}
end

/-! ### isinstance -/
section
variable {X : Cx} {pins : List (Addr × Obj)} {σ : St} {H : Hp} {s : Shared} {A : Around} {E : Value → Shared → Prop} {Q : Value → Shared → Prop} {c : Value} {b : Bool}
/-- the type of a value, as the fragment's deciders take it; for an instance its class -/
inductive TyOf (K : PySem.W.Frag) (H : Hp) : V → Value → Prop where
  | non : TyOf K H .non (.type "NoneType")
  | bl (x : Bool) : TyOf K H (.bl x) (.type "bool")
  | int (i : Int) : TyOf K H (.int i) (.type "int")
  | str (x : Str) : TyOf K H (.str x) (.type "str")
  | flt (x : UInt64) : TyOf K H (.flt x) (.type "float")
  | lst {a : Addr} {xs : List V} (e : H a = some (.lst xs)) : TyOf K H (.ref a) (.type "list")
  | frz {a : Addr} {o : Obj} {xs : List V} (e : H a = some (.frz o (.lst xs))) : TyOf K H (.ref a) (.type "list")
  | tup {a : Addr} {xs : List V} (e : H a = some (.tup xs)) : TyOf K H (.ref a) (.type "tuple")
  | dK {a : Addr} {kvs : List (Key × V)} (e : H a = some (.dK kvs)) : TyOf K H (.ref a) (.type "dict")
  | dT {a : Addr} {kvs : List (List Key × V)} (e : H a = some (.dT kvs)) : TyOf K H (.ref a) (.type "dict")
  | ins {a C dx : Addr} {fs : List (Str × V)} (e : H a = some (.ins C dx fs)) (cl : Cls K C) (ha : PySem.W.findIn K (.ref C) "__class__" = some (some (.builtin "object.__class__")))
      (hn : PySem.W.specialIn K (.builtin "object.__class__") "__get__" = some (some (.builtin "getset_descriptor.__get__"))) (htk : PySem.W.takesIn K (.builtin "object.__class__") = some true)
      (hm : PySem.W.mroIn K C (.type "object") = some true) : TyOf K H (.ref a) (.ref C)
/-- isinstance(x, c) for one class c, a built-in or an own one: kitOne's answer -/
theorem isinst_ok {x : V} {u t : Value} (I : Inv X pins σ H s) (rx : RelV x u) (ty : TyOf X.K H x t) (e : PySem.W.kitOne X.K t c = some b) (h : ∀ tk, Q (.bool b) { s with toks := tk }) :
    wpAny (model X.prog X.w) A (call (.builtin "isinstance") [u, c]) Q E s := by
  cases ty with
  | non => cases (show u = Value.none from rx); exact PySem.W.kia_one PySem.W.kitx_none I.kIn True.intro e (fun z => nomatch z) h
  | bl y => cases (show u = Value.bool y from rx); exact PySem.W.kia_one PySem.W.kitx_bool I.kIn True.intro e (fun z => nomatch z) h
  | int i => obtain ⟨t, q⟩ := (show ∃ t, u = Value.int i t from rx); cases q; exact PySem.W.kia_one PySem.W.kitx_int I.kIn True.intro e (fun z => nomatch z) h
  | str y => obtain ⟨t, q⟩ := (show ∃ t, u = Value.str y t from rx); cases q; exact PySem.W.kia_one PySem.W.kitx_str I.kIn True.intro e (fun z => nomatch z) h
  | flt y => obtain ⟨t, q⟩ := (show ∃ t, u = Value.float y t from rx); cases q; exact PySem.W.kia_one PySem.W.kitx_float I.kIn True.intro e (fun z => nomatch z) h
  | @lst a xs ea =>
    cases (show u = Value.ref a from rx)
    obtain ⟨_, _, n, _, h1⟩ := (show ObjOk X.prog X.w H s.heap a (.lst xs) from I.hok a _ ea)
    exact PySem.W.kia_one PySem.W.kitx_list I.kIn ⟨_, h1, rfl⟩ e (fun z => nomatch z) h
  | @frz a ob xs ea =>
    cases (show u = Value.ref a from rx)
    obtain ⟨_, _, _, n, _, h1⟩ := (show ObjOk X.prog X.w H s.heap a (.frz ob (.lst xs)) from I.hok a _ ea)
    exact PySem.W.kia_one PySem.W.kitx_list I.kIn ⟨_, h1, rfl⟩ e (fun z => nomatch z) h
  | @tup a xs ea =>
    cases (show u = Value.ref a from rx)
    obtain ⟨_, _, _, p⟩ := (show ObjOk X.prog X.w H s.heap a (.tup xs) from I.hok a _ ea)
    obtain ⟨o, h1, h2, _⟩ := p
    exact PySem.W.kia_one PySem.W.kitx_tuple I.kIn ⟨o, h1, h2⟩ e (fun z => nomatch z) h
  | @dK a kvs ea =>
    cases (show u = Value.ref a from rx)
    obtain ⟨_, _, vs, _, p⟩ := (show ObjOk X.prog X.w H s.heap a (.dK kvs) from I.hok a _ ea)
    obtain ⟨o, es, ep, h1, h2, _⟩ := p
    exact PySem.W.kia_one PySem.W.kitx_dict I.kIn ⟨o, h1, h2.1⟩ e (fun z => nomatch z) h
  | @dT a kvs ea =>
    cases (show u = Value.ref a from rx)
    obtain ⟨_, _, xs, _, o, es, ep, h1, h2, _⟩ := (show ObjOk X.prog X.w H s.heap a (.dT kvs) from I.hok a _ ea)
    exact PySem.W.kia_one PySem.W.kitx_dict I.kIn ⟨o, h1, h2.1⟩ e (fun z => nomatch z) h
  | @ins a C dx fs ea cl ha hn htk hm =>
    cases (show u = Value.ref a from rx)
    obtain ⟨mA, O, _⟩ := ins_get I.hok ea
    obtain ⟨od, J, _⟩ := O.look
    exact PySem.W.kia_one (PySem.W.kitx_own (cl.get _) cl.hd ha hn htk hm) I.kIn J e (fun z => nomatch z) h
end
end L2

namespace L2
open PySem PySem.Spec PyProof.Rows

/-! ### room -/
structure Room (k : Nat) (A : Around) : Prop where
  hd : A.handled = none
  dp : A.depth + 3 * k + 5 < recursionLimit
  un : A.units + 16 * k + 200 < cLine
  gd : A.guards = some []
theorem Room.mono {j k : Nat} {A : Around} (r : Room k A) (h : j ≤ k) : Room j A := ⟨r.hd, by have := r.dp; omega, by have := r.un; omega, r.gd⟩
theorem Room.deeper {k : Nat} {A : Around} (r : Room (k + 1) A) (env : Env) : Room k (A.deeper env) :=
  ⟨r.hd, by have := r.dp; show A.depth + 1 + 3 * k + 5 < _; omega, by have := r.un; show A.units + 3 + 16 * k + 200 < _; omega, r.gd⟩
theorem make_depth {A : Around} {C : Addr} {us : List Value} {kw : List (Str × Value)} : (A.under (.builtin "type.__call__" ⟨.ref C :: us, kw⟩)).depth = A.depth + 1 := by
  first | rfl | simp [Around.under, Code.weight, Code.isCreation, Code.isGuard, Code.isCaller, Code.frames, Code.isFrame, guardIds]
theorem make_units {A : Around} {C : Addr} {us : List Value} {kw : List (Str × Value)} : (A.under (.builtin "type.__call__" ⟨.ref C :: us, kw⟩)).units = A.units + 1 := by
  first | rfl | simp [Around.under, Code.cUnits, Code.frames, Code.isFrame]
theorem Room.make {k : Nat} {A : Around} (r : Room (k + 1) A) (C : Addr) (us : List Value) (kw : List (Str × Value)) : Room k (A.under (.builtin "type.__call__" ⟨.ref C :: us, kw⟩)) :=
  ⟨r.hd, by have := r.dp; rw [make_depth]; omega, by have := r.un; rw [make_units]; omega, r.gd⟩
theorem Room.depth {k : Nat} {A : Around} (r : Room k A) : A.depth < recursionLimit := by have := r.dp; omega
/-! ### argument lists and displays -/
def tNil : TA := fun _ H Q => Q [] H
def tCons (ta : TE) (tr : TA) : TA := fun σ H Q => ta σ H fun x H1 => tr σ H1 fun xs H2 => Q (x :: xs) H2
section
variable {X : Cx} {e : Expr} {es : List Expr} {te : TE} {t : TA} {pos : Pos}
theorem pa_nil : PA X [] tNil := fun _ _ _ _ H Q I h => Calls.spliced_nil ⟨[], H, I, .nil, h⟩
theorem pa_cons (ha : PE X e te) (hr : PA X es t) (hs : starEach (e :: es) X.env = (false, eval e X.env) :: starEach es X.env := by rfl) : PA X (e :: es) (tCons te t) := by
  intro pos pins s σ H Q I h
  rw [hs]
  show wpAny _ _ (spliced ((false, eval e X.env) :: backTo pos (starEach es X.env))) _ _ s
  refine Calls.spliced_cons (thn (ha pins s σ H _ I h) fun u s1 ⟨x, H1, I1, r1, q1⟩ => ?_)
  exact thn (hr pos pins s1 σ H1 _ I1 q1) fun us s2 ⟨xs, H2, I2, r2, q2⟩ => ⟨x :: xs, H2, I2, .cons r1 r2, q2⟩

/-- a tuple, a list of written items -/
def tTup (t : TA) : TE := fun σ H Q => t σ H fun xs H1 => xs.length ≤ sizeLine ∧ ∀ p, H1 p = none → Q (.ref p) (upd H1 p (.tup xs))
def tLst (t : TA) : TE := fun σ H Q => t σ H fun xs H1 => xs.length ≤ sizeLine ∧ ∀ p, H1 p = none → Q (.ref p) (upd H1 p (.lst xs))
theorem pe_tup {x1} (h : PA X es t) : PE X (.Tuple es x1 pos) (tTup t) := by
  intro pins s σ H Q I hq
  refine wpAny_Tuple_spliced (thn (h pos pins s σ H _ I hq) fun us s1 ⟨xs, H1, I1, r, z, q⟩ => ⟨by rw [← r.length]; exact z, ?_⟩)
  have hf : H1 s1.heap.objs.size = none := I1.hok.fresh (Nat.le_refl _)
  refine ⟨.ref s1.heap.objs.size, upd H1 s1.heap.objs.size (.tup xs), I1.laid (t' := s1.toks) (fun b u e => Heap.get?_push_of_some _ e) (Nat.le_refl _) ?_, rfl, q _ hf⟩
  exact ⟨z, us, r, ⟨_, Heap.get?_push_size _ rfl, rfl, rfl, _, rfl⟩⟩
theorem pe_lst (h : PA X es t) : PE X (.List es pos) (tLst t) := by
  intro pins s σ H Q I hq
  refine wpAny_List_spliced (thn (h pos pins s σ H _ I hq) fun us s1 ⟨xs, H1, I1, r, z, q⟩ => ⟨by rw [← r.length]; exact z, ?_⟩)
  have hf : H1 s1.heap.objs.size = none := I1.hok.fresh (Nat.le_refl _)
  refine ⟨.ref s1.heap.objs.size, upd H1 s1.heap.objs.size (.lst xs), I1.laid (t' := s1.toks) (fun b u e => Heap.get?_push_of_some _ e) (Nat.le_refl _) ?_, rfl, q _ hf⟩
  exact ⟨z, us, 0, r, Heap.get?_push_size _ rfl⟩
end

/-! ### what a def promises -/
/-- a def's promise: the bound arguments in the parameters' order, the heap, the wanted end, the wanted exception -/
abbrev Sp := List V → Hp → VK → XK → Prop
/-- how an exception lies behind a call (file 08 gives it): the callers' frames, abstract heap and state ahead of the call, the wish, the exception, the state -/
abbrev CXT := List Env → Hp → Shared → XK → Value → Shared → Prop

/-- the state at a call -/
structure Env0 (P : Program) (w : World) (K : PySem.W.Frag) (mg : Str → Option Value) (base : Heap) (A : Around) (outer : List Env) (s : Shared) (H : Hp) : Prop where
  frames : A.frames = some outer
  mod : Mod K mg base
  bs : ∀ b o, base.get? b = some o → s.heap.get? b = some o ∧ H b = none
  bsz : base.objs.size ≤ s.heap.objs.size
  funs : s.heap.FunFrames base outer
  frf : ∀ b ∈ frs outer, H b = none
  hok : HOk P w H s.heap
  bare : AllBare s.gens
/-- a call's end -/
def CE (outer : List Env) (P : Program) (w : World) (H : Hp) (s : Shared) (Q : VK) (u : Value) (s' : Shared) : Prop :=
  ∃ v H', s'.os = s.os ∧ AllBare s'.gens ∧ Un (frs outer) [] H H' s.heap s'.heap ∧ HOk P w H' s'.heap ∧ RelV v u ∧ Q v H'
def CR (CX : CXT) (outer : List Env) (P : Program) (w : World) (H : Hp) (s : Shared) (Q : VK) (E : XK) (r : Result) (s' : Shared) : Prop :=
  match r with
  | .ok (.ret u) => CE outer P w H s Q u s'
  | .ok _ => False
  | .error e => CX outer H s E e s'
structure FnOk (P : Program) (w : World) (K : PySem.W.Frag) (mg : Str → Option Value) (base : Heap) (CX : CXT) (k : Nat) (f : Addr) (fd : FuncData) (ps : List Str) (sp : Sp) : Prop where
  len : ∀ vs H Q E, sp vs H Q E → vs.length = ps.length
  run : ∀ (A : Around) (outer : List Env) (s : Shared) (H : Hp) (args : Args) (us : List Value) (vs : List V) (Q : VK) (E : XK), Room k A → Env0 P w K mg base A outer s H → BindsTo s fd args (ps.zip us) → Vals vs us → sp vs H Q E →
    codeAny (model P w) A (.call (.ref f) args) (CR CX outer P w H s Q E) s
/-- a weaker promise -/
theorem FnOk.imp {P : Program} {w : World} {K : PySem.W.Frag} {mg : Str → Option Value} {base : Heap} {CX : CXT} {k : Nat} {f : Addr} {fd : FuncData} {ps : List Str} {sp sp' : Sp} (F : FnOk P w K mg base CX k f fd ps sp)
    (h : ∀ vs H Q E, sp' vs H Q E → sp vs H Q E) : FnOk P w K mg base CX k f fd ps sp' :=
  ⟨fun vs H Q E q => F.len vs H Q E (h _ _ _ _ q), fun A outer s H args us vs Q E hr he hb hv hs => F.run A outer s H args us vs Q E hr he hb hv (h _ _ _ _ hs)⟩

theorem Env0.make {P : Program} {w : World} {K : PySem.W.Frag} {mg : Str → Option Value} {base : Heap} {A : Around} {outer : List Env} {s : Shared} {H : Hp} (e : Env0 P w K mg base A outer s H) (C : Addr) (us : List Value) (kw : List (Str × Value)) :
    Env0 P w K mg base (A.under (.builtin "type.__call__" ⟨.ref C :: us, kw⟩)) outer s H := ⟨by first | exact e.frames | (simpa [Around.under, Code.envs, Code.isFrame, pushEnvs] using e.frames), e.mod, e.bs, e.bsz, e.funs, e.frf, e.hok, e.bare⟩
section
variable {X : Cx} {pins : List (Addr × Obj)} {σ : St} {H : Hp} {s s' : Shared}
/-- from a body: what a callee wants -/
theorem Inv.env0 (I : Inv X pins σ H s) : Env0 X.prog X.w X.K X.mg X.base X.A X.stack s H :=
  ⟨I.ok.frames, I.ok.mod, I.bs, Nat.le_trans I.ok.bsz I.sz, I.stack, I.stkFree, I.hok, I.bare⟩
/-- behind a call -/
theorem Inv.after {Q : VK} {u : Value} (I : Inv X pins σ H s) (h : CE X.stack X.prog X.w H s Q u s') : EP X pins σ Q u s' := by
  obtain ⟨v, H', os, bare, un, hok, r, q⟩ := h
  obtain ⟨hh, g, d, t, os'⟩ := s'
  obtain rfl : os' = s.os := os
  exact ⟨v, H', I.call (h' := hh) (g' := g) (d' := d) (t' := t) (ch := []) un hok bare (fun b z => absurd z (by simp)), r, q⟩
end

/-! ### calls -/
/-- f(..): the written arguments, then the defaults dvs; E: what is wanted of an exception -/
def tCall (sp : Sp) (dvs : List V) (E : XK) (t : TA) : TE := fun σ H Q => t σ H fun vs H1 => sp (vs ++ dvs) H1 Q E
/-- how the parameters are bound: us the positional arguments, kw the keywords' values by name, ds the defaults that fill up -/
def Binds (K : PySem.W.Frag) (fd : FuncData) (ps : List Str) (ds : List Value) : Prop :=
  ∀ (s : Shared) (us : List Value), K.In s.heap → (us ++ ds).length = ps.length → BindsTo s fd ⟨us, []⟩ (ps.zip (us ++ ds))
/-- every parameter is given -/
theorem Binds.all {K : PySem.W.Frag} {fd : FuncData} {ps : List Str} (h : ∀ us : List Value, us.length = ps.length → bindArgs fd ⟨us, []⟩ = pure (ps.zip us)) : Binds K fd ps [] := fun s us _ hl => by
  rw [List.append_nil] at hl ⊢
  exact .of_eq (h us hl)

/-- an exception of a callee reaches what this body wants of exceptions -/
def Passes (CX : CXT) (X : Cx) (E : XK) : Prop := ∀ (pins : List (Addr × Obj)) (σ : St) (H : Hp) (s : Shared) (e : Value) (s' : Shared), Inv X pins σ H s → CX X.stack H s E e s' → X.xe e s'

section
variable {X : Cx} {CX : CXT} {k : Nat} {f C : Addr} {fd : FuncData} {ps : List Str} {sp : Sp} {dvs : List V} {ds : List Value} {E : XK} {x m : Str} {p pos apos : Pos} {e o : Expr} {es : List Expr} {ta : TE} {t : TA}

/-- the callee runs -/
theorem run_fn {pins : List (Addr × Obj)} {σ : St} {H : Hp} {s : Shared} {Q : VK} {us : List Value} {vs : List V} (F : FnOk X.prog X.w X.K X.mg X.base CX k f fd ps sp) (hr : Room k X.A) (hb : Binds X.K fd ps ds) (hd : Vals dvs ds) (hx : Passes CX X E)
    (I : Inv X pins σ H s) (r : Vals vs us) (h : sp (vs ++ dvs) H Q E) : wpAny (model X.prog X.w) X.A (call (.ref f) us) (EP X pins σ Q) X.xe s := by
  have r2 : Vals (vs ++ dvs) (us ++ ds) := r.append hd
  have hl : (us ++ ds).length = ps.length := by rw [← r2.length]; exact F.len _ _ _ _ h
  refine wpAny_call (codeAny_mono (F.run X.A X.stack s H ⟨us, []⟩ (us ++ ds) (vs ++ dvs) Q E hr I.env0 (hb s us I.kIn hl) r2 h) fun r s' hq => ?_)
  cases r with
  | error e => exact hx pins σ H s e s' I hq
  | ok fl =>
    cases fl with
    | ret u => exact I.after hq
    | next => exact False.elim hq
    | brk => exact False.elim hq
    | cont => exact False.elim hq

theorem pe_call (F : FnOk X.prog X.w X.K X.mg X.base CX k f fd ps sp) (hr : Room k X.A) (hg : Gl X x) (hm : X.mg x = some (.ref f)) (hk : PySem.W.keepIn X.K (.ref f) = true) (hb : Binds X.K fd ps ds) (hd : Vals dvs ds) (hx : Passes CX X E)
    (ha : PA X (e :: es) t) (hdb : (x == ("__debug__" : Str)) = false := by decide) (he : starEach (e :: es) X.env = (false, eval e X.env) :: starEach es X.env := by rfl) (hpl : (backTo pos (starEach es X.env)).any (·.1) = false := by rfl) :
    PE X (.Call (.Name x p) (e :: es) [] pos) (tCall sp dvs E t) := by
  intro pins s σ H Q I h
  refine wpAny_Call_Name_kw (ld_glob I hg hm ?_ hdb)
  refine PySem.W.callWith_K (h₀ := X.base) I.ok.mod.kin hk (thn (ha pos pins s σ H _ I h) fun us s1 ⟨vs, H1, I1, r, q⟩ => ⟨I1.kIn, ?_⟩) he hpl
  exact run_fn F hr hb hd hx I1 r q
/-- what a class must have to be made -/
structure Mk (K : PySem.W.Frag) (C f : Addr) : Prop where
  makes : PySem.W.makesIn K C = true
  init : PySem.W.findIn K (.ref C) "__init__" = some (some (.ref f))
  fn : PySem.W.isFn K (.ref f) = true
  kp : PySem.W.keepIn K (.ref C) = true

end

/-! ### keywords -/
/-- the values of the keywords, from the left -/
def PK (X : Cx) (kws : List Keyword) (t : TA) : Prop :=
  ∀ (pos : Pos) (pins : List (Addr × Obj)) (s : Shared) (σ : St) (H : Hp) (Q : List V → Hp → Prop), Inv X pins σ H s → t σ H Q → wpAny (model X.prog X.w) X.A (evalAll ((backToKw pos (keywordEach kws X.env)).map (·.2))) (AP X pins σ Q) X.xe s
section
variable {X : Cx} {CX : CXT} {k : Nat} {f C : Addr} {fd : FuncData} {ps ks : List Str} {sp : Sp} {E : XK} {x m : Str} {p pos apos kpos : Pos} {e o : Expr} {es : List Expr} {kws : List Keyword} {te ta : TE} {t tk : TA} {nm : Option Str}
theorem pk_nil : PK X [] tNil := fun _ _ _ _ H Q I h => wpAny_evalAll_nil ⟨[], H, I, .nil, h⟩
theorem pk_cons (ha : PE X e te) (hr : PK X kws t) : PK X (⟨nm, e, kpos⟩ :: kws) (tCons te t) := by
  intro pos pins s σ H Q I h
  show wpAny _ _ (evalAll ((do let v ← eval e X.env; standAt pos; pure v) :: (backToKw pos (keywordEach kws X.env)).map (·.2))) _ _ s
  refine wpAny_evalAll_cons (wpAny_bind (thn (ha pins s σ H _ I h) fun u s1 ⟨x, H1, I1, r1, q1⟩ => wpAny_bind (wpAny_standAt (wpAny_pure ?_))))
  exact thn (hr pos pins s1 σ H1 _ I1 q1) fun us s2 ⟨xs, H2, I2, r2, q2⟩ => ⟨x :: xs, H2, I2, .cons r1 r2, q2⟩

/-- how a call with keywords binds: g puts the positional values us and the keywords' values ws (names ks) in the parameters' order, defaults among them -/
structure KBinds (K : PySem.W.Frag) (fd : FuncData) (ps ks : List Str) (g : List Value → List Value → List Value) (gV : List V → List V → List V) : Prop where
  to : ∀ (s : Shared) (us ws : List Value), K.In s.heap → (g us ws).length = ps.length → BindsTo s fd ⟨us, ks.zip ws⟩ (ps.zip (g us ws))
  rel : ∀ {vs : List V} {us : List Value} {zs : List V} {ws : List Value}, Vals vs us → Vals zs ws → Vals (gV vs zs) (g us ws)
variable {g : List Value → List Value → List Value} {gV : List V → List V → List V}
end

/-! ### a def's body keeps its promise -/
/-- names: the parameters first -/
structure FnScope (N P : List Str) (sc : Scope) : Prop where
  kind : sc.kind = .function
  co : sc.isCoroutine = false
  gen : sc.isGenerator = false
  nd : N.Nodup
  pre : N.take P.length = P
  par : ∀ x ∈ P, sc.names.lookup x = some .local ∨ sc.names.lookup x = some .cell
  nofree : ∀ y ∈ sc.names, y.2 ≠ .free

theorem bindL_out {kindOf : Str → Option NameKind} {x : Str} : ∀ {binds : List (Str × Value)} {m : Str → Option Value}, (∀ v, (x, v) ∉ binds) → bindL kindOf binds m x = m x
  | [], _, _ => rfl
  | (n, v) :: r, m, h => by
    unfold bindL
    rw [bindL_out fun w hw => h w (List.mem_cons_of_mem _ hw)]
    split
    · have : x ≠ n := by rintro rfl; exact h v List.mem_cons_self
      simp [this]
    · rfl
theorem bindC_out {kindOf : Str → Option NameKind} {x : Str} : ∀ {binds : List (Str × Value)} {m : Str → Option Value}, (∀ v, (x, v) ∉ binds) → bindC kindOf binds m x = m x
  | [], _, _ => rfl
  | (n, v) :: r, m, h => by
    unfold bindC
    rw [bindC_out fun w hw => h w (List.mem_cons_of_mem _ hw)]
    split
    · rfl
    · have : x ≠ n := by rintro rfl; exact h v List.mem_cons_self
      simp [this]
theorem bindL_get {kindOf : Str → Option NameKind} {x : Str} {v : Value} : ∀ {P : List Str} {vs : List Value} {i : Nat} {m : Str → Option Value}, P.Nodup → P[i]? = some x → vs[i]? = some v → kindOf x = some .local →
    bindL kindOf (P.zip vs) m x = some v
  | [], _, _, _, _, h, _, _ => by simp at h
  | _ :: _, [], _, _, _, _, h, _ => by simp at h
  | p :: P, w :: vs, 0, m, nd, h1, h2, hk => by
    simp at h1 h2; subst h1; subst h2
    show bindL kindOf ((p, w) :: P.zip vs) m p = _
    unfold bindL
    rw [bindL_out fun v hv => (List.nodup_cons.mp nd).1 (List.of_mem_zip hv).1, if_pos hk]
    simp
  | p :: P, w :: vs, i + 1, m, nd, h1, h2, hk => by
    show bindL kindOf ((p, w) :: P.zip vs) m x = _
    unfold bindL
    exact bindL_get (i := i) (List.nodup_cons.mp nd).2 (by simpa using h1) (by simpa using h2) hk
theorem bindC_get {kindOf : Str → Option NameKind} {x : Str} {v : Value} : ∀ {P : List Str} {vs : List Value} {i : Nat} {m : Str → Option Value}, P.Nodup → P[i]? = some x → vs[i]? = some v → kindOf x ≠ some .local →
    bindC kindOf (P.zip vs) m x = some v
  | [], _, _, _, _, h, _, _ => by simp at h
  | _ :: _, [], _, _, _, _, h, _ => by simp at h
  | p :: P, w :: vs, 0, m, nd, h1, h2, hk => by
    simp at h1 h2; subst h1; subst h2
    show bindC kindOf ((p, w) :: P.zip vs) m p = _
    unfold bindC
    rw [bindC_out fun v hv => (List.nodup_cons.mp nd).1 (List.of_mem_zip hv).1, if_neg hk]
    simp
  | p :: P, w :: vs, i + 1, m, nd, h1, h2, hk => by
    show bindC kindOf ((p, w) :: P.zip vs) m x = _
    unfold bindC
    exact bindC_get (i := i) (List.nodup_cons.mp nd).2 (by simpa using h1) (by simpa using h2) hk

/-- the names' values at the entry -/
def start (N : List Str) (vs : List V) : St := vs.map some ++ List.replicate (N.length - vs.length) none

/-- the context of a def's body, at its entry; an exception leaves the frame, then lies as CX says -/
def cxOf (CX : CXT) (P : Program) (w : World) (K : PySem.W.Frag) (mg : Str → Option Value) (base : Heap) (N : List Str) (qual : Str) (scope : Scope) (f : Addr) (cd : Value) (A : Around) (outer : List Env) (s : Shared) (H : Hp) (E : XK) : Cx where
  prog := P
  w := w
  K := K
  mg := mg
  base := base
  A := A.deeper (envOfC qual scope s.heap.objs.size f cd)
  N := N
  s₀ := s
  H₀ := H
  env := envOfC qual scope s.heap.objs.size f cd
  outer := outer
  stack := envOfC qual scope s.heap.objs.size f cd :: outer
  ex := []
  calm := true
  fn := fun _ => true
  pn := []
  xe := fun e s' => wpAny (model P w) (A.deeper (envOfC qual scope s.heap.objs.size f cd)) (leaving (envOfC qual scope s.heap.objs.size f cd) e) (fun _ s'' => CX outer H s E e s'') (fun e' s'' => CX outer H s E e' s'') s'

theorem cell_has {sc : Scope} {n : Nat} {x : Str} (h : sc.names.lookup x = some .cell) : ∃ c, (cellsFrom n sc.names []).lookup x = some c := by
  have q := PySem.W.cellsFrom_some sc.names n [] (.inl h)
  exact Option.isSome_iff_exists.mp q

theorem inv_start {CX : CXT} {P : Program} {w : World} {K : PySem.W.Frag} {mg : Str → Option Value} {base : Heap} {N ps : List Str} {qual : Str} {scope : Scope} {f : Addr} {cd : Value} {A : Around} {outer : List Env} {s s1 : Shared} {H : Hp} {E : XK} {us : List Value} {vs : List V}
    (S : FnScope N ps scope) (hd : A.handled = none) (e0 : Env0 P w K mg base A outer s H) (hl : vs.length = ps.length) (r : Vals vs us)
    (x : InCallC s s.heap.objs.size (bindL (envOfC qual scope s.heap.objs.size f cd).kindOf (ps.zip us) fun _ => none) (cellsFrom (s.heap.objs.size + 1) scope.names []) (bindC (envOfC qual scope s.heap.objs.size f cd).kindOf (ps.zip us) fun _ => none) s1) :
    Inv (cxOf CX P w K mg base N qual scope f cd A outer s H E) [] (start N vs) H s1 := by
  have hpl : ps.length ≤ N.length := by have := congrArg List.length S.pre; rw [List.length_take] at this; omega
  obtain ⟨h1, tk, rfl, hk⟩ := x.done
  have noA : ∀ b : Addr, b ∉ (cxOf CX P w K mg base N qual scope f cd A outer s H E).ex := fun b z => absurd (show b ∈ ([] : List Addr) from z) (by simp)
  refine ⟨⟨e0.mod, S.kind, rfl, rfl, Nat.le_refl _, fun y z c h1 h2 => ?_, fun y hy => ?_, fun y c _ h => ?_, fun _ => hd, Around.frames_deeper e0.frames, .inr ⟨rfl, rfl⟩, fun b z => absurd z (noA b), e0.bs, e0.bsz, fun b _ _ => noA b, fun b z => absurd z (noA b), e0.funs, e0.frf⟩,
    rfl, e0.bare, Un.kept hk, ⟨_, x.toInCall.ns, fun i y v h1 h2 h3 => ?_⟩, fun y c h => ⟨_, x.cell y c h⟩, e0.hok.fresh (Nat.le_refl _), fun y c h => ?_, fun p hp => absurd (show p ∈ ([] : List (Addr × Obj)) from hp) (by simp), e0.hok.kept hk, ?_⟩
  · exact name_of_addr x.apart (PySem.mem_of_lookup h1) (PySem.mem_of_lookup h2)
  · have hy : scope.names.lookup y = some .cell ∨ scope.names.lookup y = some .free := hy
    rcases hy with hy | hy
    · exact cell_has hy
    · exact absurd rfl (S.nofree _ (PySem.mem_of_lookup hy))
  · exact Nat.le_of_lt (x.above y c (PySem.mem_of_lookup h))
  · have hi : i < vs.length := by
      unfold start at h2
      by_cases hi : i < vs.length
      · exact hi
      · rw [List.getElem?_append_right (by simpa using hi)] at h2
        rw [List.getElem?_replicate] at h2
        split at h2 <;> cases h2
    have ha : vs[i]? = some v := by
      unfold start at h2
      rw [List.getElem?_append_left (by simpa using hi), List.getElem?_map] at h2
      cases e : vs[i]? with
      | none => rw [e] at h2; cases h2
      | some a => rw [e] at h2; cases h2; rfl
    obtain ⟨u, hu, rv⟩ := r.get ha
    have hp : ps[i]? = some y := by
      rw [← S.pre, List.getElem?_take_of_lt (by omega)]; exact h1
    have ndP : ps.Nodup := by rw [← S.pre]; exact S.nd.sublist (List.take_sublist _ _)
    refine ⟨u, rv, ?_⟩
    rcases S.par y (List.mem_of_getElem? hp) with k | k
    · exact .inl ⟨k, bindL_get ndP hp hu k⟩
    · obtain ⟨c, e⟩ := cell_has (n := s.heap.objs.size + 1) k
      refine .inr ⟨.inl k, c, e, ?_⟩
      have q := x.cell y c e
      rw [bindC_get ndP hp hu (by show scope.names.lookup y ≠ _; rw [k]; decide)] at q
      exact q
  · exact e0.hok.fresh (Nat.le_of_lt (x.above y c (PySem.mem_of_lookup h)))
  · unfold start
    show _ = N.length
    rw [List.length_append, List.length_map, List.length_replicate]
    omega

/-- THE RULE: a def (or a method) of the text, by its body. The body's reading t is chosen for each entry; it is run at the parameters' values -/
theorem fn_of {CX : CXT} {P : Program} {w : World} {K : PySem.W.Frag} {mg : Str → Option Value} {base : Heap} {k : Nat} {f : Addr} {name qual : Str} {params : Arguments} {body : List Stmt} {scope : Scope} {dV kV doc pm cdv ct oc : Value} {an od : Option Addr}
    {osl : Array (Option Value)} {N ps : List Str} {sp : Sp} (lk : K.lookup f = some ⟨oc, od, .func (PySem.W.fnOf name qual params body scope dV kV doc pm an cdv ct), osl⟩) (hcd : PySem.W.codeIn K cdv qual = true) (S : FnScope N ps scope)
    (len : ∀ vs H Q E, sp vs H Q E → vs.length = ps.length)
    (hbody : ∀ (A : Around) (outer : List Env) (s : Shared) (H : Hp) (vs : List V) (Q : VK) (E : XK), Room k (A.deeper (envOfC qual scope s.heap.objs.size f cdv)) → sp vs H Q E →
      ∃ t, PSs (cxOf CX P w K mg base N qual scope f cdv A outer s H E) body t ∧ t { nx := fun _ H' => Q .non H', rt := Q } (start N vs) H) :
    FnOk P w K mg base CX (k + 1) f (PySem.W.fnOf name qual params body scope dV kV doc pm an cdv ct) ps sp := by
  refine ⟨len, fun A outer s H args us vs Q E hr e0 hb r hsp => ?_⟩
  have hl := len _ _ _ _ hsp
  have KX : K.In s.heap := e0.mod.kin.keeps fun b o e => (e0.bs b o e).1
  have lim : s.heap.NoLimit := e0.mod.nolimit.keeps fun b o e => (e0.bs b o e).1
  have hkind : ∀ y ∈ ps.zip us, scope.names.lookup y.1 = some .local ∨ (scope.names.lookup y.1 = some .cell ∧ ((cellsFrom (s.heap.objs.size + 1) scope.names []).lookup y.1).isSome = true) := fun ⟨n, v⟩ hy => by
    rcases S.par n (List.of_mem_zip hy).1 with q | q
    · exact .inl q
    · exact .inr ⟨q, PySem.W.cellsFrom_some _ _ _ (.inl q)⟩
  refine codeAny_call_function hr.depth (KX _ _ lk) rfl S.co S.gen rfl (PySem.W.codeRec_of KX hcd) (hb _ _ _ _ ?_)
  refine wpAny_newFunctionEnv_cells S.kind hkind fun env he s1 x => ?_
  subst he
  refine ⟨lim.keeps x.toInCall.keep, codeAny_func ?_⟩
  obtain ⟨t, ht, hq⟩ := hbody A outer s H vs Q E (hr.deeper _) hsp
  have I : Inv (cxOf CX P w K mg base N qual scope f cdv A outer s H E) [] (start N vs) H s1 := inv_start S hr.hd e0 hl r x
  refine wpAny_mono (ht [] s1 (start N vs) H _ I hq) (fun fl s' hs => ?_) fun e s' hs => hs
  have fin : ∀ {σ' : St} {H' : Hp} {v : V} {u : Value}, Inv (cxOf CX P w K mg base N qual scope f cdv A outer s H E) [] σ' H' s' → RelV v u → Q v H' → CE outer P w H s Q u s' :=
    fun {σ' H' v u} J rv q => ⟨v, H', J.os, J.bare, J.base, J.hok, rv, q⟩
  cases fl with
  | ret u =>
    obtain ⟨v, σ', H', J, rv, q⟩ := hs
    exact fin J rv q
  | next =>
    obtain ⟨σ', H', J, q⟩ := hs
    exact fin (v := V.non) (u := Value.none) J rfl q
  | brk =>
    obtain ⟨_, _, _, q⟩ := hs
    exact False.elim q
  | cont =>
    obtain ⟨_, _, _, q⟩ := hs
    exact False.elim q
end L2

namespace L2
open PySem PySem.Spec PyProof.Rows
section
variable {X : Cx} {x : Str} {p pos : Pos} {e : Expr} {es : List Expr} {t : TA} {id T : String} {r : List V → Hp → VK → Prop}

def tCB (r : List V → Hp → VK → Prop) (t : TA) : TE := fun σ H Q => t σ H fun vs H1 => r vs H1 Q
/-- f(e, ..), f a built-in function -/
theorem pe_callB (hc : CallR X (.builtin id) r) (hg : Gl X x) (hm : X.mg x = none) (hv : bootBuiltins x = some (.builtin id)) (ha : PA X (e :: es) t) (hn : x ≠ "__name__" := by decide) (hdb : (x == ("__debug__" : Str)) = false := by decide)
    (he : starEach (e :: es) X.env = (false, eval e X.env) :: starEach es X.env := by rfl) (hpl : (backTo pos (starEach es X.env)).any (·.1) = false := by rfl) : PE X (.Call (.Name x p) (e :: es) [] pos) (tCB r t) := by
  intro pins s σ H Q I h
  refine wpAny_Call_Name_kw (ld_blt I hg hm hv ?_ hn hdb)
  exact PyProof.Rows.callWith_builtin1 (thn (ha pos pins s σ H _ I h) fun us s1 ⟨vs, H1, I1, r1, q1⟩ => hc pins s1 σ H1 vs us Q I1 r1 q1) he hpl
/-- T(e, ..), T a built-in type -/
theorem pe_callTy (hc : CallR X (.type T) r) (hg : Gl X x) (hm : X.mg x = none) (hv : bootBuiltins x = some (.type T)) (ha : PA X (e :: es) t) (hn : x ≠ "__name__" := by decide) (hdb : (x == ("__debug__" : Str)) = false := by decide)
    (he : starEach (e :: es) X.env = (false, eval e X.env) :: starEach es X.env := by rfl) (hpl : (backTo pos (starEach es X.env)).any (·.1) = false := by rfl) : PE X (.Call (.Name x p) (e :: es) [] pos) (tCB r t) := by
  intro pins s σ H Q I h
  refine wpAny_Call_Name_kw (ld_blt I hg hm hv ?_ hn hdb)
  exact PyProof.Rows.callWith_type1 (thn (ha pos pins s σ H _ I h) fun us s1 ⟨vs, H1, I1, r1, q1⟩ => hc pins s1 σ H1 vs us Q I1 r1 q1) he hpl
end
end L2

namespace HT
open PySem PyProof.Rows

section
open PySem.SeqAt
open PySem.AutoSeq1 (wpAny_loadPart')
open PySem.MeetsSeq PySem.MeetsSeq2 PySem.MeetsSeq3

end

section
variable {prog : Program} {w : World} {A : Around} {E : Value → Shared → Prop} {s : Shared}

/-- t + u, t not empty -/
theorem cat_tup {t b : Addr} {vs ws : List Value} {Q : Value → Shared → Prop} (ht : IsTup s.heap t vs.toArray) (hb : IsTup s.heap b ws.toArray) (hv : vs ≠ [])
    (h1 : ws = [] → Q (.ref t) s) (h2 : ws ≠ [] → Q (.ref s.heap.objs.size) { s with heap := s.heap.push { cls := .type "tuple", data := .seq (vs ++ ws).toArray } })
    (hsz : vs.length + ws.length ≤ sizeLine) : wpAny (model prog w) A (binaryOp .Add (.ref t) (.ref b)) Q E s := by
  obtain ⟨⟨cls, dd, data, sl⟩, ho, hc, n, hd⟩ := id ht
  obtain ⟨⟨cls2, dd2, data2, sl2⟩, ho2, hc2, n2, hd2⟩ := id hb
  simp only at hc hd hc2 hd2
  subst hc hd hc2 hd2
  have e : vs.toArray ++ ws.toArray = (vs ++ ws).toArray := by simp
  by_cases hw : ws = []
  · exact concat_meets ⟨_, ho, rfl⟩ ⟨_, ho2, rfl⟩ noFill_tuple_add seq_tuple_add PySem.F.slot_tuple_add PySem.F.entry_tuple_add (PySem.F.args_tuple_add_2 _ _)
      (tuple_addW1 t b vs.toArray ws.toArray n n2 dd dd2 sl sl2 (by simpa using hv) (by simp [hw])) ⟨ho, ho2, h1 hw⟩
  · refine concat_meets ⟨_, ho, rfl⟩ ⟨_, ho2, rfl⟩ noFill_tuple_add seq_tuple_add PySem.F.slot_tuple_add PySem.F.entry_tuple_add (PySem.F.args_tuple_add_2 _ _)
      (tuple_addW2 t b vs.toArray ws.toArray n n2 dd dd2 sl sl2 (by simpa using hv) (by simpa using hw) (by rw [List.size_toArray, List.size_toArray]; exact hsz)) ⟨ho, ho2, ?_⟩
    rw [e]
    exact h2 hw

/-! ### t[a:b], not the whole -/
/-- a slice's bound as a place among n (d where it is left out) -/
def sIx (n d : Nat) : Option Int → Nat
  | none => d
  | some v => if v < 0 then (v + (n : Int)).toNat else min v.toNat n
theorem sIx_nat (n d k : Nat) : sIx n d (some (k : Int)) = min k n := by
  show (if (k : Int) < 0 then ((k : Int) + (n : Int)).toNat else min (k : Int).toNat n) = min k n
  rw [if_neg (by omega), Int.toNat_natCast]
theorem sIx_le (n d : Nat) (hd : d ≤ n) (o : Option Int) : sIx n d o ≤ n := by
  cases o with
  | none => exact hd
  | some v =>
    show (if v < 0 then (v + (n : Int)).toNat else min v.toNat n) ≤ n
    by_cases hv : v < 0
    · rw [if_pos hv]; omega
    · rw [if_neg hv]; exact Nat.min_le_right _ _
theorem clip_eq (v : Int) (n d : Nat) : (if v < 0 then max (v + (n : Int)) 0 else min v (n : Int)) = ((sIx n d (some v) : Nat) : Int) := by
  show (if v < 0 then max (v + (n : Int)) 0 else min v (n : Int)) = (((if v < 0 then (v + (n : Int)).toNat else min v.toNat n) : Nat) : Int)
  by_cases hv : v < 0
  · simp only [if_pos hv]; omega
  · simp only [if_neg hv]; omega
theorem adjust_gen (lo hi : Option Int) (n : Nat) : Builtin.Slice.sliceAdjust lo hi 1 (n : Int) = (((sIx n 0 lo : Nat) : Int), ((sIx n n hi : Nat) : Int)) := by
  have h1 : ¬ ((1 : Int) < 0) := by omega
  unfold Builtin.Slice.sliceAdjust
  simp only [h1, if_false]
  refine Prod.ext ?_ ?_
  · cases lo with
    | none => rfl
    | some v => exact clip_eq v n 0
  · cases hi with
    | none => rfl
    | some v => exact clip_eq v n n
theorem places_gen (i j : Nat) : Builtin.Slice.slicePlaces (i : Int) (j : Int) 1 = j - i := by
  unfold Builtin.Slice.slicePlaces
  have h1 : (1 : Int) > 0 := by omega
  simp only [h1, if_true, Int.ediv_one]
  split <;> omega
theorem slicePart_ {v : Value} {o : Option Int} {Q : Option Int → Shared → Prop} (p : IsPart v o) (h : Q o s) : wpAny (model prog w) A (Builtin.Slice.slicePartIndex v) Q E s := by
  cases p with
  | none => exact slicePart_none h
  | int i t => exact slicePart_int h
theorem sliceApplied_gen {sl : Addr} {vl vu : Value} {lo hi : Option Int} {n : Nat} {Q : Int × Int × Nat → Shared → Prop} (hs : s.heap.IsSliceOf sl vl vu .none) (pl : IsPart vl lo) (pu : IsPart vu hi)
    (h : Q (((sIx n 0 lo : Nat) : Int), 1, sIx n n hi - sIx n 0 lo) s) : wpAny (model prog w) A (Builtin.Slice.sliceApplied (.ref sl) (pure (n : Int))) Q E s := by
  obtain ⟨os, hos, hcs, hds⟩ := id hs
  unfold Builtin.Slice.sliceApplied Builtin.Slice.sliceFields
  refine wpAny_bind (wpAny_bind (wpAny_field hos hds (x := vl) rfl (wpAny_bind (wpAny_field hos hds (x := vu) rfl (wpAny_bind (wpAny_field hos hds (x := .none) rfl (wpAny_pure ?_)))))))
  refine wpAny_bind (slicePart_none ?_)
  show wpAny _ _ (if ((1 : Int) == 0) = true then _ else _) _ _ s
  rw [if_neg (by decide)]
  refine wpAny_bind (slicePart_ pl (wpAny_bind (slicePart_ pu (wpAny_bind (wpAny_pure ?_)))))
  show wpAny _ _ (match Builtin.Slice.sliceAdjust lo hi 1 (n : Int) with | (lo, hi) => pure (lo, (1 : Int), Builtin.Slice.slicePlaces lo hi 1)) _ _ s
  rw [adjust_gen lo hi n]
  show wpAny _ _ (pure (((sIx n 0 lo : Nat) : Int), (1 : Int), Builtin.Slice.slicePlaces ((sIx n 0 lo : Nat) : Int) ((sIx n n hi : Nat) : Int) 1)) _ _ s
  rw [places_gen]
  exact wpAny_pure h
theorem pick_gen (xs : Array Value) (i k : Nat) : ((List.range k).filterMap fun (m : Nat) => xs[((i : Int) + (m : Int) * 1).toNat]?).toArray = ((xs.toList.drop i).take k).toArray := by
  have e : (fun (m : Nat) => xs[((i : Int) + (m : Int) * 1).toNat]?) = fun m => xs[i + m]? := by
    funext m
    have : ((i : Int) + (m : Int) * 1).toNat = i + m := by omega
    rw [this]
  rw [e]
  have := pick_run xs i k
  rw [List.filterMap_map] at this
  have e2 : ((fun x => xs[x]?) ∘ fun x => i + x) = fun m => xs[i + m]? := rfl
  rw [e2] at this
  rw [this]

theorem getItem_tuple_cut {t sl : Addr} {items : Array Value} {vl vu : Value} {lo hi : Option Int} {Q : Value → Shared → Prop} (ht : IsTup s.heap t items) (hs : s.heap.IsSliceOf sl vl vu .none) (pl : IsPart vl lo) (pu : IsPart vu hi)
    (hw : ¬ (sIx items.size 0 lo = 0 ∧ sIx items.size items.size hi = items.size))
    (h : Q (.ref s.heap.objs.size) { s with heap := s.heap.push { cls := .type "tuple", data := .seq ((items.toList.drop (sIx items.size 0 lo)).take (sIx items.size items.size hi - sIx items.size 0 lo)).toArray } })
    (hsz : items.size ≤ sizeLine) : wpAny (model prog w) A (getItem (.ref t) (.ref sl)) Q E s := by
  have htake : sizeOk (.seq ((items.toList.drop (sIx items.size 0 lo)).take (sIx items.size items.size hi - sIx items.size 0 lo)).toArray) := by
    show ((items.toList.drop (sIx items.size 0 lo)).take (sIx items.size items.size hi - sIx items.size 0 lo)).toArray.size ≤ sizeLine
    rw [List.size_toArray, List.length_take, List.length_drop, Array.length_toList]
    omega
  have hj : sIx items.size items.size hi ≤ items.size := sIx_le _ _ (Nat.le_refl _) hi
  obtain ⟨os, hos, hcs, hds⟩ := id hs
  have hTs : s.TypeIs (.ref sl) "slice" := ⟨os, hos, hcs⟩
  unfold getItem
  try with_reducible refine wpAny_holding ?_
  first | refine wpAny_bind (wpAny_pure ?_) | skip
  refine wpAny_bind (wpAny_sequenceKey ht.typeIs (by decide) ?_)
  refine wpAny_bind (wpAny_callSpecial?_slot (name := Str.ofString "__getitem__") ht.typeIs PyProof.Rows.slot_tuple_getitem
    (wpAny_call_entry PyProof.Rows.slot_tuple_getitem ht.typeIs entry_tuple_getitem ?_ (args_tuple_getitem _ _)))
  show wpAny _ _ (Builtin.Tuple.tupleItemsOf (.ref t) >>= _) _ _ s
  refine wpAny_bind (tupleItemsOf_ ht ?_)
  refine wpAny_bind (wpAny_typeOf hTs ?_)
  rw [if_pos (by decide)]
  refine wpAny_bind (sliceApplied_gen hs pl pu ?_)
  have hno : ¬ ((((sIx items.size 0 lo : Nat) : Int) == 0 && (1 : Int) == 1 && (sIx items.size items.size hi - sIx items.size 0 lo) == items.size) = true) := by
    intro q
    rw [Bool.and_eq_true, Bool.and_eq_true] at q
    have q1 : ((sIx items.size 0 lo : Nat) : Int) = 0 := eq_of_beq q.1.1
    have q2 : sIx items.size items.size hi - sIx items.size 0 lo = items.size := eq_of_beq q.2
    exact hw ⟨by omega, by omega⟩
  show wpAny _ _ (if (((sIx items.size 0 lo : Nat) : Int) == 0 && (1 : Int) == 1 && (sIx items.size items.size hi - sIx items.size 0 lo) == items.size) = true then _ else _) _ _ s
  rw [if_neg hno, pick_gen]
  first
    | exact wpAny_bind (m := Builtin.Tuple.tupleExact _) (wpAny_newObj_type (wpAny_pure ⟨_, rfl, wpAny_pure h⟩) htake)
    | exact wpAny_bind (m := Builtin.Tuple.tupleExact _) (wpAny_newObj_type (wpAny_bind (wpAny_pure (wpAny_pure ⟨_, rfl, wpAny_pure h⟩))) htake)
    | exact wpAny_bind (wpAny_bind (m := Builtin.Tuple.tupleExact _) (wpAny_newObj_type (wpAny_pure (wpAny_pure ⟨_, rfl, wpAny_pure h⟩)) htake))
    | exact wpAny_bind (wpAny_bind (m := Builtin.Tuple.tupleExact _) (wpAny_newObj_type (wpAny_pure ⟨_, rfl, wpAny_pure h⟩) htake))
end
end HT

namespace L2
open PySem PySem.Spec PyProof.Rows

/-! ### the parts of a slice -/
abbrev TO := St → Hp → (Option Int → Hp → Prop) → Prop
/-- a slice's part (left out, or an int) -/
def PO (X : Cx) (e : Option Expr) (t : TO) : Prop :=
  ∀ (pins : List (Addr × Obj)) (s : Shared) (σ : St) (H : Hp) (Q : Option Int → Hp → Prop), Inv X pins σ H s → t σ H Q →
    wpAny (model X.prog X.w) X.A (evalPart e X.env) (fun u s' => ∃ o H', Inv X pins σ H' s' ∧ IsPart u o ∧ Q o H') X.xe s
def tNoPart : TO := fun _ H Q => Q none H
def tPart (t : TE) : TO := fun σ H Q => t σ H fun x H1 => ∃ i, x = .int i ∧ Q (some i) H1

theorem intsAre_of {ns : List Int} : ∀ {us : List Value}, Vals (ns.map V.int) us → IntsAre us ns := by
  induction ns with
  | nil => intro us r; rw [List.map_nil] at r; cases r; exact .nil
  | cons n ns ih =>
    intro us r
    rw [List.map_cons] at r
    cases r with
    | cons r1 r2 =>
      obtain ⟨t, e⟩ := r1
      subst e
      exact .cons n t (ih r2)

section
variable {X : Cx} {e : Expr} {te : TE} {lo hi : Option Expr} {tl th : TO} {pos p2 : Pos}

theorem po_none : PO X none tNoPart := by
  intro pins s σ H Q I h
  rw [evalPart_none]
  exact wpAny_pure ⟨none, H, I, .none, h⟩
theorem po_some (h : PE X e te) : PO X (some e) (tPart te) := by
  intro pins s σ H Q I hw
  rw [evalPart_some]
  refine thn (h pins s σ H _ I hw) fun u s1 ⟨x, H1, I1, r1, q1⟩ => ?_
  obtain ⟨i, rfl, q⟩ := q1
  obtain ⟨t, rfl⟩ := r1
  exact ⟨some i, H1, I1, .int i t, q⟩

/-- what a slice of a value is, by values: the slice object stands at sl -/
def SlR (X : Cx) (r : V → Option Int → Option Int → Hp → VK → Prop) : Prop :=
  ∀ (pins : List (Addr × Obj)) (s : Shared) (σ : St) (H : Hp) (x : V) (v vl vu : Value) (lo hi : Option Int) (sl : Addr) (Q : VK), Inv X pins σ H s → RelV x v → s.heap.IsSliceOf sl vl vu .none → IsPart vl lo → IsPart vu hi → r x lo hi H Q →
    ∃ T id, typeLookup (.type T) "__getitem__" = pure (some (.builtin id)) ∧ s.TypeIs v T ∧ wpAny (model X.prog X.w) X.A (getItem v (.ref sl)) (EP X pins σ Q) X.xe s
def tSl (r : V → Option Int → Option Int → Hp → VK → Prop) (te : TE) (tl th : TO) : TE := fun σ H Q => te σ H fun x H1 => tl σ H1 fun l H2 => th σ H2 fun u H3 => r x l u H3 Q
/-- a[lo:hi], any a -/
theorem pe_slice {r : V → Option Int → Option Int → Hp → VK → Prop} (hr : SlR X r) (he : PE X e te) (hl : PO X lo tl) (hu : PO X hi th) : PE X (.Subscript e (.Slice lo hi none p2) pos) (tSl r te tl th) := by
  intro pins s σ H Q I h
  refine Subscript_ (thn (he pins s σ H _ I h) fun v s1 ⟨x, H1, I1, r1, q1⟩ => ?_)
  refine wpAny_Slice (thn (hl pins s1 σ H1 _ I1 q1) fun vl s2 ⟨l, H2, I2, pl, q2⟩ => thn (hu pins s2 σ H2 _ I2 q2) fun vu s3 ⟨u, H3, I3, pu, q3⟩ => ?_)
  rw [evalPart_none]
  refine wpAny_pure ?_
  have I4 : Inv X pins σ H3 { s3 with heap := s3.heap.push { cls := .type "slice", data := .fields #[vl, vu, .none] } } := I3.kept (t' := s3.toks) fun b ob q => Heap.get?_push_of_some _ q
  obtain ⟨T, id, hT, ht, hg⟩ := hr pins { s3 with heap := s3.heap.push { cls := .type "slice", data := .fields #[vl, vu, .none] } } σ H3 x v vl vu l u s3.heap.objs.size Q I4 r1 (Heap.IsSliceOf.new ..) pl pu q3
  show wpAny (model X.prog X.w) X.A (subscriptTail e (.Slice lo hi none p2) v (.ref s3.heap.objs.size)) (EP X pins σ Q) X.xe { s3 with heap := s3.heap.push { cls := .type "slice", data := .fields #[vl, vu, .none] } }
  exact tail_any (ops := [.ref s3.heap.objs.size, v]) ht hT hg (by with_unfolding_all rfl)

/-- the items of xs[lo:hi] -/
def cutV (xs : List V) (lo hi : Option Int) : List V := (xs.drop (HT.sIx xs.length 0 lo)).take (HT.sIx xs.length xs.length hi - HT.sIx xs.length 0 lo)
theorem cutV_length (xs : List V) (lo hi : Option Int) : (cutV xs lo hi).length ≤ xs.length := by
  unfold cutV
  rw [List.length_take, List.length_drop]
  omega
/-- t[lo:hi], not the whole of it (the whole would be t itself) -/
def rSlT (K : PySem.W.Frag) : V → Option Int → Option Int → Hp → VK → Prop := fun x lo hi H Q => ∃ a xs, x = .ref a ∧ SqT K H a xs ∧
  ¬ (HT.sIx xs.length 0 lo = 0 ∧ HT.sIx xs.length xs.length hi = xs.length) ∧ ∀ p, H p = none → Q (.ref p) (upd H p (.tup (cutV xs lo hi)))
theorem sl_tup : SlR X (rSlT X.K) := by
  intro pins s σ H x v vl vu lo hi sl Q I rx hs pl pu h
  obtain ⟨a, xs, rfl, hx, hw, q⟩ := h
  cases rx
  obtain ⟨its, r, ht, hz⟩ := I.tuple hx
  have hlen : its.toArray.size = xs.length := by rw [List.size_toArray]; exact r.length.symm
  refine ⟨"tuple", _, PyProof.Rows.slot_tuple_getitem.lookup, ht.typeIs, ?_⟩
  refine HT.getItem_tuple_cut ht hs pl pu (by rw [hlen]; exact hw) ?_ (by rw [hlen]; exact hz)
  rw [hlen]
  refine ⟨.ref s.heap.objs.size, _, I.laid (t' := s.toks) (o := .tup (cutV xs lo hi)) (fun b ob q => Heap.get?_push_of_some _ q) (Nat.le_refl _) ?_, rfl, q _ (I.hok.fresh (Nat.le_refl _))⟩
  exact ⟨Nat.le_trans (cutV_length xs lo hi) hz, _, (r.drop (HT.sIx xs.length 0 lo)).take (HT.sIx xs.length xs.length hi - HT.sIx xs.length 0 lo), IsTupD.new _ _⟩

/-! ### t < u, t + u -/
/-- t + u, t not empty: u empty gives t itself -/
def rCatT (K : PySem.W.Frag) : R2 := fun x y H Q => ∃ a b xs ys, x = .ref a ∧ y = .ref b ∧ SqT K H a xs ∧ SqT K H b ys ∧ xs ≠ [] ∧ xs.length + ys.length ≤ sizeLine ∧
  (ys = [] → Q (.ref a) H) ∧ (ys ≠ [] → ∀ p, H p = none → Q (.ref p) (upd H p (.tup (xs ++ ys))))
theorem Vals.nil_iff {xs : List V} {us : List Value} (r : Vals xs us) : us = [] ↔ xs = [] := by
  cases r with
  | nil => simp
  | cons _ _ => simp
theorem op_catT : OpR X (binaryOp .Add) (rCatT X.K) := by
  intro pins s σ H x y v u Q I rx ry h
  obtain ⟨a, b, xs, ys, rfl, rfl, ha, hb, hx, hz, q1, q2⟩ := h
  cases rx
  cases ry
  obtain ⟨its, r1, p1, _⟩ := I.tuple ha
  obtain ⟨its2, r2, p2, _⟩ := I.tuple hb
  refine HT.cat_tup p1 p2 (fun z => hx (r1.nil_iff.mp z)) (fun z => ⟨.ref a, H, I, rfl, q1 (r2.nil_iff.mp z)⟩) (fun z => ?_) (by rw [← r1.length, ← r2.length]; exact hz)
  refine ⟨.ref s.heap.objs.size, _, I.laid (t' := s.toks) (o := .tup (xs ++ ys)) (fun b ob q => Heap.get?_push_of_some _ q) (Nat.le_refl _) ?_, rfl, q2 (fun w => z (r2.nil_iff.mpr w)) _ (I.hok.fresh (Nat.le_refl _))⟩
  exact ⟨by rw [List.length_append]; exact hz, _, r1.append r2, IsTupD.new _ _⟩
end
end L2

namespace L2
open PySem PySem.Spec PyProof.Rows

/-! ### places -/
/-- the place that an index of any sign means -/
def ixN (n : Nat) (i : Int) : Option Nat := if 0 ≤ i then (if i < n then some i.toNat else none) else if -(n : Int) ≤ i then some (i + n).toNat else none
def atI {α : Type} (xs : List α) (i : Int) : Option α := (ixN xs.length i).bind fun j => xs[j]?
theorem ixN_seq {n : Nat} {i : Int} {j : Nat} (h : ixN n i = some j) : seqIndex? i n = some j ∧ j < n ∧ -(n : Int) ≤ i ∧ i < n := by
  unfold ixN at h
  by_cases h0 : 0 ≤ i
  · rw [if_pos h0] at h
    by_cases h1 : i < n
    · rw [if_pos h1] at h
      have e : i.toNat = j := Option.some.inj h
      exact ⟨by rw [seqIndex_of h0 h1, e], by omega, by omega, h1⟩
    · rw [if_neg h1] at h; cases h
  · rw [if_neg h0] at h
    by_cases h1 : -(n : Int) ≤ i
    · rw [if_pos h1] at h
      have e : (i + n).toNat = j := Option.some.inj h
      exact ⟨by rw [seqIndex_neg (by omega) h1, e], by omega, h1, by omega⟩
    · rw [if_neg h1] at h; cases h
theorem atI_get {α : Type} {xs : List α} {i : Int} {v : α} (h : atI xs i = some v) : ∃ j, seqIndex? i xs.length = some j ∧ xs[j]? = some v ∧ j < xs.length ∧ -(xs.length : Int) ≤ i ∧ i < xs.length := by
  unfold atI at h
  cases e : ixN xs.length i with
  | none => rw [e] at h; cases h
  | some j =>
    rw [e] at h
    obtain ⟨h1, h2, h3, h4⟩ := ixN_seq e
    exact ⟨j, h1, h, h2, h3, h4⟩
theorem atI_nat {α : Type} {xs : List α} {j : Nat} {v : α} (h : xs[j]? = some v) : atI xs (j : Int) = some v := by
  have hj : j < xs.length := (List.getElem?_eq_some_iff.mp h).1
  have e : ixN xs.length (j : Int) = some j := by
    unfold ixN
    rw [if_pos (by omega), if_pos (by omega)]; simp
  unfold atI; rw [e]; exact h
theorem atI_last {α : Type} (xs : List α) (v : α) : atI (xs ++ [v]) (-1) = some v := by
  have hl : (xs ++ [v]).length = xs.length + 1 := by simp
  have e : ixN (xs ++ [v]).length (-1) = some xs.length := by
    unfold ixN
    rw [hl, if_neg (by decide), if_pos (by omega)]
    congr 1
    omega
  unfold atI
  rw [e]
  show (xs ++ [v])[xs.length]? = some v
  simp

/-! ### what may be subscripted -/
/-- what stands as an index of a plain subscript -/
def PlainIx (b : Expr) : Prop := ∀ o i, subscripted b false o i = operate [o, i] (getItem o i)
/-- a subscript by values -/
def IxR (X : Cx) (r : R2) : Prop :=
  ∀ (value slice : Expr) (pins : List (Addr × Obj)) (s : Shared) (σ : St) (H : Hp) (x y : V) (v u : Value) (Q : VK), Inv X pins σ H s → RelV x v → RelV y u → r x y H Q →
    subscripted slice false v u = operate [v, u] (getItem v u) → wpAny (model X.prog X.w) X.A (subscriptTail value slice v u) (EP X pins σ Q) X.xe s
/-- a call of a builtin's method by values: the receiver, the arguments -/
def MtR (X : Cx) (id : String) (r : V → List V → Hp → VK → Prop) : Prop :=
  ∀ (pins : List (Addr × Obj)) (s : Shared) (σ : St) (H : Hp) (x : V) (xs : List V) (v : Value) (us : List Value) (Q : VK), Inv X pins σ H s → RelV x v → Vals xs us → r x xs H Q →
    wpAny (model X.prog X.w) X.A (call (.builtin id) (v :: us)) (EP X pins σ Q) X.xe s
section
variable {X : Cx} {a b : Expr} {ta tb : TE} {pos : Pos}
/-- a[b] -/
theorem pe_ix {r : R2} (hr : IxR X r) (ha : PE X a ta) (hb : PE X b tb) (hs : PlainIx b) : PE X (.Subscript a b pos) (tOp r ta tb) := by
  intro pins s σ H Q I h
  exact Subscript_ (binT ha hb I h fun v u s2 x y H2 I2 rx ry q => hr a b pins s2 σ H2 x y v u Q I2 rx ry q (hs _ _))

def rIxL (K : PySem.W.Frag) : R2 := fun x y H Q => ∃ p xs i v, x = .ref p ∧ y = .int i ∧ SqL K H p xs ∧ atI xs i = some v ∧ Q v H
def rIxT (K : PySem.W.Frag) : R2 := fun x y H Q => ∃ p xs i v, x = .ref p ∧ y = .int i ∧ SqT K H p xs ∧ atI xs i = some v ∧ Q v H
theorem ix_list : IxR X (rIxL X.K) := by
  intro value slice pins s σ H x y v u Q I rx ry h hs
  obtain ⟨p, xs, i, z, rfl, rfl, hq, he, q⟩ := h
  cases rx
  obtain ⟨t, rfl⟩ := ry
  obtain ⟨its, r, pl, hz⟩ := I.list hq
  obtain ⟨j, h1, h2, h3, h4, h5⟩ := atI_get he
  obtain ⟨w, ew, rw'⟩ := r.get h2
  have hl := r.length
  have hn := line63
  have fin : EP X pins σ Q w s := ⟨z, H, I, rw', q⟩
  by_cases h0 : 0 ≤ i
  · have hj : i.toNat = j := by
      rw [seqIndex_of h0 h5] at h1
      exact Option.some.inj h1
    exact item_listR pl.isList h0 (by omega) (by rw [hj]; simpa using ew) fin hs
  · have hj : (i + (its.toArray.size : Int)).toNat = j := by
      rw [seqIndex_neg (by omega) h4] at h1
      rw [List.size_toArray, ← hl]
      exact Option.some.inj h1
    exact subscriptTail_builtinR (x := w) pl.isList.typeIs slot_list_getitem.lookup
      (wpAny_getItem_list_neg (Q := fun r s' => r = w ∧ EP X pins σ Q r s') pl.isList (by omega) (by rw [List.size_toArray] <;> omega) (by omega) (by rw [hj]; simpa using ew) ⟨rfl, fin⟩) hs
theorem ix_tup : IxR X (rIxT X.K) := by
  intro value slice pins s σ H x y v u Q I rx ry h hs
  obtain ⟨p, xs, i, z, rfl, rfl, hq, he, q⟩ := h
  cases rx
  obtain ⟨t, rfl⟩ := ry
  obtain ⟨its, r, pl, hz⟩ := I.tuple hq
  obtain ⟨j, h1, h2, h3, h4, h5⟩ := atI_get he
  obtain ⟨w, ew, rw'⟩ := r.get h2
  have hl := r.length
  have hn := line63
  have fin : EP X pins σ Q w s := ⟨z, H, I, rw', q⟩
  exact subscriptTail_builtinR (x := w) pl.typeIs slot_tuple_getitem.lookup
    (getItem_tuple (j := j) (Q := fun r s' => r = w ∧ EP X pins σ Q r s') pl (by omega) (by omega) (by rw [List.size_toArray, ← hl]; exact h1) (by simpa using ew) ⟨rfl, fin⟩) hs
/-! ### xs[i] = v, any sign -/
/-- the list's object behind a store -/
theorem mapSeq_set (its : List Value) (n j : Nat) (u : Value) : Obj.mapSeq (·.setIfInBounds j u) { cls := .type "list", data := .seq its.toArray n } = { cls := .type "list", data := .seq (its.set j u).toArray n } := by
  simp [Obj.mapSeq]
theorem Inv.lst {pins : List (Addr × Obj)} {σ : St} {H : Hp} {s : Shared} {p : Addr} {xs : List V} (I : Inv X pins σ H s) (h : H p = some (.lst xs)) :
    ∃ (its : List Value) (n : Nat), Vals xs its ∧ s.heap.get? p = some { cls := .type "list", data := .seq its.toArray n } ∧ xs.length ≤ sizeLine := by
  obtain ⟨z, its, n, r, e⟩ := I.hok p _ h
  exact ⟨its, n, r, e, z⟩
/-- the list at p is written by an update of its object -/
theorem Inv.lstUpd {pins : List (Addr × Obj)} {σ : St} {H : Hp} {s : Shared} {p : Addr} {xs ys : List V} {its its' : List Value} {n n' : Nat} {f : Obj → Obj} (I : Inv X pins σ H s) (h : H p = some (.lst xs))
    (ho : s.heap.get? p = some { cls := .type "list", data := .seq its.toArray n }) (hf : f { cls := .type "list", data := .seq its.toArray n } = { cls := .type "list", data := .seq its'.toArray n' }) (r : Vals ys its') (hz : ys.length ≤ sizeLine) (t : Nat) :
    Inv X pins σ (upd H p (.lst ys)) { s with heap := s.heap.update p f, toks := t } := by
  have e : (s.heap.update p f).get? p = some { cls := .type "list", data := .seq its'.toArray n' } := by
    rw [Heap.get?_update_self f ho (by rw [hf] <;> rfl), hf]
  refine I.write (x := p) (e := p) (by rw [h]; trivial) (.inl rfl) (fun b u hb q => (Heap.get?_update_other _ _ (Ne.symm hb)).trans q) ⟨_, e⟩ ?_
  exact ⟨hz, its', n', r, e⟩
def rSetL : V → V → V → Hp → (Hp → Prop) → Prop := fun o i v H Q => ∃ p xs k j, o = .ref p ∧ i = .int k ∧ H p = some (.lst xs) ∧ ixN xs.length k = some j ∧ Q (upd H p (.lst (xs.set j v)))
theorem set_list : PSet X rSetL := by
  intro pins s σ H o i v ov iv u Q I ro ri rv h
  obtain ⟨p, xs, k, j, rfl, rfl, hp, hj, q⟩ := h
  cases ro
  obtain ⟨t, rfl⟩ := ri
  obtain ⟨its, n, r, ho, hz⟩ := I.lst hp
  obtain ⟨h1, h2, h3, h4⟩ := ixN_seq hj
  have hl := r.length
  have hn := line63
  have I' : Inv X pins σ (upd H p (.lst (xs.set j v))) { s with heap := s.heap.update p (Obj.mapSeq (·.setIfInBounds j u)) } :=
    I.lstUpd hp ho (mapSeq_set its n j u) (r.set rv j) (by rw [List.length_set]; exact hz) s.toks
  by_cases h0 : 0 ≤ k
  · have hk : k.toNat = j := by
      rw [seqIndex_of h0 h4] at h1
      exact Option.some.inj h1
    exact PySem.W.ki_setAt ho h0 (by omega) (by rw [List.size_toArray, ← hl]; exact h4) (by rw [hk]; exact ⟨_, I', q⟩)
  · have hk : (k + (its.toArray.size : Int)).toNat = j := by
      rw [seqIndex_neg (by omega) h3] at h1
      rw [List.size_toArray, ← hl]
      exact Option.some.inj h1
    exact PySem.W.ki_setBack ho (by omega) (by rw [List.size_toArray, ← hl]; exact h3) (by omega) (by rw [hk]; exact ⟨_, I', q⟩)

/-! ### slices -/
theorem slice_bounds (lo hi : Option Int) (n : Nat) : (sliceBounds lo hi none n).1 = ((HT.sIx n 0 lo : Nat) : Int) ∧ (sliceBounds lo hi none n).2.1 = ((HT.sIx n n hi : Nat) : Int) ∧ (sliceBounds lo hi none n).2.2 = 1 := by
  refine ⟨?_, ?_, rfl⟩
  · cases lo with
    | none => simp [sliceBounds, HT.sIx]
    | some i =>
      simp only [sliceBounds, HT.sIx, Option.getD_none, show (1 : Int) > 0 by decide, if_true]
      by_cases h : i < 0
      · simp only [h, if_true] <;> omega
      · simp only [h, if_false] <;> omega
  · cases hi with
    | none => simp [sliceBounds, HT.sIx]
    | some i =>
      simp only [sliceBounds, HT.sIx, Option.getD_none, show (1 : Int) > 0 by decide, if_true]
      by_cases h : i < 0
      · simp only [h, if_true] <;> omega
      · simp only [h, if_false] <;> omega
theorem slicePick_cut (its : List Value) (lo hi : Option Int) : slicePick its.toArray lo hi none = ((its.drop (HT.sIx its.length 0 lo)).take (HT.sIx its.length its.length hi - HT.sIx its.length 0 lo)).toArray := by
  obtain ⟨h1, h2, h3⟩ := slice_bounds lo hi its.toArray.size
  unfold slicePick
  rw [h1, h2, h3]
  simp only [sliceRange_one, pick_run, List.size_toArray] <;> rfl
/-- xs[lo:hi] of a list: a new list -/
def rSlL (K : PySem.W.Frag) : V → Option Int → Option Int → Hp → VK → Prop := fun x lo hi H Q => ∃ a xs, x = .ref a ∧ SqL K H a xs ∧ ∀ p, H p = none → Q (.ref p) (upd H p (.lst (cutV xs lo hi)))
theorem sl_list : SlR X (rSlL X.K) := by
  intro pins s σ H x v vl vu lo hi sl Q I rx hs pl pu h
  obtain ⟨a, xs, rfl, hx, q⟩ := h
  cases rx
  obtain ⟨its, r, ht, hz⟩ := I.list hx
  have hlen := r.length
  refine ⟨"list", _, slot_list_getitem.lookup, ht.isList.typeIs, ?_⟩
  refine wpAny_getItem_list_slice ht.isList hs pl pu .none (by simp) ?_ (by rw [List.size_toArray] <;> omega)
  rw [slicePick_cut, ← hlen]
  refine ⟨.ref s.heap.objs.size, _, I.laid (t' := s.toks) (o := .lst (cutV xs lo hi)) (fun b ob q => Heap.get?_push_of_some _ q) (Nat.le_refl _) ?_, rfl, q _ (I.hok.fresh (Nat.le_refl _))⟩
  exact ⟨Nat.le_trans (cutV_length xs lo hi) hz, _, 0, (r.drop (HT.sIx xs.length 0 lo)).take (HT.sIx xs.length xs.length hi - HT.sIx xs.length 0 lo), Heap.get?_push_size _ rfl⟩

/-! ### in, not in: flat items -/
/-! ### len, list(x), tuple(x) of any list or tuple that is read -/
theorem call_len_seq : CallR X (.builtin "len") (fun xs H Q => ∃ p ys, xs = [.ref p] ∧ (SqL X.K H p ys ∨ SqT X.K H p ys) ∧ Q (.int ys.length) H) := by
  intro pins s σ H xs us Q I r h
  obtain ⟨p, ys, rfl, hq, q⟩ := h
  obtain ⟨u, rfl, rx⟩ := vals1 r
  cases rx
  have hn := line63
  rcases hq with hq | hq
  · obtain ⟨its, r', pl, hz⟩ := I.list hq
    have hlen := r'.length
    exact Calls.call_len_list pl.isList (by simp only [List.size_toArray] <;> omega) ⟨.int ys.length, H, I.tok _, ⟨s.toks + 1, by rw [List.size_toArray, hlen]⟩, q⟩
  · obtain ⟨its, r', pl, hz⟩ := I.tuple hq
    have hlen := r'.length
    exact len_tuple pl (by simp only [List.size_toArray] <;> omega) ⟨.int ys.length, H, I.tok _, ⟨s.toks + 1, by rw [List.size_toArray, hlen]⟩, q⟩
theorem call_list_of : CallR X (.type "list") (fun xs H Q => ∃ p ys, xs = [.ref p] ∧ (SqL X.K H p ys ∨ SqT X.K H p ys) ∧ ∀ l, H l = none → Q (.ref l) (upd H l (.lst ys))) := by
  intro pins s σ H xs us Q I r h
  obtain ⟨p, ys, rfl, hq, q⟩ := h
  obtain ⟨u, rfl, rx⟩ := vals1 r
  cases rx
  have fin : ∀ (its : List Value), Vals ys its → ys.length ≤ sizeLine → ∀ (h' : Heap) (c' : Nat), (∀ b o', s.heap.get? b = some o' → h'.get? b = some o') →
      h'.get? s.heap.objs.size = some { cls := .type "list", dict := none, data := .seq its.toArray c', slots := #[] } → EP X pins σ Q (.ref s.heap.objs.size) { s with heap := h' } := fun its r' hz h' c' kp e =>
    ⟨.ref s.heap.objs.size, _, I.laid (t' := s.toks) kp (Nat.le_refl _) (show ObjOk X.prog X.w _ h' _ (.lst ys) from ⟨hz, its, c', r', e⟩), rfl, q _ (I.hok.fresh (Nat.le_refl _))⟩
  rcases hq with hq | hq
  · obtain ⟨its, r', pl, hz⟩ := I.list hq
    have hlen := r'.length
    obtain ⟨o, ho, hc, n, hd⟩ := pl.isList
    exact call_list_seq p (.inl rfl) ho hc hd (fun h' c' kp e => fin its r' hz h' c' kp e) (by simp only [List.size_toArray] <;> omega)
  · obtain ⟨its, r', pl, hz⟩ := I.tuple hq
    have hlen := r'.length
    obtain ⟨o, ho, hc, n, hd⟩ := pl
    exact call_list_seq p (.inr rfl) ho hc hd (fun h' c' kp e => fin its r' hz h' c' kp e) (by simp only [List.size_toArray] <;> omega)
theorem call_tuple_of : CallR X (.type "tuple") (fun xs H Q => ∃ p ys, xs = [.ref p] ∧ ((SqL X.K H p ys ∧ ∀ l, H l = none → Q (.ref l) (upd H l (.tup ys))) ∨ (SqT X.K H p ys ∧ Q (.ref p) H))) := by
  intro pins s σ H xs us Q I r h
  obtain ⟨p, ys, rfl, h⟩ := h
  obtain ⟨u, rfl, rx⟩ := vals1 r
  cases rx
  rcases h with ⟨hq, q⟩ | ⟨hq, q⟩
  · obtain ⟨its, r', pl, hz⟩ := I.list hq
    have hlen := r'.length
    refine call_tuple_list pl.isList (fun h' kp => ?_) (by simp only [List.size_toArray] <;> omega)
    have I1 : Inv X pins σ H { s with heap := h' } := I.kept (t' := s.toks) kp
    have I2 : Inv X pins σ (upd H h'.objs.size (.tup ys)) { s with heap := h'.push { cls := .type "tuple", data := .seq its.toArray } } :=
      I1.laid (t' := s.toks) (fun b o e => Heap.get?_push_of_some _ e) (Nat.le_refl _) (show ObjOk X.prog X.w _ _ _ (.tup ys) from ⟨hz, its, r', IsTupD.new _ _⟩)
    exact ⟨.ref h'.objs.size, _, I2, rfl, q _ (I1.hok.fresh (Nat.le_refl _))⟩
  · obtain ⟨its, r', pl, hz⟩ := I.tuple hq
    exact call_tuple_same pl ⟨.ref p, H, I, rfl, q⟩

/-! ### the call of a builtin's method: o.m(..) -/
/-- the value is of that builtin type -/
def tyV (K : PySem.W.Frag) (T : String) (x : V) (H : Hp) : Prop := match x with
  | .str _ => T = "str"
  | .int _ => T = "int"
  | .ref p => (T = "list" ∧ ∃ xs, SqL K H p xs) ∨ (T = "tuple" ∧ ∃ o, K.lookup p = some o ∧ o.cls = .type "tuple" ∧ o.dict = none) ∨
      (T = "dict" ∧ ((∃ kvs, H p = some (.dK kvs)) ∨ ∃ kvs, H p = some (.dT kvs))) ∨ (T = "set" ∧ ∃ S n, H p = some (.set S n))
  | _ => False
theorem tyV_is {pins : List (Addr × Obj)} {σ : St} {H : Hp} {s : Shared} {T : String} {x : V} {v : Value} (I : Inv X pins σ H s) (r : RelV x v) (ty : tyV X.K T x H) :
    s.TypeIs v T ∧ ∀ a, v = .ref a → ∃ ob, s.heap.get? a = some ob ∧ ob.dict = none := by
  cases x with
  | str z =>
    obtain ⟨t, rfl⟩ := r
    cases (show T = "str" from ty)
    exact ⟨typeIs_str s z t, fun _ e => nomatch e⟩
  | int i =>
    obtain ⟨t, rfl⟩ := r
    cases (show T = "int" from ty)
    exact ⟨typeIs_int s i t, fun _ e => nomatch e⟩
  | ref p =>
    cases r
    rcases ty with ⟨rfl, xs, hq⟩ | ⟨rfl, o, hk, hc, hd⟩ | ⟨rfl, hk⟩ | ⟨rfl, S, n, hk⟩
    · obtain ⟨its, _, pl, _⟩ := I.list hq
      refine ⟨pl.isList.typeIs, fun a e => ?_⟩
      cases e
      obtain ⟨o, n, e, c, hd, _⟩ := pl
      exact ⟨o, e, hd⟩
    · refine ⟨⟨o, I.kIn p o hk, hc⟩, fun a e => ?_⟩
      cases e
      exact ⟨o, I.kIn _ o hk, hd⟩
    · have z : ∃ o, s.heap.get? p = some o ∧ o.ExactDict := by
        rcases hk with ⟨kvs, hk⟩ | ⟨kvs, hk⟩
        · obtain ⟨_, _, _, _, o, _, _, e, ex, _⟩ := I.hok p _ hk
          exact ⟨o, e, ex⟩
        · obtain ⟨_, _, _, _, o, _, _, e, ex, _⟩ := I.hok p _ hk
          exact ⟨o, e, ex⟩
      obtain ⟨o, e, ex⟩ := z
      refine ⟨⟨o, e, ex.1⟩, fun a e2 => ?_⟩
      cases e2
      exact ⟨o, e, ex.2.1⟩
    · obtain ⟨o, _, _, _, e, ex, _⟩ := I.hok p _ hk
      refine ⟨⟨o, e, ex.1⟩, fun a e2 => ?_⟩
      cases e2
      exact ⟨o, e, ex.2.1⟩
  | _ => exact False.elim ty
def tBM (K : PySem.W.Frag) (T : String) (r : V → List V → Hp → VK → Prop) (to : TE) (t : TA) : TE := fun σ H Q => to σ H fun x H1 => tyV K T x H1 ∧ t σ H1 fun xs H2 => r x xs H2 Q
variable {o e : Expr} {es : List Expr} {to : TE} {t : TA} {name : Str} {apos cpos : Pos} {T id : String} {r : V → List V → Hp → VK → Prop}
theorem pe_bm (pa : PlainAttrs T) (slot : Slot T name id) (hty : typeOf (.builtin id) = pure (.type "method_descriptor")) (hm : MtR X id r) (ho : PE X o to) (ha : PA X (e :: es) t)
    (hbase : attributeBase o name X.env (eval o X.env) = eval o X.env := by rfl)
    (hfew : ((backTo cpos (starEach (e :: es) X.env)).all (fun x => !x.1) && (backToKw cpos (keywordEach [] X.env)).all (fun x => x.1.isSome)
      && decide ((e :: es).length + ([] : List Keyword).length + (if ([] : List Keyword).isEmpty then 0 else 1) < 30)) = true := by rfl)
    (hline : (apos.endLine == cpos.line) = true := by rfl) (hs : starEach (e :: es) X.env = (false, eval e X.env) :: starEach es X.env := by rfl) (hplain : (backTo cpos (starEach es X.env)).any (·.1) = false := by rfl) :
    PE X (.Call (.Attribute o name apos) (e :: es) [] cpos) (tBM X.K T r to t) := by
  intro pins s σ H Q I h
  refine wpAny_Call_method_late hbase hfew hline rfl (thn (ho pins s σ H _ I h) fun v s1 ⟨x, H1, I1, r1, ty, q1⟩ => ?_)
  obtain ⟨h1, h2⟩ := tyV_is I1 r1 ty
  refine ⟨T, id, pa, slot, hty, h1, h2, ?_⟩
  have hA := ha cpos pins s1 σ H1 _ I1 q1
  rw [hs] at hA ⊢
  refine Calls.callWith_builtin (by show (false || (backTo cpos (starEach es X.env)).any (·.1)) = false; rw [hplain] <;> rfl) (Calls.evalArgs_plain ?_)
  exact thn hA fun us s2 ⟨vs, H2, I2, r2, q2⟩ => hm pins s2 σ H2 x vs v us Q I2 r1 r2 q2
/- xs.append(e), list.index on a module's tuple .. are MtR facts of 06m -/
end
end L2

namespace L2
open PySem PySem.Spec PyProof.Rows

def MtM (X : Cx) (id : String) (r : V → List V → Hp → VK → Prop) : Prop :=
  ∀ (pins : List (Addr × Obj)) (s : Shared) (σ : St) (H : Hp) (x : V) (xs : List V) (v : Value) (us : List Value) (Q : VK), Inv X pins σ H s → RelV x v → Vals xs us → r x xs H Q →
    wpAny (model X.prog X.w) X.A (call (.builtin id) (v :: us)) (EP X pins σ Q) X.xe s

/-! ### lists of values -/
theorem Vals.one : ∀ {x : V} {us : List Value}, Vals [x] us → ∃ u, us = [u] ∧ RelV x u
  | _, _, .cons r .nil => ⟨_, rfl, r⟩
theorem Vals.eraseIdx : ∀ {xs : List V} {us : List Value} (i : Nat), Vals xs us → Vals (xs.eraseIdx i) (us.eraseIdx i)
  | _, _, _, .nil => .nil
  | _, _, 0, .cons _ t => t
  | _, _, i + 1, .cons r t => .cons r (Vals.eraseIdx i t)
theorem Vals.reverse {xs : List V} {us : List Value} (h : Vals xs us) : Vals xs.reverse us.reverse := by
  induction h with
  | nil => exact .nil
  | cons r t ih => rw [List.reverse_cons, List.reverse_cons]; exact Vals.append ih (.cons r .nil)
theorem Vals.rep {xs : List V} {us : List Value} (h : Vals xs us) : ∀ k : Nat, Vals (List.replicate k xs).flatten (List.replicate k us).flatten
  | 0 => .nil
  | k + 1 => by
    rw [List.replicate_succ, List.replicate_succ, List.flatten_cons, List.flatten_cons]
    exact Vals.append h (Vals.rep h k)
theorem len_erase {α : Type} : ∀ (l : List α) (i : Nat), (l.eraseIdx i).length ≤ l.length
  | [], _ => Nat.le_refl _
  | _ :: _, 0 => Nat.le_succ _
  | _ :: r, i + 1 => Nat.succ_le_succ (len_erase r i)
theorem foldl_rep (its : List Value) : ∀ (k : Nat) (acc : List Value),
    List.foldl (fun x1 x2 => x1 ++ x2) acc.toArray (List.replicate k its.toArray) = (acc ++ (List.replicate k its).flatten).toArray
  | 0, acc => by simp
  | k + 1, acc => by
    have e : acc.toArray ++ its.toArray = (acc ++ its).toArray := by simp
    have e2 : (acc ++ its) ++ (List.replicate k its).flatten = acc ++ (List.replicate (k + 1) its).flatten := by
      rw [List.replicate_succ, List.flatten_cons, List.append_assoc]
    rw [← e2, ← foldl_rep its k (acc ++ its), ← e, List.replicate_succ, List.foldl_cons]

section
variable {X : Cx} {pins : List (Addr × Obj)} {σ : St} {H : Hp} {s : Shared} {l b : Addr} {xs ys zs : List V}

/-! ### the two steps: a tracked list is rewritten, a new list is laid -/
theorem Inv.lset {its its' : List Value} {n : Nat} {f : Array Value → Array Value} {t' : Nat} (I : Inv X pins σ H s) (hH : H l = some (.lst xs))
    (e : s.heap.get? l = some { cls := .type "list", data := .seq its.toArray n }) (hf : f its.toArray = its'.toArray) (hv : Vals ys its') (hz : ys.length ≤ sizeLine) :
    Inv X pins σ (upd H l (.lst ys)) { s with heap := s.heap.update l (Obj.mapSeq f), toks := t' } := by
  have q := PySem.IsL.update e f
  rw [hf] at q
  refine I.write (x := l) (e := l) (by rw [hH]; exact trivial) (.inl rfl) (fun b' u hb hu => (Heap.get?_update_other s.heap (Obj.mapSeq f) (Ne.symm hb)).trans hu) ⟨_, q⟩ ?_
  exact ⟨hz, its', _, hv, q⟩
theorem Inv.lnew {its : List Value} {t' : Nat} (I : Inv X pins σ H s) (hv : Vals ys its) (hz : ys.length ≤ sizeLine) :
    Inv X pins σ (upd H s.heap.objs.size (.lst ys)) { s with heap := s.heap.push { cls := .type "list", data := .seq its.toArray }, toks := t' } :=
  I.laid (fun _ _ q => Heap.get?_push_of_some _ q) (Nat.le_refl _) ⟨hz, its, 0, hv, Heap.get?_push_size _ rfl⟩
theorem Inv.fresh (I : Inv X pins σ H s) : H s.heap.objs.size = none := I.hok.fresh (Nat.le_refl _)
theorem Inv.lstM (I : Inv X pins σ H s) (hH : H l = some (.lst xs)) : xs.length ≤ sizeLine ∧ ∃ (its : List Value) (n : Nat), Vals xs its ∧ xs.length = its.length ∧ s.heap.get? l = some { cls := .type "list", data := .seq its.toArray n } := by
  obtain ⟨z, its, n, r, e⟩ := I.hok l _ hH
  exact ⟨z, its, n, r, r.length, e⟩

theorem notLongL {n : Nat} (h : n ≤ sizeLine) : Builtin.List.listTooLong n = false := by
  unfold Builtin.List.listTooLong
  exact decide_eq_false (by omega)
end

section
variable {X : Cx}

/-! ### methods -/
def rAppend : V → List V → Hp → VK → Prop := fun x vs H Q => ∃ l xs y, x = .ref l ∧ vs = [y] ∧ H l = some (.lst xs) ∧ xs.length < sizeLine ∧ Q .non (upd H l (.lst (xs ++ [y])))
theorem mt_append : MtM X "list.append" rAppend := by
  intro pins s σ H x vs v us Q I rx rv h
  obtain ⟨l, xs, y, rfl, rfl, hH, hz, q⟩ := h
  cases rx
  obtain ⟨u, rfl, ru⟩ := rv.one
  obtain ⟨z, its, n, r, hl, e⟩ := I.lstM hH
  refine call_meets F.slot_list_append ⟨_, e, rfl⟩ F.entry_list_append (F.args_list_append_2 _ _) (PySem.list_append l its.toArray n u (by rw [List.size_toArray]; omega)) ⟨e, ?_⟩
  refine ⟨.non, _, I.lset (its' := its ++ [u]) hH e (by simp) (r.append (.cons ru .nil)) ?_, rfl, q⟩
  rw [List.length_append, List.length_singleton]
  omega

def rPopAt : V → List V → Hp → VK → Prop := fun x vs H Q => ∃ l xs i k y, x = .ref l ∧ vs = [.int i] ∧ H l = some (.lst xs) ∧ -(2 ^ 63) ≤ i ∧ i < 2 ^ 63 ∧ seqIndex? i xs.length = some k ∧ xs[k]? = some y ∧ Q y (upd H l (.lst (xs.eraseIdx k)))
theorem mt_popAt : MtM X "list.pop" rPopAt := by
  intro pins s σ H x vs v us Q I rx rv h
  obtain ⟨l, xs, i, k, y, rfl, rfl, hH, h1, h2, hk, hy, q⟩ := h
  cases rx
  obtain ⟨u, rfl, ru⟩ := rv.one
  obtain ⟨t, rfl⟩ := ru
  obtain ⟨z, its, n, r, hl, e⟩ := I.lstM hH
  obtain ⟨w, hw, rw'⟩ := r.get hy
  refine call_meets F.slot_list_pop ⟨_, e, rfl⟩ F.entry_list_pop (F.args_list_pop_2 _ _)
    (MeetsSeq.list_pop_at l its.toArray n i t k w (fitsIndex_both h1 h2) (by rw [List.size_toArray, ← hl]; exact hk) (by rw [← Array.getElem?_toList]; exact hw) (by rw [List.size_toArray]; omega)) ⟨e, ?_⟩
  refine ⟨y, _, I.lset (its' := its.eraseIdx k) hH e ?_ (r.eraseIdx k) ?_, rw', q⟩
  · show its.toArray.eraseIdxIfInBounds k = (its.eraseIdx k).toArray
    rw [List.eraseIdxIfInBounds_toArray]
  · have := len_erase xs k
    omega

/-! ### list + list, list += list, list * int -/
def rCat : R2 := fun x y H Q => ∃ l b xs zs, x = .ref l ∧ y = .ref b ∧ H l = some (.lst xs) ∧ H b = some (.lst zs) ∧ xs.length + zs.length ≤ sizeLine ∧ ∀ p, H p = none → Q (.ref p) (upd H p (.lst (xs ++ zs)))
theorem op_cat : OpR X (binaryOp .Add) rCat := by
  intro pins s σ H x y v u Q I rx ry h
  obtain ⟨l, b, xs, zs, rfl, rfl, hH, hB, hz, q⟩ := h
  cases rx
  cases ry
  obtain ⟨z, its, n, r, hl, e⟩ := I.lstM hH
  obtain ⟨z2, its2, n2, r2, hl2, e2⟩ := I.lstM hB
  refine PySem.P.add_list e e2 ?_ (by rw [List.size_toArray, List.size_toArray]; omega)
  have ea : its.toArray ++ its2.toArray = (its ++ its2).toArray := by simp
  rw [ea]
  exact ⟨.ref _, _, I.lnew (t' := s.toks) (r.append r2) (by rw [List.length_append]; omega), rfl, q _ I.fresh⟩
/-- a list times an int (a negative one is nothing) -/
def rRep : R2 := fun x y H Q => ∃ l k xs, x = .ref l ∧ y = .int k ∧ H l = some (.lst xs) ∧ -(2 ^ 63) ≤ k ∧ k < 2 ^ 63 ∧ xs.length * k.toNat ≤ sizeLine ∧
  ∀ p, H p = none → Q (.ref p) (upd H p (.lst (List.replicate k.toNat xs).flatten))
theorem len_rep {α : Type} (xs : List α) (k : Nat) : (List.replicate k xs).flatten.length = k * xs.length := by
  induction k with
  | zero => simp
  | succ k ih => rw [List.replicate_succ, List.flatten_cons, List.length_append, ih, Nat.succ_mul, Nat.add_comm]
theorem op_rep : OpR X (binaryOp .Mult) rRep := by
  intro pins s σ H x y v u Q I rx ry h
  obtain ⟨l, k, xs, rfl, rfl, hH, h1, h2, hz, q⟩ := h
  cases rx
  obtain ⟨t, rfl⟩ := ry
  obtain ⟨z, its, n, r, hl, e⟩ := I.lstM hH
  have hlen : its.toArray.size * k.toNat ≤ sizeLine := by rw [List.size_toArray, ← hl]; exact hz
  have hcap : ¬ its.toArray.size * k.toNat > (2 ^ 63 - 1) / 8 := by
    have : (sizeLine : Nat) ≤ (2 ^ 63 - 1) / 8 := by decide
    omega
  have hfit : ¬ (!Builtin.List.listFitsIndex k) = true := by
    rw [fitsIndex_both h1 h2]
    exact Bool.false_ne_true
  have hlong : ¬ Builtin.List.listTooLong (its.toArray.size * k.toNat) = true := by
    rw [notLongL hlen]
    exact Bool.false_ne_true
  have hnew : List.foldl (fun x1 x2 => x1 ++ x2) #[] (List.replicate (if its.toArray.isEmpty = true then 0 else k.toNat) its.toArray) = (List.replicate k.toNat its).flatten.toArray := by
    have f0 : ∀ m : Nat, List.foldl (fun x1 x2 => x1 ++ x2) #[] (List.replicate m its.toArray) = (List.replicate m its).flatten.toArray := fun m => by
      have := foldl_rep its m []
      rw [List.nil_append] at this
      exact this
    rw [f0]
    cases its with
    | nil => simp
    | cons a r' => rw [if_neg (by simp)]
  refine wpAny_binaryOp_repeat_ref (T := "list") (U := "int") (by decide) ⟨_, e, rfl⟩ (fun s' => typeIs_int s' k t) noFill_list_mul F.fills_int_mul F.slot_int_rmul repeat_list F.slot_int_index.lookup
    (call_meets F.slot_int_rmul (typeIs_int s k t) F.entry_int_rmul (F.args_int_rmul_2 _ _) (int___rmul___int_list k t l its.toArray n)
      ⟨e, rfl, ⟨_, e, rfl⟩, call_meets F.slot_list_mul ⟨_, e, rfl⟩ F.entry_list_mul (F.args_list_mul_2 _ _) (AutoListH.list___mul___list_int_3 l its.toArray n k t hfit hcap hlong) ⟨e, ?_⟩⟩)
  rw [hnew]
  exact ⟨.ref _, _, I.lnew (t' := s.toks) (r.rep k.toNat) (by rw [len_rep, Nat.mul_comm]; exact hz), rfl, q _ I.fresh⟩

/-! ### del xs[i] -/
end

/-! ### xs[a:b] = ys -/
section
variable {prog : Program} {w : World} {A : Around} {E : Value → Shared → Prop} {s : Shared}
set_option maxRecDepth 100000 in
end

section
variable {X : Cx}
end
end L2

namespace Att
open PySem PySem.W PySem.Calls PyProof.Rows

/-! ### the script -/
theorem ints_of_wellAll {P : Params} {h : Heap} : ∀ (ns : List Int) (vs : List Value), WellAll P h vs (ns.map WData.int) → IntsAre vs ns := by
  intro ns
  induction ns with
  | nil =>
    intro vs w
    rw [List.map_nil] at w
    cases w
    exact .nil
  | cons n ns ih =>
    intro vs w
    rw [List.map_cons] at w
    cases w with
    | cons a b =>
      cases a
      exact .cons _ _ (ih _ b)

theorem script_of {l : OpenLaw} {n : Nat} (hn : l.most = some n) {P : Params} {h : Heap} {args : List WData} {vals : List Value}
    (hpre : l.row.toRowW.claim.pre args = true) (hwl : WellAll P h vals args) :
    ∃ a vs ns, vals = [Value.ref a] ∧ args = [WData.list (ns.map WData.int)] ∧ h.get? a = some { cls := .type "list", data := .seq vs.toArray } ∧ IntsAre vs ns ∧ ns.length ≤ n := by
  have hsh : WShape.hasAll [] args [.list .int] = true := (pre_splitW hpre).1
  have hc : l.pre.holds [] { args := args } = true := (pre_splitW hpre).2
  obtain ⟨d, r, rfl, h1, h2⟩ := hasAllW_cons hsh
  obtain rfl := hasAllW_nil h2
  obtain ⟨xs, rfl, h3⟩ := hasW_list h1
  obtain ⟨ns, rfl⟩ := items_int h3
  have hlen : ns.length ≤ n := by
    unfold OpenLaw.pre at hc
    have h4 : (WTm.not (.lt (.lit (.int (n : Int))) (.len (.arg 0)))).holds [] { args := [.list (ns.map .int)] } = true := by
      have h4 := (holds_andW hc).1
      rw [hn] at h4
      exact h4
    have h5 := condW_of h4 (w_not (w_lt w_lit (w_len_list (w_arg rfl))))
    rw [List.length_map] at h5
    refine Nat.le_of_not_lt fun q => ?_
    have q' : (n : Int) < ((ns.length : Nat) : Int) := by omega
    first
      | (rw [decide_eq_true q'] at h5; exact absurd h5 (by decide))
      | (simp at h5; omega)
  cases hwl with
  | cons w1 w2 =>
    cases w2
    cases w1 with
    | list ho hall => exact ⟨_, _, ns, rfl, rfl, ho, ints_of_wellAll ns _ hall, hlen⟩

theorem post_true (l : OpenLaw) (args : List WData) : l.row.toRowW.claim.post args (.bool true) args = true :=
  postW_of (r := l.row.toRowW) (X := (true == true))
    (show WShape.has [] (.bool true) .bool = true by first | rfl | decide | simp [WShape.has, WShape.arms, WShape.armsAll])
    (show (WTm.eq .res (.lit (.bool true))).value [] { args := args, res := some (.bool true), after := args } = some (.bool (true == true)) from w_eq_bool (w_res rfl) w_lit) rfl

/-! ### the attachment: holds_open's last premise (the goal 'hc' behind k_head) from a wpAny of the law's body -/
/-- the same from a codeAny of the CALL (for a layer whose function contracts speak of calls) -/
theorem attach_call {l : OpenLaw} {n : Nat} {q : Program} {loose : List Str} {XP : (Str → Option Value) → Heap → Prop} {YP : World → Heap → Prop} {d : DefRec}
    (hn : l.most = some n) (hdf : d.params.defaults = [])
    (call : ∀ (w : World) (s₀ s₁ : Shared) (mg mb : Str → Option Value) (fa : Addr) (o : Obj) (pm cd doc : Value) (a : Addr) (vs : List Value) (ns : List Int),
      Ground q loose [] XP w s₀ mg mb s₁.heap → YP w s₁.heap →
      s₁.heap.get? fa = some o → o.data = .func (docDef d.name d.params d.body d.scope pm cd doc) → s₁.heap.CodeRec cd d.name → mg d.name = some (.ref fa) →
      s₁.heap.get? a = some { cls := .type "list", data := .seq vs.toArray } → IntsAre vs ns → ns.length ≤ n → s₁.gens = #[] →
      codeAny (model l.prog w) callerA (.call (.ref fa) ⟨[.ref a], []⟩) (fun r s' => r = .ok (.ret (.bool true)) ∧ OldK s₁.heap s'.heap ∧ s'.os = s₁.os ∧ AllBare s'.gens) s₁) :
    WalkO q loose XP YP l.row.toRowW d [] (fun f vs => PySem.call f vs) := by
  intro w s₀ s₁ mg mb G Y fa o pm cd doc dV kV ho hd hcd hD hmg hg args vals as hpre hlay hrd hwl hlo
  obtain rfl : dV = .none := Dflts.none hD hdf
  obtain rfl : kV = .none := Dflts.noKw hD
  obtain ⟨a, vs, ns, rfl, rfl, hobj, hints, hlen⟩ := script_of hn hpre hwl
  refine enter_call (codeAny_mono (call w s₀ s₁ mg mb fa o pm cd doc a vs ns G Y ho (fd_plain hd) hcd hmg hobj hints hlen hg) fun r s' hq => ?_)
  obtain ⟨rfl, h2, h3, h4⟩ := hq
  exact ⟨.inl ⟨.bool true, .bool true, [], rfl, fun _ => rfl, .bool true, post_true l _, fun _ => ⟨List.Pairwise.nil, fun _ hm => (nomatch hm)⟩⟩, h2, h3, h4⟩

/-! ### rules over ANY heap (no ledger) from facts about the written part K: the library's own take a ledger (News) for what they write -/
section
variable {prog : Program} {w : World} {A : Around} {E : Value → Shared → Prop} {s : Shared} {K : Frag}

/-! the whole heap as the ledger: makes every rule that writes through a ledger a rule over any heap -/
def ledger (h : Heap) (L d : Addr) : List (Addr × Obj) := (List.range h.objs.size).filterMap fun a => if a = L ∨ a = d then none else (h.get? a).map fun o => (a, o)
end
end Att

namespace L2
open PySem PySem.Spec PyProof.Rows

theorem vals_ints : ∀ {vs : List Value} {ns : List Int}, IntsAre vs ns → Vals (ns.map V.int) vs
  | _, _, .nil => .nil
  | _, _, .cons n t h => .cons ⟨t, rfl⟩ (vals_ints h)

/-- nothing is tracked but the script, known to the object (or it is an object of the module) -/
def Only (H : Hp) : Prop := ∀ b, H b = none ∨ ∃ o xs, H b = some (.frz o (.lst xs))

/-- THE HEAD: the law's promise, at the heap behind the top. F, the promise of the law's def, may use that base is part of the heap (so K.In base, base.Ns mainGlobals mg stand in Mod) -/
theorem law_call {P : Program} {w : World} {K : PySem.W.Frag} {mg mb : Str → Option Value} {CX : CXT} {k : Nat} {fa a : Addr} {fd : FuncData} {x : Str} {sp : Sp} {s₁ : Shared} {vs : List Value} {ns : List Int}
    (KX : K.In s₁.heap) (hns : s₁.heap.Ns mainGlobals mg) (hb : s₁.heap.Ns builtinsNs mb) (hbb : ∀ x : Str, x ≠ "__name__" → mb x = bootBuiltins x) (hlim : s₁.heap.NoLimit) (hg : s₁.gens = #[])
    (ha : s₁.heap.get? a = some { cls := .type "list", data := .seq vs.toArray }) (hi : IntsAre vs ns) (hl : ns.length ≤ sizeLine) (hr : Room k callerA)
    (F : ∀ base : Heap, K.In base → base.Ns mainGlobals mg → FnOk P w K mg base CX k fa fd [x] sp) (hbind : ∀ (s : Shared) (u : Value), BindsTo s fd ⟨[u], []⟩ [(x, u)])
    (hsp : ∀ H : Hp, Only H → SqL K H a (ns.map V.int) → sp [.ref a] H (fun v _ => v = .bl true) fun _ _ _ => False)
    (hCX : ∀ H e s', CX [] H s₁ (fun _ _ _ => False) e s' → False) :
    codeAny (model P w) callerA (.call (.ref fa) ⟨[.ref a], []⟩) (fun r s' => r = .ok (.ret (.bool true)) ∧ OldK s₁.heap s'.heap ∧ s'.os = s₁.os ∧ AllBare s'.gens) s₁ := by
  have rv := vals_ints hi
  have lenV := hi.length
  -- from an abstract heap in which nothing but the script may be tracked
  have core : ∀ H : Hp, Only H → SqL K H a (ns.map V.int) → HOk P w H s₁.heap → (∀ b, H b ≠ none → b = a) → (H a ≠ none → K.lookup a = none) →
      codeAny (model P w) callerA (.call (.ref fa) ⟨[.ref a], []⟩) (fun r s' => r = .ok (.ret (.bool true)) ∧ OldK s₁.heap s'.heap ∧ s'.os = s₁.os ∧ AllBare s'.gens) s₁ := by
    intro H hO hS hok hA hK
    have base_of : ∀ {b : Addr} {o : Obj}, s₁.heap.get? b = some o → H b = none → (hidT s₁.heap H).get? b = some o := fun e n => hidT_get e n
    have noA : ∀ {b : Addr} {o : Obj} {es : Array DictEntry} {ep : Nat}, s₁.heap.get? b = some o → o.data = .dict es ep → H b = none := fun {b o es ep} e d => by
      cases q : H b with
      | none => rfl
      | some u =>
        have e' : b = a := hA b (by rw [q]; simp)
        subst e'
        rw [ha] at e; cases e
        have d' : Data.seq vs.toArray _ = Data.dict es ep := d
        cases d'
    have nsK : ∀ {b : Addr} {m : Str → Option Value}, s₁.heap.Ns b m → (hidT s₁.heap H).Ns b m := fun {b m} ⟨o, es, ep, e, d, r⟩ => ⟨o, es, ep, base_of e (noA e d), d, r⟩
    have hKb : K.In (hidT s₁.heap H) := fun b o e => base_of (KX b o e) (by
      cases q : H b with
      | none => rfl
      | some u =>
        have e' : b = a := hA b (by rw [q]; simp)
        subst e'
        rw [hK (by rw [q]; simp)] at e; cases e)
    have hM : Mod K mg (hidT s₁.heap H) := ⟨hKb, nsK hns, ⟨mb, nsK hb, hbb⟩, let ⟨mc, h1, h2⟩ := hlim; ⟨mc, nsK h1, h2⟩⟩
    have e0 : Env0 P w K mg (hidT s₁.heap H) callerA [] s₁ H := ⟨rfl, hM, fun b o e => of_hidT e, Nat.le_of_eq (hidT_size _ _), trivial, fun b hb => absurd (show b ∈ ([] : List Addr) from hb) (by simp), hok, .of_eq hg⟩
    refine codeAny_mono ((F _ hKb (nsK hns)).run callerA [] s₁ H ⟨[.ref a], []⟩ [.ref a] [.ref a] _ _ hr e0 (hbind s₁ (.ref a)) (.cons rfl .nil) (hsp H hO hS)) fun r s' h => ?_
    cases r with
    | error e => exact (hCX H e s' h).elim
    | ok fl =>
      cases fl with
      | next => exact False.elim h
      | brk => exact False.elim h
      | cont => exact False.elim h
      | ret u =>
        obtain ⟨v, H', os, bare, un, hok', r', q⟩ := h
        have q' : v = .bl true := q
        subst q'
        obtain rfl : u = Value.bool true := r'
        refine ⟨rfl, OldK.of_keep fun b o e => ?_, os, bare⟩
        cases q : H b with
        | none => exact un.keep b o e q (by intro z; exact absurd (show b ∈ ([] : List Addr) from z) (by simp)) (by simp)
        | some u =>
          rcases hO b with z | ⟨ob, xs, z⟩
          · rw [q] at z; cases z
          · have z2 := un.frzs b ob _ z
            obtain ⟨e1, _⟩ := hok b _ z
            obtain ⟨e2, _⟩ := hok' b _ z2
            rw [e] at e1; cases e1
            exact e2
  cases hk : K.lookup a with
  | some o =>
    -- the script is one of the module's own objects
    have e := KX a o hk
    rw [ha] at e
    cases e
    refine core (fun _ => none) (fun _ => .inl rfl) (.inr ⟨_, vs.toArray, _, hk, rfl, rfl, rfl, by rw [List.size_toArray, lenV]; exact hl, by simpa using rv⟩) (fun b u z => by have z' : (none : Option HO) = some u := z; cases z') (fun b z => absurd rfl z) fun z => absurd rfl z
  | none =>
    refine core (fun b => if b = a then some (.frz { cls := .type "list", data := .seq vs.toArray } (.lst (ns.map V.int))) else none) (fun b => ?_) (.inl (.inr ⟨{ cls := .type "list", data := .seq vs.toArray }, if_pos rfl⟩)) (fun b u z => ?_) (fun b z => ?_) fun _ => hk
    · by_cases hb : b = a
      · exact .inr ⟨_, _, if_pos hb⟩
      · exact .inl (if_neg hb)
    · by_cases hb : b = a
      · have z' := (if_pos hb).symm.trans z
        cases z'
        subst hb
        exact ⟨ha, by rw [List.length_map]; exact hl, vs, _, rv, ha⟩
      · have z' := (if_neg hb).symm.trans z
        cases z'
    · by_cases hb : b = a
      · exact hb
      · exact absurd (if_neg hb) z
end L2

namespace L2
open PySem PySem.Spec PyProof.Rows

/-- the goal that k_head leaves (case hc), from the law's promise. F gives the function object fd (K's own) once, then the promise over every base -/
theorem walk_of {l : PySem.W.OpenLaw} {n k : Nat} {q : Program} {loose : List Str} {XP : (Str → Option Value) → Heap → Prop} {YP : World → Heap → Prop} {d : DefRec} {K : Params → PySem.W.Frag} {CX : World → CXT} {sp : World → Sp} {x : Str}
    (hn : l.most = some n) (hn2 : n ≤ sizeLine) (hdf : d.params.defaults = []) (hr : Room k callerA)
    (hY : ∀ (w : World) (h : Heap), YP w h → (K w.params).In h)
    (F : ∀ (w : World) (mg : Str → Option Value) (fa : Addr) (h : Heap), (K w.params).In h → h.Ns mainGlobals mg → mg d.name = some (.ref fa) →
      ∃ fd : FuncData, (∀ (s : Shared) (u : Value), BindsTo s fd ⟨[u], []⟩ [(x, u)]) ∧
        ∀ base : Heap, (K w.params).In base → base.Ns mainGlobals mg → FnOk l.prog w (K w.params) mg base (CX w) k fa fd [x] (sp w))
    (hsp : ∀ (w : World) (H : Hp) (a : Addr) (ns : List Int), ns.length ≤ n → Only H → SqL (K w.params) H a (ns.map V.int) → sp w [.ref a] H (fun v _ => v = .bl true) fun _ _ _ => False)
    (hCX : ∀ (w : World) (H : Hp) (s : Shared) (e : Value) (s' : Shared), CX w [] H s (fun _ _ _ => False) e s' → False) :
    PySem.W.WalkO q loose XP YP l.row.toRowW d [] (fun f vs => PySem.call f vs) := by
  refine Att.attach_call hn hdf fun w s₀ s₁ mg mb fa o pm cd doc a vs ns G Y ho hd hcd hmg hobj hints hlen hg => ?_
  have KX := hY w _ Y
  obtain ⟨fd, hb, hF⟩ := F w mg fa _ KX G.T.g hmg
  exact law_call KX G.T.g G.T.b G.T.builtins G.T.nolimit hg hobj hints (Nat.le_trans hlen hn2) hr hF hb (fun H hO hS => hsp w H a ns hlen hO hS) fun H e s' => hCX w H s₁ e s'
end L2

/- THE LAST THEOREM (shape; LID, My.* are yours):
   My.Adr: a structure of the addresses that your layer names (classes, functions); My.Txt K t: a structure (Prop) of the equations over K;
   My.txt_mk : {K} {implicit addresses ..} (e1 : nsIn K mainGlobals "law" = some (some (.ref f))) (e2 : K.lookup f = some ⟨oc, od, .func (fnOf "law" "law" params body scope dV kV doc pm an cdv ct), sl⟩) (e3 : codeIn K cdv "law" = true) .. : ∃ t, My.Txt K t

set_option maxRecDepth 100000 in
set_option maxHeartbeats 0 in
(the tactic k_is has no namespace: write k_is) -/

/-! SHORT WORDS over the layer: a def of the text, its body, what a loop and a test want. -/
namespace L2
open PySem PySem.Spec PyProof.Rows

/-! ### the text by places -/
def defArgs (s : Stmt) : Arguments := match s with
  | .FunctionDef _ a _ _ _ _ _ _ _ _ => a
  | _ => { posonlyargs := [], args := [], vararg := none, kwonlyargs := [], kw_defaults := [], kwarg := none, defaults := [] }
def defBody (s : Stmt) : List Stmt := match s with
  | .FunctionDef _ _ b _ _ _ _ _ _ _ => b
  | _ => []
def defScope (s : Stmt) : Scope := match s with
  | .FunctionDef _ _ _ _ _ _ sc _ _ _ => sc
  | _ => { kind := .function, names := [], isGenerator := false, isCoroutine := false }

/-! ### no exception leaves a def -/
abbrev CX0 : CXT := fun _ _ _ _ _ _ => False
abbrev E0 : XK := fun _ _ _ => False
theorem pass0 {X : Cx} : Passes CX0 X E0 := fun _ _ _ _ _ _ _ h => h.elim

/-! ### a def (or method) of the text as it stands behind the top -/
structure Fun (K : PySem.W.Frag) (x qual : Str) (st : Stmt) (f : Addr) (fd : FuncData) : Prop where
  ex : ∃ (oc : Value) (od : Option Addr) (kV doc pm : Value) (an : Option Addr) (cdv ct : Value) (osl : Array (Option Value)),
    fd = PySem.W.fnOf x qual (defArgs st) (defBody st) (defScope st) .none kV doc pm an cdv ct ∧ K.lookup f = some ⟨oc, od, .func fd, osl⟩ ∧ PySem.W.codeIn K cdv qual = true
  kp : PySem.W.keepIn K (.ref f) = true
section
variable {P : Program} {w : World} {K : PySem.W.Frag} {mg : Str → Option Value} {base : Heap}
/-- THE RULE for a def: its body as a term of rules, and the reading of that term -/
theorem Fun.ok {x qual : Str} {st : Stmt} {f : Addr} {fd : FuncData} {N ps : List Str} {k : Nat} {sp : Sp} (F : Fun K x qual st f fd) (S : FnScope N ps (defScope st)) (len : ∀ vs H Q E, sp vs H Q E → vs.length = ps.length)
    (hbody : ∀ (cdv : Value) (A : Around) (outer : List Env) (s : Shared) (H : Hp) (vs : List V) (Q : VK) (E : XK), Room k (A.deeper (envOfC qual (defScope st) s.heap.objs.size f cdv)) → sp vs H Q E →
      ∃ t, PSs (cxOf CX0 P w K mg base N qual (defScope st) f cdv A outer s H E).nox (defBody st) t ∧ t { nx := fun _ H' => Q .non H', rt := Q } (start N vs) H) : FnOk P w K mg base CX0 (k + 1) f fd ps sp := by
  obtain ⟨oc, od, kV, doc, pm, an, cdv, ct, osl, rfl, lk, hcd⟩ := F.ex
  refine fn_of lk hcd S len fun A outer s H vs Q E hr hsp => ?_
  obtain ⟨t, h, q⟩ := hbody cdv A outer s H vs Q E hr hsp
  exact ⟨t, h.nox, q⟩
/-- how its arguments bind (no defaults): h is «fun _ _ _ _ _ _ us hl => match us, hl with | [_, _], _ => rfl», one _ a parameter -/
theorem Fun.binds {x qual : Str} {st : Stmt} {f : Addr} {fd : FuncData} {ps : List Str} (F : Fun K x qual st f fd)
    (h : ∀ (kV doc pm : Value) (an : Option Addr) (cdv ct : Value) (us : List Value), us.length = ps.length → bindArgs (PySem.W.fnOf x qual (defArgs st) (defBody st) (defScope st) .none kV doc pm an cdv ct) ⟨us, []⟩ = pure (ps.zip us)) : Binds K fd ps [] := by
  obtain ⟨oc, od, kV, doc, pm, an, cdv, ct, osl, rfl, lk, hcd⟩ := F.ex
  exact .all (h kV doc pm an cdv ct)
theorem fun_mk {x qual : Str} {st : Stmt} {f : Addr} {oc : Value} {od an : Option Addr} {osl : Array (Option Value)} {kV doc pm cdv ct : Value} (l : K.lookup f = some ⟨oc, od, .func (PySem.W.fnOf x qual (defArgs st) (defBody st) (defScope st) .none kV doc pm an cdv ct), osl⟩)
    (c : PySem.W.codeIn K cdv qual = true) (k : PySem.W.keepIn K (.ref f) = true) : Fun K x qual st f (PySem.W.fnOf x qual (defArgs st) (defBody st) (defScope st) .none kV doc pm an cdv ct) := ⟨⟨oc, od, kV, doc, pm, an, cdv, ct, osl, rfl, l, c⟩, k⟩
end
theorem small1000 {n : Nat} (h : n ≤ 1000) : n < sizeLine := Nat.lt_of_le_of_lt h (by decide)

/-! ### expressions in short: the name that stands in the i-th slot -/
section
variable {X : Cx}
theorem pv (i : Nat) {x : Str} {pos : Pos} (hN : X.N[i]? = some x := by rfl) (hv : Vis X.env.scope x := by first | exact Or.inl rfl | exact Or.inr (Or.inl rfl) | exact Or.inr (Or.inr rfl)) (hd : (x == ("__debug__" : Str)) = false := by decide)
    (hcd : (x == ("__classdict__" : Str)) = false := by decide) : PE X (.Name x pos) (tVar i) := pe_var hN hv hd hcd
end

/-! ### tests -/
theorem iteF {A B : Prop} (h : B) : if false = true then A else B := by
  rw [if_neg Bool.false_ne_true]
  exact h
theorem iteT {A B : Prop} (h : A) : if true = true then A else B := by
  rw [if_pos rfl]
  exact h
theorem ite2 {c A B : Prop} [Decidable c] (h1 : c → A) (h2 : ¬ c → B) : if c then A else B := by
  by_cases h : c
  · rw [if_pos h]
    exact h1 h
  · rw [if_neg h]
    exact h2 h
/-! ### heaps -/
/-- all that was tracked is as it was -/
def Same (H H' : Hp) : Prop := ∀ b o, H b = some o → H' b = some o
theorem Same.refl (H : Hp) : Same H H := fun _ _ h => h
theorem Same.trans {H H1 H2 : Hp} (a : Same H H1) (b : Same H1 H2) : Same H H2 := fun c o h => b c o (a c o h)
theorem Same.free {H H' : Hp} (e : Same H H') {l : Addr} (h : H' l = Option.none) : H l = Option.none := by
  cases q : H l with
  | none => rfl
  | some o =>
    rw [e l o q] at h
    cases h
theorem Same.seq {K : PySem.W.Frag} {H H' : Hp} {a : Addr} {xs : List V} (e : Same H H') (h : SqL K H a xs) : SqL K H' a xs := by
  rcases h with (h | ⟨o, h⟩) | h
  · exact .inl (.inl (e _ _ h))
  · exact .inl (.inr ⟨o, e _ _ h⟩)
  · exact .inr h

end L2

set_option Elab.async false
set_option linter.all false
set_option maxRecDepth 100000
set_option maxHeartbeats 4000000
namespace L2
open PySem PySem.Spec PyProof.Rows

/-! ### a list comprehension of one clause -/
/-- the cells that a block takes over -/
def clFrom (env : Env) : List (Str × NameKind) → List (Str × Addr) → List (Str × Addr)
  | [], cs => cs
  | (n, k) :: r, cs => clFrom env r (if k == .free then (n, (env.cells.lookup n).getD 0) :: cs else cs)
abbrev clOf (scope : Scope) (env : Env) : List (Str × Addr) := clFrom env scope.names []
theorem closureFor_cl {env : Env} : ∀ (names : List (Str × NameKind)) (cs : List (Str × Addr)), (∀ x ∈ names, x.2 = .free → ∃ c, env.cells.lookup x.1 = some c) →
    (forIn names cs fun (x : Str × NameKind) r => do
      if x.2 == .free then
        let c ← cellOf env x.1
        pure (ForInStep.yield ((x.1, c) :: r))
      else pure (ForInStep.yield r) : Sem (List (Str × Addr))) = pure (clFrom env names cs)
  | [], cs, _ => rfl
  | (n, k) :: r, cs, h => by
    rw [List.forIn_cons]
    have ih := fun cs' => closureFor_cl (env := env) r cs' fun x hx => h x (List.mem_cons_of_mem _ hx)
    by_cases hk : k = .free
    · subst hk
      obtain ⟨c, hc⟩ := h (n, .free) List.mem_cons_self rfl
      have hc' : env.cells.lookup n = some c := hc
      have ec : cellOf env n = pure c := by unfold cellOf; rw [hc']
      dsimp only
      rw [if_pos (by rfl), ec]
      show (forIn r ((n, c) :: cs) _ : Sem _) = _
      rw [ih]
      conv => rhs; unfold clFrom
      rw [if_pos (by rfl), hc']
      rfl
    · have hb : (k == NameKind.free) = false := by simpa using hk
      dsimp only
      rw [if_neg (by rw [hb]; decide)]
      show (forIn r cs _ : Sem _) = _
      rw [ih]
      conv => rhs; unfold clFrom
      rw [if_neg (by rw [hb]; decide)]
theorem closure_cl {scope : Scope} {env : Env} (h : ∀ x ∈ scope.names, x.2 = .free → ∃ c, env.cells.lookup x.1 = some c) : closureFor scope env = pure (clOf scope env) := by
  unfold closureFor
  have e := closureFor_cl (env := env) scope.names [] h
  simp only [bind_pure]
  exact e
theorem cl_lookup {env : Env} {x : Str} {c : Addr} : ∀ (names : List (Str × NameKind)) (cs : List (Str × Addr)), (clFrom env names cs).lookup x = some c → ((x, NameKind.free) ∈ names ∧ c = (env.cells.lookup x).getD 0) ∨ cs.lookup x = some c
  | [], _, h => .inr h
  | (n, k) :: r, cs, h => by
    unfold clFrom at h
    rcases cl_lookup r _ h with ⟨h1, h2⟩ | h1
    · exact .inl ⟨List.mem_cons_of_mem _ h1, h2⟩
    · by_cases hk : k = .free
      · subst hk
        rw [if_pos (by rfl), List.lookup_cons] at h1
        cases e : x == n with
        | true =>
          rw [e] at h1
          have en : x = n := eq_of_beq e
          subst en
          exact .inl ⟨List.mem_cons_self, (Option.some.inj h1).symm⟩
        | false => rw [e] at h1; exact .inr h1
      · have hb : (k == NameKind.free) = false := by simpa using hk
        rw [if_neg (by rw [hb]; decide)] at h1
        exact .inr h1
theorem cl_mono {env : Env} {x : Str} : ∀ (names : List (Str × NameKind)) (cs : List (Str × Addr)), (∃ c, cs.lookup x = some c) → ∃ c, (clFrom env names cs).lookup x = some c
  | [], _, h => h
  | (n, k) :: r, cs, h => by
    unfold clFrom
    refine cl_mono r _ ?_
    split
    · rw [List.lookup_cons]
      split
      · exact ⟨_, rfl⟩
      · exact h
    · exact h
theorem cl_has {env : Env} {x : Str} : ∀ (names : List (Str × NameKind)) (cs : List (Str × Addr)), (x, NameKind.free) ∈ names → ∃ c, (clFrom env names cs).lookup x = some c
  | [], _, h => by simp at h
  | (n, k) :: r, cs, h => by
    unfold clFrom
    rcases List.mem_cons.mp h with e | h
    · cases e
      refine cl_mono r _ ?_
      rw [if_pos (by rfl), List.lookup_cons]
      exact ⟨(env.cells.lookup x).getD 0, by simp⟩
    · exact cl_has r _ h
theorem relabel_cf {scope : Scope} {env : Env} {x : Str} (hcell : ∀ y ∈ scope.names, y.2 ≠ .cell) (h : (relabel scope env).names.lookup x = some .cell ∨ (relabel scope env).names.lookup x = some .free) : (x, NameKind.free) ∈ scope.names := by
  have hm : ∃ k, (x, k) ∈ (relabel scope env).names ∧ (k = .cell ∨ k = .free) := by
    rcases h with h | h
    · exact ⟨_, PySem.mem_of_lookup h, .inl rfl⟩
    · exact ⟨_, PySem.mem_of_lookup h, .inr rfl⟩
  obtain ⟨k, hm, hk⟩ := hm
  obtain ⟨⟨n, k'⟩, h1, h2⟩ := List.mem_map.mp hm
  dsimp only at h2
  split at h2
  · rename_i hc
    have : k' = .free := by
      simp only [Bool.and_eq_true, beq_iff_eq] at hc
      exact hc.1.1
    cases h2
    subst this
    exact h1
  · cases h2
    rcases hk with rfl | rfl
    · exact absurd rfl (hcell _ h1)
    · exact h1
theorem relabel_free {env : Env} {x : Str} : ∀ {names : List (Str × NameKind)}, names.lookup x = some .free →
    (names.map fun (n, k) => if (k == NameKind.free && env.scope.kind == .function && env.kindOf n == some .cell) then (n, NameKind.cell) else (n, k)).lookup x = some .cell ∨
    (names.map fun (n, k) => if (k == NameKind.free && env.scope.kind == .function && env.kindOf n == some .cell) then (n, NameKind.cell) else (n, k)).lookup x = some .free
  | [], h => by simp at h
  | (n, k) :: r, h => by
    have ih := @relabel_free env x r
    rw [List.map_cons]
    dsimp only
    cases hx : x == n with
    | true =>
      simp only [List.lookup_cons, hx] at h
      cases h
      split
      · left; simp [List.lookup_cons, hx]
      · right; simp [List.lookup_cons, hx]
    | false =>
      simp only [List.lookup_cons, hx] at h
      split
      · simp only [List.lookup_cons, hx]; exact ih h
      · simp only [List.lookup_cons, hx]; exact ih h

section
variable {prog : Program} {w : World} {A : Around} {R : Result → Shared → Prop} {s : Shared}
theorem codeAny_compLoop_go {elt target iter : Expr} {ifs : List Expr} {scope : Scope} {pos : Pos} {it acc : Value} {env : Env} (I : Nat → Shared → Prop)
    (turn : ∀ n s, I n s → wpAny (model prog w) A (pyNext it) (fun r s₁ => match r with
      | none => R (.ok .next) s₁
      | some v => wpAny (model prog w) A (letOwnedTupleGo target it v) (fun _ s₁' => wpAny (model prog w) A (assign target env v) (fun _ s₂ =>
          wpAny (model prog w) A (forIn ifs true fun c r => if r = true then do let ok ← isTrue c env (eval c env); pure (ForInStep.yield ok) else pure (ForInStep.yield r)) (fun ok s₃ =>
            if ok = true then wpAny (model prog w) A (eval elt env) (fun x s₄ =>
              wpAny (model prog w) A (call (.builtin "list.append") [acc, x]) (fun _ s₅ => ∃ m, m < n ∧ I m s₅) (fun _ _ => False) s₄) (fun _ _ => False) s₃
            else ∃ m, m < n ∧ I m s₃) (fun _ _ => False) s₂) (fun _ _ => False) s₁') (fun _ _ => False) s₁) (fun _ _ => False) s)
    (n : Nat) (h : I n s) :
    codeAny (model prog w) A (.compLoop (.ListComp elt [⟨target, iter, ifs, 0⟩] scope pos) 0 it acc env) R s := by
  refine codeAny_loop rfl I (fun n s hI => ?_) n h
  show wpAny _ A ((compTurn (.ListComp elt [⟨target, iter, ifs, 0⟩] scope pos) 0 it acc env).onRaise (fun x => do noteFrame x env; theTreesLotGoes x)) _ _ s
  refine wpAny_noted ?_
  rw [compTurn_list]
  refine wpAny_bind (wpAny_standAt (wpAny_bind (wpAny_mono (turn n s hI) (fun r s₁ h₁ => ?_) fun _ _ h' => h'.elim)))
  cases r with
  | none => exact wpAny_pure h₁
  | some v =>
    refine wpAny_bind (wpAny_mono h₁ (fun _ s₁' h₁ => ?_) fun _ _ h' => h'.elim)
    refine wpAny_bind (wpAny_mono h₁ (fun _ s₂ h₂ => wpAny_bind (wpAny_mono h₂ (fun ok s₃ h₃ => ?_) fun _ _ h' => h'.elim)) fun _ _ h' => h'.elim)
    cases ok with
    | false => exact wpAny_pure ⟨rfl, h₃⟩
    | true =>
      exact wpAny_bind (wpAny_bind (wpAny_mono h₃ (fun x s₄ h₄ => wpAny_bind (wpAny_mono h₄ (fun _ s₅ h₅ => wpAny_pure (wpAny_pure ⟨rfl, h₅⟩)) fun _ _ h' => h'.elim)) fun _ _ h' => h'.elim))
end

/-- the tests of a clause -/
def PTs (X : Cx) (ifs : List Expr) (t : TT) : Prop :=
  ∀ (pins : List (Addr × Obj)) (s : Shared) (σ : St) (H : Hp) (Q : Bool → Hp → Prop), Inv X pins σ H s → t σ H Q →
    wpAny (model X.prog X.w) X.A (forIn ifs true fun c r => if r = true then do let ok ← isTrue c X.env (eval c X.env); pure (ForInStep.yield ok) else pure (ForInStep.yield r)) (TP X pins σ Q) X.xe s
def tTrue : TT := fun _ H Q => Q true H
theorem pts_nil {X : Cx} : PTs X [] tTrue := fun _ _ _ H _ I h => wpAny_tests_nil ⟨H, I, h⟩
theorem pts_one {X : Cx} {c : Expr} {t : TT} (h : PT X c t) : PTs X [c] t := fun pins s σ H Q I q => wpAny_tests_one (h pins s σ H Q I q)

/-- the context of a comprehension's block -/
def Cx.blk (X : Cx) (scope : Scope) (own : List Str) (js : List Nat) (s₂ : Shared) (H₂ : Hp) (C : Addr) (fp : List Addr) (pins : List (Addr × Obj)) : Cx where
  prog := X.prog
  w := X.w
  K := X.K
  mg := X.mg
  base := X.base
  A := X.A
  N := own ++ js.map fun j => X.N.getD j Str.empty
  s₀ := s₂
  H₀ := H₂
  env := compEnvC scope (clOf scope X.env) C X.env
  outer := X.stack
  stack := X.stack
  ex := fp
  fn := fun _ => false
  calm := X.calm
  pn := X.pn ++ pins
  xe := fun _ _ => False
def blkσ (own : List Str) (js : List Nat) (σ : St) : St := own.map (fun _ => none) ++ js.map fun j => (σ[j]?).join

section
variable {X : Cx} {pins : List (Addr × Obj)} {σ : St} {H H' : Hp} {s s' : Shared} {scope : Scope} {own : List Str} {js : List Nat} {C : Addr} {fp : List Addr}
/-- what the text of a comprehension must have -/
structure CompOk (X : Cx) (scope : Scope) (own : List Str) (js : List Nat) : Prop where
  kind : scope.kind = .function
  cell : ∀ y ∈ scope.names, y.2 ≠ .cell
  free : ∀ y ∈ scope.names, y.2 = .free → X.env.kindOf y.1 = some .cell ∨ X.env.kindOf y.1 = some .free
  names : ∀ y ∈ scope.names, y.2 = .local → scope.names.lookup y.1 = some .local
  out : ∀ j ∈ js, ∃ x, X.N[j]? = some x ∧ scope.names.lookup x = some .free
theorem CompOk.cl (c : CompOk X scope own js) (I : Inv X pins σ H s) : ∀ x ∈ scope.names, x.2 = .free → ∃ c, X.env.cells.lookup x.1 = some c := fun x hx hf => I.ok.has x.1 (c.free x hx hf)
theorem CompOk.look (c : CompOk X scope own js) (I : Inv X pins σ H s) {x : Str} {a : Addr} (h : (clOf scope X.env).lookup x = some a) : X.env.cells.lookup x = some a := by
  rcases cl_lookup _ _ h with ⟨h1, h2⟩ | h1
  · obtain ⟨c', e⟩ := c.cl I (x, .free) h1 rfl
    have e' : X.env.cells.lookup x = some c' := e
    rw [e'] at h2 ⊢
    subst h2
    rfl
  · simp at h1
theorem blk_ok (c : CompOk X scope own js) (I : Inv X pins σ H s) (hC : s.heap.objs.size ≤ C) (hf : ∀ b ∈ fp, FpOk X pins H b) (ho : ∀ b ∈ fp, ∃ o, s.heap.get? b = some o) : (X.blk scope own js s H C fp pins).Ok where
  mod := I.ok.mod
  kind := c.kind
  glob := I.ok.glob
  blt := I.ok.blt
  above := hC
  inj := fun x y a h1 h2 => I.ok.inj x y a (c.look I h1) (c.look I h2)
  has := fun x hx => cl_has _ _ (relabel_cf c.cell hx)
  cab := fun x a h => by cases h
  hd := I.ok.hd
  frames := I.ok.frames
  stk := .inl rfl
  exf := fun b hb => by
    obtain ⟨o, e⟩ := ho b hb
    exact ⟨Nat.ne_of_lt (Nat.lt_of_lt_of_le (Heap.lt_size e) hC), fun x a h => (hf b hb).2.2.2.2.1 x a (c.look I h)⟩
  bs := I.bs
  bsz := Nat.le_trans I.ok.bsz I.sz
  noex := fun b o e hb => by
    rcases (hf b hb).2.2.2.1 with z | z
    · exact I.ok.noex b o e z
    · exact absurd (Nat.lt_of_lt_of_le (Heap.lt_size e) (Nat.le_trans I.ok.bsz z)) (Nat.lt_irrefl _)
  exfs := fun b hb hm => by
    rcases List.mem_cons.mp (I.stkSub b hm) with z | z
    · exact (hf b hb).2.1 z
    · exact (hf b hb).2.2.1 z
  funs := I.stack
  frf := I.stkFree
theorem blk_len (own : List Str) (js : List Nat) (σ : St) (X : Cx) : (blkσ own js σ).length = (own ++ js.map fun j => X.N.getD j Str.empty).length := by
  unfold blkσ
  simp
/-- the block's state at its start -/
theorem blk_start {acc : Addr} {m : Str → Option Value} {tk : Nat} {h' : Heap} (c : CompOk X scope own js) (I : Inv X pins σ H s) (hC : s.heap.objs.size ≤ C) (hf : ∀ b ∈ fp, FpOk X pins H b) (ho : ∀ b ∈ fp, ∃ o, s.heap.get? b = some o)
    (hn : h'.Ns C m) (k : ∀ b u, s.heap.get? b = some u → h'.get? b = some u) (hacc : s.heap.objs.size ≤ acc) (haC : acc ≠ C) (hl : h'.get? acc = some { cls := .type "list", data := .seq ([] : List Value).toArray 0 }) :
    Inv (X.blk scope own js s H C fp pins) [] (blkσ own js σ) (upd H acc (.lst [])) { s with heap := h', toks := tk } := by
  have ok := blk_ok c I hC hf ho
  have fresh : ∀ {a : Addr}, s.heap.objs.size ≤ a → H a = none := fun h => I.hok.fresh h
  have neA : ∀ b o, s.heap.get? b = some o → b ≠ acc := fun b o e => Nat.ne_of_lt (Nat.lt_of_lt_of_le (Heap.lt_size e) hacc)
  refine ⟨ok, rfl, I.bare, Un.laid k hacc (fresh hacc), ⟨m, hn, fun i x v e1 e2 e3 => ?_⟩, fun x a e => ?_, ?_, fun x a e => ?_, fun p hp => ?_, I.hok.laid k hacc ⟨Nat.zero_le _, [], 0, .nil, hl⟩, blk_len own js σ X⟩
  · -- an outer name
    have hi : own.length ≤ i := by
      refine Nat.le_of_not_lt fun hi => ?_
      unfold blkσ at e2
      rw [List.getElem?_append_left (by simpa using hi), List.getElem?_map] at e2
      cases q : own[i]? with
      | none => rw [q] at e2; cases e2
      | some z => rw [q] at e2; cases e2
    have e1' : (js.map fun j => X.N.getD j Str.empty)[i - own.length]? = some x := by
      have e1 : (own ++ js.map fun j => X.N.getD j Str.empty)[i]? = some x := e1
      rwa [List.getElem?_append_right hi] at e1
    have e2' : (js.map fun j => (σ[j]?).join)[i - own.length]? = some (some v) := by
      unfold blkσ at e2
      rw [List.getElem?_append_right (by simpa using hi)] at e2
      simpa using e2
    rw [List.getElem?_map] at e1' e2'
    cases q : js[i - own.length]? with
    | none => rw [q] at e1'; cases e1'
    | some j =>
      rw [q] at e1' e2'
      obtain ⟨x', hx', hfree⟩ := c.out j (List.mem_of_getElem? q)
      have ex : x' = x := by
        have : X.N.getD j Str.empty = x := Option.some.inj e1'
        rw [List.getD_eq_getElem?_getD, hx'] at this
        exact this
      subst ex
      have eσ : σ[j]? = some (some v) := by
        have e2'' : (σ[j]?).join = some v := Option.some.inj e2'
        cases r : σ[j]? with
        | none => rw [r] at e2''; cases e2''
        | some z => rw [r] at e2''; cases z with
          | none => cases e2''
          | some y => cases e2''; rfl
      have hmem : (x', NameKind.free) ∈ scope.names := PySem.mem_of_lookup hfree
      have hkX := c.free _ hmem rfl
      have vis : Vis X.env.scope x' := by
        rcases hkX with z | z
        · exact .inr (.inl z)
        · exact .inr (.inr z)
      obtain ⟨m0, hn0, hl0⟩ := I.loc
      obtain ⟨u, r, l⟩ := hl0 j x' v hx' eσ vis
      refine ⟨u, r, .inr ⟨relabel_free hfree, ?_⟩⟩
      obtain ⟨a, ha⟩ := cl_has (env := X.env) scope.names [] hmem
      refine ⟨a, ha, ?_⟩
      have haX := c.look I ha
      rcases l with ⟨z, _⟩ | ⟨_, a', ha', ⟨o, ho', hd⟩⟩
      · have z : X.env.kindOf x' = some .local := z
        rcases hkX with y | y
        · have y : X.env.kindOf x' = some .cell := y
          rw [z] at y; cases y
        · have y : X.env.kindOf x' = some .free := y
          rw [z] at y; cases y
      · rw [haX] at ha'; cases ha'
        exact ⟨o, k _ o ho', hd⟩
  · obtain ⟨v, o, ho', hd⟩ := I.cell x a (c.look I e)
    exact ⟨v, o, k _ o ho', hd⟩
  · show upd H acc (.lst []) C = none
    rw [upd_ne (Ne.symm haC)]
    exact fresh hC
  · have e' := c.look I e
    obtain ⟨v, o, ho', hd⟩ := I.cell x a e'
    rw [upd_ne (neA a o ho')]
    exact I.freeC x a e'
  · have hp : p ∈ X.pn ++ pins := by simpa [Cx.blk] using hp
    obtain ⟨e, n, ne, nf, d⟩ := I.pin p hp
    refine ⟨k _ _ e, by rw [upd_ne (neA _ _ e)]; exact n, Nat.ne_of_lt (Nat.lt_of_lt_of_le (Heap.lt_size e) hC), fun z => ?_, d⟩
    rcases List.mem_cons.mp (I.stkSub _ z) with q | q
    · exact ne q
    · exact nf q
/-- behind the block -/
theorem blk_end {τ : St} {pl : List (Addr × Obj)} (I : Inv X pins σ H s) (hf : ∀ b ∈ fp, FpOk X pins H b) (J : Inv (X.blk scope own js s H C fp pins) pl τ H' s') : Inv X pins σ H' s' :=
  I.call' J.os J.base J.hok J.bare fun b hb => ⟨(hf b hb).2.2.2.1, (hf b hb).2.1, (hf b hb).2.2.2.2.1, (hf b hb).2.2.2.2.2⟩
/-- an untracked object of the block's changes -/
theorem Inv.other {h' : Heap} (I : Inv X pins σ H s) (hs : Heap.SameBut C s.heap h') (hn : H C = none) (hL : C ≠ X.env.locals) (h1 : X.s₀.heap.objs.size ≤ C) (h2 : ∀ x c, X.env.cells.lookup x = some c → c ≠ C) (h3 : ∀ p ∈ X.pn ++ pins, p.1 ≠ C) :
    Inv X pins σ H { s with heap := h' } :=
  I.turned (t' := s.toks) (fun b o hb e => (hs.2 b hb).trans e) hn hL (.inr h1) h2 h3
end

/-- a target keeps the outer names -/
def GKeep (own : List Str) (g : TG) : Prop := ∀ (js : List Nat) (σ : St) (x : V) (H : Hp) (Q : St → Hp → Prop), g x (blkσ own js σ) H Q →
  g x (blkσ own js σ) H fun τ H' => (∀ (j : Nat) v, (blkσ own js σ)[j]? = some (some v) → τ[j]? = some (some v)) ∧ Q τ H'
theorem blkσ_own {own : List Str} {js : List Nat} {σ : St} {i : Nat} {v : V} (hi : i < own.length) : (blkσ own js σ)[i]? ≠ some (some v) := by
  unfold blkσ
  rw [List.getElem?_append_left (by simpa using hi), List.getElem?_map]
  cases own[i]? with
  | none => intro h; cases h
  | some z => intro h; cases h
theorem gkeep_name {own : List Str} {i : Nat} (hi : i < own.length := by decide) : GKeep own (gName i) := fun js σ x H Q h => ⟨fun j v e => by
  have hj : j ≠ i := by rintro rfl; exact blkσ_own hi e
  rw [List.getElem?_set_ne (Ne.symm hj)]
  exact e, h⟩
theorem gkeep_two {K : PySem.W.Frag} {own : List Str} {i k : Nat} (hi : i < own.length := by decide) (hk : k < own.length := by decide) : GKeep own (gTup K 2 (gCons (gName i) (gCons (gName k) gNil))) := fun js σ x H Q h => by
  obtain ⟨a, xs, rfl, hq, hl, v, r, rfl, w, r', rfl, e, h⟩ := h
  refine ⟨a, _, rfl, hq, hl, v, _, rfl, w, r', rfl, e, fun j z e => ?_, h⟩
  have hj : j ≠ i := by rintro rfl; exact blkσ_own hi e
  have hj' : j ≠ k := by rintro rfl; exact blkσ_own hk e
  rw [List.getElem?_set_ne (Ne.symm hj'), List.getElem?_set_ne (Ne.symm hj)]
  exact e
/-- [elt for target in iter if ..]: W the invariant by the turn and the heap, in which acc is the list so far; n: no more turns -/
def tCompW (own : List Str) (js : List Nat) (g : TG) (tt : TT) (te : TE) (σ : St) (J : It) (H1 : Hp) (Q : VK) : Prop :=
  ∀ acc, H1 acc = none → ∃ (W : Nat → Hp → Prop) (n : Nat), W 0 (upd H1 acc (.lst [])) ∧ ∀ i H2, W i H2 →
    (J.stop i H2 ∧ Q (.ref acc) H2) ∨ (i < n ∧ J.go i H2 ∧ ∀ x H3, J.yld i H2 x H3 → g x (blkσ own js σ) H3 fun τ H4 => tt τ H4 fun c H5 =>
      if c = true then te τ H5 fun y H6 => ∃ ys, H6 acc = some (.lst ys) ∧ ys.length < sizeLine ∧ W (i + 1) (upd H6 acc (.lst (ys ++ [y]))) else W (i + 1) H5)
def tComp (own : List Str) (js : List Nat) (wi : TI) (g : TG) (tt : TT) (te : TE) : TE := fun σ H Q => wi σ H fun J H1 => tCompW own js g tt te σ J H1 Q

section
variable {X : Cx} {scope : Scope} {own : List Str} {js : List Nat} {elt iter target : Expr} {ifs : List Expr} {wi : TI} {g : TG} {tt : TT} {te : TE} {pos : Pos}
/-- the block runs -/
theorem blk_run {pins : List (Addr × Obj)} {σ : St} {H2 : Hp} {s₂ : Shared} {it : Addr} {fp : List Addr} {tn : Nat → Heap → Prop} {J : It} {Q : VK} {E : Value → Shared → Prop} {RR : Value → Addr → Result → Shared → Prop}
    (c : CompOk X scope own js) (hc : X.calm = true) (hgk : GKeep own g)
    (hg : ∀ s H C fp pins, PG (X.blk scope own js s H C fp pins) target g) (ht : ∀ s H C fp pins, PTs (X.blk scope own js s H C fp pins) ifs tt) (he : ∀ s H C fp pins, PE (X.blk scope own js s H C fp pins) elt te)
    (I : Inv X pins σ H2 s₂) (T : Turn X.prog X.w X.K target J fp it tn) (st : tn 0 s₂.heap) (hf : ∀ b ∈ fp, FpOk X pins H2 b) (h : tCompW own js g tt te σ J H2 Q)
    (hRR : ∀ acc C H' s' m, s₂.heap.objs.size ≤ C → H' C = none → Inv X pins σ H' s' → s'.heap.Ns C m → Q (.ref acc) H' → RR (.ref acc) C (.ok .next) s') :
    wpAny (model X.prog X.w) X.A (newList []) (fun acc s₃ => wpAny (model X.prog X.w) X.A (newFunctionEnv scope X.env.globals (clOf scope X.env) [] X.env.qual none .none (some X.env)) (fun cenv s₄ =>
      codeAny (model X.prog X.w) X.A (.compStart (.ListComp elt [⟨target, iter, ifs, 0⟩] scope pos) 0 (.ref it) acc { cenv with scope := relabel scope X.env }) (RR acc cenv.locals) s₄) E s₃) E s₂ := by
  refine wpAny_newObj_type (wpAny_newFunctionEnv c.cell (by intro y hy; simp at hy) (fun h₁ hns₁ hsb₁ => ?_) c.kind)
  dsimp only at hns₁ hsb₁ ⊢
  generalize hH2 : s₂.heap.push { cls := .type "list", dict := none, data := .seq ([] : List Value).toArray } = G2 at hns₁ hsb₁ ⊢
  have hC : G2.objs.size = s₂.heap.objs.size + 1 := by rw [← hH2, Heap.size_push]
  have hDC : s₂.heap.objs.size ≠ G2.objs.size := by rw [hC]; exact Nat.ne_of_lt (Nat.lt_succ_self _)
  have hCle : s₂.heap.objs.size ≤ G2.objs.size := by rw [hC]; exact Nat.le_succ _
  have old : ∀ b o, s₂.heap.get? b = some o → h₁.get? b = some o := fun b o e => hsb₁.extBut b o (Nat.ne_of_lt (Nat.lt_of_lt_of_le (Heap.lt_size e) hCle)) (Heap.get?_push_of_some _ (hH2 ▸ Heap.get?_push_of_some _ e))
  have hacc : h₁.get? s₂.heap.objs.size = some { cls := .type "list", data := .seq ([] : List Value).toArray 0 } := hsb₁.extBut _ _ hDC (Heap.get?_push_of_some _ (hH2 ▸ Heap.get?_push_size _ rfl))
  have ho2 : ∀ b ∈ fp, ∃ o, s₂.heap.get? b = some o := fun b hb => let ⟨o, e, _⟩ := T.obj 0 _ st b hb; ⟨o, e⟩
  have I0 : ∀ tk, Inv (X.blk scope own js s₂ H2 G2.objs.size fp pins) [] (blkσ own js σ) (upd H2 s₂.heap.objs.size (.lst [])) { s₂ with heap := h₁, toks := tk } := fun tk =>
    blk_start c I hCle hf ho2 hns₁ old (Nat.le_refl _) hDC hacc
  obtain ⟨W, nn, w0, turn⟩ := h s₂.heap.objs.size (I.hok.fresh (Nat.le_refl _))
  generalize hacc' : s₂.heap.objs.size = acc at *
  generalize hGC : G2.objs.size = C at *
  have st1 : tn 0 h₁ := T.keep 0 _ _ st fun b _ o e => old b o e
  have fOk : ∀ {H' : Hp}, (∀ b ∈ fp, H' b = none) → ∀ b ∈ fp, FpOk (X.blk scope own js s₂ H2 C fp pins) [] H' b := fun hn b hb => by
    obtain ⟨f0, f1, f2, f3, f4, f5⟩ := hf b hb
    obtain ⟨o, e⟩ := ho2 b hb
    refine ⟨hn b hb, Nat.ne_of_lt (Nat.lt_of_lt_of_le (Heap.lt_size e) (by rw [← hacc'] at hCle; exact hCle)), fun z => ?_, .inl hb, fun x a h => f4 x a (c.look I h), fun p hp => f5 p (by simpa [Cx.blk] using hp)⟩
    rcases List.mem_cons.mp (I.stkSub b z) with q | q
    · exact f1 q
    · exact f2 q
  have loop : ∀ s₃ : Shared, s₃ = { s₂ with heap := h₁, toks := s₂.toks + ([] : List (Str × Value)).length } →
      codeAny (model X.prog X.w) X.A (.compLoop (.ListComp elt [⟨target, iter, ifs, 0⟩] scope pos) 0 (.ref it) (.ref acc) (compEnvC scope (clOf scope X.env) C X.env)) (RR (.ref acc) C) s₃ := by
    rintro s₃ rfl
    refine codeAny_compLoop_go (fun n s' => ∃ i H', n = nn - i ∧ Inv (X.blk scope own js s₂ H2 C fp pins) [] (blkσ own js σ) H' s' ∧ tn i s'.heap ∧ (∀ b ∈ fp, H' b = none) ∧ W i H') ?_ nn ⟨0, _, rfl, I0 _, st1, fun b hb => ?_, w0⟩
    · rintro n s3 ⟨i, H3, en, I3, st3, fr3, w3⟩
      rcases turn i H3 w3 with ⟨stop, qn⟩ | ⟨hin, go, step⟩
      · refine thn (T.done (X.blk scope own js s₂ H2 C fp pins) rfl rfl rfl hc i [] s3 _ H3 (fun _ _ => False) I3 (fOk fr3) st3 stop) fun r s4 ⟨hr, I4⟩ => ?_
        subst hr
        obtain ⟨m, hn, _⟩ := I4.loc
        exact hRR acc C H3 s4 m hCle I4.free (blk_end I hf I4) hn qn
      · refine thn (T.item (X.blk scope own js s₂ H2 C fp pins) rfl rfl rfl hc i [] s3 _ H3 (fun _ _ => False) I3 (fOk fr3) st3 go) fun r s4 ⟨u, hr, h4⟩ => ?_
        subst hr
        refine thn h4 fun _ s5 ⟨x, H5, I5, r5, y5, st5, fr5⟩ => ?_
        have I5' := I5.pinned (fOk fr5) (T.obj _ _ st5)
        have again : ∀ {σ7 : St} {H7 : Hp} {s7 : Shared}, Inv (X.blk scope own js s₂ H2 C fp pins) ([] ++ pinsAt fp s5.heap) σ7 H7 s7 → (∀ (j : Nat) v, (blkσ own js σ)[j]? = some (some v) → σ7[j]? = some (some v)) → W (i + 1) H7 →
            ∃ m, m < n ∧ ∃ i H', m = nn - i ∧ Inv (X.blk scope own js s₂ H2 C fp pins) [] (blkσ own js σ) H' s7 ∧ tn i s7.heap ∧ (∀ b ∈ fp, H' b = none) ∧ W i H' := fun {σ7 H7 s7} I7 hw w7 => by
          refine ⟨nn - (i + 1), by omega, i + 1, H7, rfl, (I7.unpinned).weak ((blk_len own js σ X).trans I7.len.symm) hw, T.keep _ _ _ st5 fun b hb o e => (I7.pin (b, o) (List.mem_append_right _ (List.mem_append_right _ (mem_pinsAt hb e)))).1, fun b hb => ?_, w7⟩
          obtain ⟨o, e, d⟩ := T.obj _ _ st5 b hb
          exact (I7.pin (b, o) (List.mem_append_right _ (List.mem_append_right _ (mem_pinsAt hb e)))).2.1
        refine thn (hg s₂ H2 C fp pins _ s5 _ H5 x u _ I5' r5 (hgk _ _ _ _ _ (step x H5 y5))) fun _ s6 ⟨σ6, H6, I6, kp, q6⟩ => ?_
        refine thn (ht s₂ H2 C fp pins _ s6 σ6 H6 _ I6 q6) fun ok s7 ⟨H7, I7, q7⟩ => ?_
        cases ok with
        | false =>
          exact again I7 kp q7
        | true =>
          refine thn (he s₂ H2 C fp pins _ s7 σ6 H7 _ I7 q7) fun y s8 ⟨v, H8, I8, r8, ys, hl, hz, w8⟩ => ?_
          refine thn (mt_append (X := X.blk scope own js s₂ H2 C fp pins) _ s8 σ6 H8 (.ref acc) [v] (.ref acc) [y] (fun _ H9 => W (i + 1) H9) I8 rfl (.cons r8 .nil) ⟨acc, ys, v, rfl, rfl, hl, hz, w8⟩) fun _ s9 ⟨_, H9, I9, _, w9⟩ => ?_
          exact again I9 kp w9
    · rw [upd_ne ?_]
      · exact (hf b hb).1
      · obtain ⟨o, e⟩ := ho2 b hb
        rw [← hacc']
        exact Nat.ne_of_lt (Heap.lt_size e)
  exact codeAny_compStart_list (loop _ rfl) (T.self _ 0 _ _ _ st1 (loop _ rfl))
/-- the comprehension as a value -/
theorem pe_comp (c : CompOk X scope own js) (hc : X.calm = true) (hi : PI X target iter wi) (hgk : GKeep own g)
    (hg : ∀ s H C fp pins, PG (X.blk scope own js s H C fp pins) target g) (ht : ∀ s H C fp pins, PTs (X.blk scope own js s H C fp pins) ifs tt) (he : ∀ s H C fp pins, PE (X.blk scope own js s H C fp pins) elt te)
    (hs : ∀ x, foldedSetIterable iter X.env x = pure x := by intro _; rfl) : PE X (.ListComp elt [⟨target, iter, ifs, 0⟩] scope pos) (tComp own js wi g tt te) := by
  intro pins s σ H Q I h
  rw [eval_ListComp]
  refine wpAny_comprehension_free (use := none) rfl hs (closure_cl (c.cl I)) c.kind c.names (thn (hi pins s σ H _ I h) fun v s1 h1 => thn h1 fun itv s2 h2 => ?_)
  obtain ⟨it, fp, tn, J, H2, e, I2, T, st2, f2, hw⟩ := h2
  subst e
  refine blk_run (RR := fun acc C => compPost (model X.prog X.w) X.A X.xe none (EP X pins σ Q) acc C) c hc hgk hg ht he I2 T st2 f2 hw ?_
  intro acc C H' s' m hCs hCn I' hn q
  refine ⟨m, hn, fun h' hs' => ⟨.ref acc, H', I'.other hs' hCn ?_ ?_ ?_ ?_, rfl, q⟩⟩
  · exact Nat.ne_of_gt (Nat.lt_of_lt_of_le I2.lt hCs)
  · exact Nat.le_trans I2.sz hCs
  · intro x a e z
    obtain ⟨v, q⟩ := I2.cell x a e
    exact absurd (Nat.lt_of_lt_of_le q.lt (by rw [z]; exact hCs)) (Nat.lt_irrefl _)
  · intro p hp z
    exact absurd (Nat.lt_of_lt_of_le (Heap.lt_size (I2.pin p hp).1) (by rw [z]; exact hCs)) (Nat.lt_irrefl _)
/-- name = [..], the name a plain local -/
theorem ps_comp {i : Nat} {y : Str} {py spos : Pos} (hN : X.N.Nodup) (hy : X.N[i]? = some y) (hyl : X.env.scope.names.lookup y = some .local) (c : CompOk X scope own js) (hc : X.calm = true) (hi : PI X target iter wi) (hgk : GKeep own g)
    (hg : ∀ s H C fp pins, PG (X.blk scope own js s H C fp pins) target g) (ht : ∀ s H C fp pins, PTs (X.blk scope own js s H C fp pins) ifs tt) (he : ∀ s H C fp pins, PE (X.blk scope own js s H C fp pins) elt te)
    (hsw : swapsWith (.ListComp elt [⟨target, iter, ifs, 0⟩] scope pos) (some (.Name y py)) spos.line X.env = pure true := by rfl)
    (hs : ∀ x, foldedSetIterable iter X.env x = pure x := by intro _; rfl) : PS X (.Assign [.Name y py] (.ListComp elt [⟨target, iter, ifs, 0⟩] scope pos) spos) (tAsg (tComp own js wi g tt te) (gName i)) := by
  intro pins s σ H D I h
  rw [exec_Assign_Name_used _ _ _ _ hsw]
  refine wpAny_bind (wpAny_standAt (wpAny_bind ?_))
  show wpAny _ X.A (do let _ ← comprehension (.ListComp elt [⟨target, iter, ifs, 0⟩] scope pos) scope X.env _ (newList []) false (eval iter X.env) (some (assign (.Name y py) X.env))) _ _ s
  refine wpAny_bind (wpAny_mono (wpAny_comprehension_free (use := some (assign (.Name y py) X.env)) (Q := fun _ s' => SP X pins D .next s') rfl hs (closure_cl (c.cl I)) c.kind c.names
    (thn (hi pins s σ H _ I h) fun v s1 h1 => thn h1 fun itv s2 h2 => ?_)) (fun _ s' hq => wpAny_pure (wpAny_pure hq)) fun _ _ e => e)
  obtain ⟨it, fp, tn, J, H2, e, I2, T, st2, f2, hw⟩ := h2
  subst e
  refine blk_run (Q := fun x H1 => gName i x σ H1 D.nx) (RR := fun acc C => compPost (model X.prog X.w) X.A X.xe (some (assign (.Name y py) X.env)) (fun _ s' => SP X pins D .next s') acc C) c hc hgk hg ht he I2 T st2 f2 hw ?_
  intro acc C H' s' m hCs hCn I' hn q
  have hL : C ≠ X.env.locals := Nat.ne_of_gt (Nat.lt_of_lt_of_le I2.lt hCs)
  have hcell : ∀ x a, X.env.cells.lookup x = some a → a ≠ C := by
    intro x a e z
    obtain ⟨v, q⟩ := I2.cell x a e
    exact absurd (Nat.lt_of_lt_of_le q.lt (by rw [z]; exact hCs)) (Nat.lt_irrefl _)
  refine wpAny_assign_Name (store_ok2 I' hN hy (.inl hyl) (v := .ref acc) rfl (fun s2 I'' hch => ?_) (.inr hyl))
  obtain ⟨a, sb, ha⟩ := hch
  have hCa : C ≠ a := by
    rcases ha with rfl | ha
    · exact hL
    · exact Ne.symm (hcell _ _ ha)
  refine ⟨m, hn.sameBut sb hCa, fun h' hs' => ⟨_, H', I''.other hs' hCn hL (Nat.le_trans I2.sz hCs) hcell ?_, q⟩⟩
  intro p hp z
  exact absurd (Nat.lt_of_lt_of_le (Heap.lt_size (I2.pin p hp).1) (by rw [z]; exact hCs)) (Nat.lt_irrefl _)
end
/-! ### the forms one uses -/
section
variable {K : PySem.W.Frag} {own : List Str} {js : List Nat} {g : TG} {tt : TT} {te : TE} {σ : St} {H1 : Hp} {Q : VK}
/-- over a list that the block leaves as it is -/
theorem comp_list {a : Addr} {xs : List V} (Pv : Addr → Nat → Hp → Prop) (h0 : ∀ acc, H1 acc = none → Pv acc 0 (upd H1 acc (.lst []))) (hl : ∀ acc i H, H1 acc = none → i ≤ xs.length → Pv acc i H → SqL K H a xs)
    (hs : ∀ acc i x H, H1 acc = none → xs[i]? = some x → Pv acc i H → g x (blkσ own js σ) H fun τ H4 => tt τ H4 fun c H5 =>
      if c = true then te τ H5 fun y H6 => ∃ ys, H6 acc = some (.lst ys) ∧ ys.length < sizeLine ∧ (i + 1 ≤ xs.length ∧ Pv acc (i + 1) (upd H6 acc (.lst (ys ++ [y])))) else (i + 1 ≤ xs.length ∧ Pv acc (i + 1) H5))
    (hd : ∀ acc H, H1 acc = none → Pv acc xs.length H → Q (.ref acc) H) : tCompW own js g tt te σ (Itl K a) H1 Q := by
  intro acc hacc
  refine ⟨fun i H => i ≤ xs.length ∧ Pv acc i H, xs.length, ⟨Nat.zero_le _, h0 acc hacc⟩, ?_⟩
  rintro i H ⟨hi, p⟩
  have q := hl acc i H hacc hi p
  by_cases hlt : i < xs.length
  · refine .inr ⟨hlt, ⟨xs, xs[i], q, by simp [hlt]⟩, fun x H' y => ?_⟩
    obtain ⟨e, y⟩ := y
    subst e
    exact hs acc i x _ hacc (y xs q) p
  · have e : i = xs.length := by omega
    subst e
    exact .inl ⟨⟨xs, q, Nat.le_refl _⟩, hd acc H hacc p⟩
/-- over a range -/
theorem comp_range {lo : Int} {n : Nat} (Pv : Addr → Nat → Hp → Prop) (h0 : ∀ acc, H1 acc = none → Pv acc 0 (upd H1 acc (.lst [])))
    (hs : ∀ acc i H, H1 acc = none → i < n → Pv acc i H → g (.int (lo + i)) (blkσ own js σ) H fun τ H4 => tt τ H4 fun c H5 =>
      if c = true then te τ H5 fun y H6 => ∃ ys, H6 acc = some (.lst ys) ∧ ys.length < sizeLine ∧ (i + 1 ≤ n ∧ Pv acc (i + 1) (upd H6 acc (.lst (ys ++ [y])))) else (i + 1 ≤ n ∧ Pv acc (i + 1) H5))
    (hd : ∀ acc H, H1 acc = none → Pv acc n H → Q (.ref acc) H) : tCompW own js g tt te σ (Itr lo n) H1 Q := by
  intro acc hacc
  refine ⟨fun i H => i ≤ n ∧ Pv acc i H, n, ⟨Nat.zero_le _, h0 acc hacc⟩, ?_⟩
  rintro i H ⟨hi, p⟩
  by_cases hlt : i < n
  · refine .inr ⟨hlt, hlt, fun x H' y => ?_⟩
    obtain ⟨e, y⟩ := y
    subst e y
    exact hs acc i _ hacc hlt p
  · have e : i = n := by omega
    subst e
    exact .inl ⟨Nat.le_refl _, hd acc H hacc p⟩
end
/-- a comprehension's scope against its def's, by reckoning -/
def compChk (scope sc : Scope) (js : List Nat) (N : List Str) : Bool :=
  (scope.kind == .function) && (scope.names.all fun y => (y.2 != .cell) && ((y.2 != .free) || (sc.names.lookup y.1 == some .cell) || (sc.names.lookup y.1 == some .free)) && ((y.2 != .local) || (scope.names.lookup y.1 == some .local))) &&
  (js.all fun j => match N[j]? with | some x => scope.names.lookup x == some .free | none => false)
theorem CompOk.by {X : Cx} {scope sc : Scope} {own N : List Str} {js : List Nat} (hX : X.env.scope = sc) (hN : X.N = N) (h : compChk scope sc js N = true) : CompOk X scope own js := by
  unfold compChk at h
  simp only [Bool.and_eq_true, beq_iff_eq, List.all_eq_true, Bool.or_eq_true, bne_iff_ne, ne_eq] at h
  obtain ⟨⟨h1, h2⟩, h3⟩ := h
  refine ⟨h1, fun y hy => (h2 y hy).1.1, fun y hy hf => ?_, fun y hy hl => ?_, fun j hj => ?_⟩
  · show X.env.scope.names.lookup y.1 = _ ∨ X.env.scope.names.lookup y.1 = _
    rw [hX]
    rcases (h2 y hy).1.2 with (z | z) | z
    · exact absurd hf z
    · exact .inl z
    · exact .inr z
  · rcases (h2 y hy).2 with z | z
    · exact absurd hl z
    · exact z
  · have := h3 j hj
    rw [hN]
    cases e : N[j]? with
    | none => rw [e] at this; cases this
    | some x => rw [e] at this; exact ⟨x, rfl, by simpa using this⟩
end L2

set_option Elab.async false
set_option linter.all false
set_option maxRecDepth 100000
set_option maxHeartbeats 4000000
namespace L2
open PySem PySem.Spec PyProof.Rows PySem.SeqAt

section
variable {X : Cx}
theorem Vals.bl_get {bs : List Bool} {us : List Value} (r : Vals (bs.map V.bl) us) {i : Nat} {v : Value} (e : us[i]? = some v) : ∃ b, bs[i]? = some b ∧ v = .bool b := by
  cases q : (bs.map V.bl)[i]? with
  | none =>
    have := r.none_of q
    rw [e] at this; cases this
  | some x =>
    obtain ⟨u, h1, h2⟩ := r.get q
    rw [e] at h1; cases h1
    rw [List.getElem?_map] at q
    cases z : bs[i]? with
    | none => rw [z] at q; cases q
    | some b => rw [z] at q; cases q; exact ⟨b, rfl, h2⟩
theorem range_all {bs : List Bool} : (List.range bs.length).all (fun i => bs.getD i true) = bs.all id := by
  rw [Bool.eq_iff_iff, List.all_eq_true, List.all_eq_true]
  constructor
  · intro h b hb
    obtain ⟨i, hi, e⟩ := List.getElem_of_mem hb
    have := h i (List.mem_range.mpr hi)
    simpa [List.getD_eq_getElem?_getD, hi, e] using this
  · intro h i hi
    have hi' := List.mem_range.mp hi
    have := h bs[i] (List.getElem_mem hi')
    simpa [List.getD_eq_getElem?_getD, hi'] using this
/-- all(..) of a list of bools -/
theorem call_all (hc : X.calm = true) : CallR X (.builtin "all") (fun xs H Q => ∃ (a : Addr) (bs : List Bool), xs = [.ref a] ∧ SqL X.K H a (bs.map V.bl) ∧ Q (.bl (bs.all id)) H) := by
  intro pins s σ H xs us Q I r h
  obtain ⟨a, bs, rfl, hq, q⟩ := h
  obtain ⟨u, rfl, r1⟩ := vals1 r
  cases r1
  obtain ⟨its, rv, p, hz⟩ := I.list hq
  refine call_all_walk (wpAny_pyIter_list p.isList ?_)
  have hlt := (let ⟨o, n, e, _⟩ := p; Heap.lt_size e : a < s.heap.objs.size)
  have hne : a ≠ s.heap.objs.size := Nat.ne_of_lt hlt
  have hlen : its.toArray.size = bs.length := by rw [List.size_toArray, ← rv.length, List.length_map]
  refine ⟨s.heap.objs.size, _, _, _, _, _, fun i => bs.getD i true, rfl, Walks.list (A := X.A.in1) (I.ok.hd hc) _ a hne its.toArray, ⟨⟨_, Heap.get?_push_size _ rfl, rfl, rfl⟩, ?_⟩, ?_, ?_⟩
  · obtain ⟨o, n, e, c, _, d⟩ := p
    exact ⟨o, Heap.get?_push_of_some _ e, c, n, d⟩
  · intro i v s' Q' E' hP hQ
    have hP' : its[i]? = some v := by simpa using hP
    obtain ⟨b, hb, rfl⟩ := rv.bl_get hP'
    refine wpAny_truthy_bool ?_
    dsimp only at hQ
    rw [List.getD_eq_getElem?_getD, hb] at hQ
    exact hQ
  · intro h' tk k
    rw [hlen, range_all]
    refine ⟨.bl (bs.all id), H, I.kept (h' := h') (t' := tk) fun b o e => k b o ?_ (Heap.get?_push_of_some _ e), rfl, q⟩
    intro hm
    have : b = s.heap.objs.size := by simpa using hm
    rw [this] at e
    exact absurd (Heap.lt_size e) (Nat.lt_irrefl _)

/-! ### list.remove of an int -/
theorem Vals.int_at {ns : List Int} {us : List Value} (r : Vals (ns.map V.int) us) {i : Nat} (h : i < ns.length) : ∃ t, us[i]? = some (.int ns[i] t) := by
  have q : (ns.map V.int)[i]? = some (V.int ns[i]) := by rw [List.getElem?_map, List.getElem?_eq_getElem h]; rfl
  obtain ⟨u, h1, t, rfl⟩ := r.get q
  exact ⟨t, h1⟩
theorem map_eraseIdx' {α β : Type} (f : α → β) : ∀ (l : List α) (i : Nat), (l.eraseIdx i).map f = (l.map f).eraseIdx i
  | [], _ => rfl
  | _ :: _, 0 => rfl
  | a :: r, i + 1 => by rw [List.eraseIdx_cons_succ, List.map_cons, List.map_cons, List.eraseIdx_cons_succ, map_eraseIdx' f r i]
/-! ### lists of ints compared -/
theorem range_eq : ∀ {ns ms : List Int}, ns.length = ms.length → ((List.range ns.length).all fun i => ns.getD i 0 == ms.getD i 0) = decide (ns = ms) := fun {ns ms} h => by
  rw [Bool.eq_iff_iff, List.all_eq_true, decide_eq_true_iff]
  constructor
  · intro q
    refine List.ext_getElem h fun i h1 h2 => ?_
    have := q i (List.mem_range.mpr h1)
    simpa [List.getD_eq_getElem?_getD, h1, h2] using this
  · rintro rfl i hi
    simp
theorem ints_at {ns : List Int} {its : List Value} (r : Vals (ns.map V.int) its) {j : Nat} (h : j < its.toArray.size) : ∃ t, its.toArray[j] = .int (ns.getD j 0) t := by
  have hj : j < ns.length := by rw [List.size_toArray, ← r.length, List.length_map] at h; exact h
  obtain ⟨t, q⟩ := r.int_at hj
  obtain ⟨_, q'⟩ := List.getElem?_eq_some_iff.mp q
  exact ⟨t, by simpa [List.getD_eq_getElem?_getD, hj] using q'⟩
def rNeL (K : PySem.W.Frag) : R2 := fun x y H Q => ∃ (a b : Addr) (ns ms : List Int), x = .ref a ∧ y = .ref b ∧ SqL K H a (ns.map V.int) ∧ SqL K H b (ms.map V.int) ∧ Q (.bl (!decide (ns = ms))) H
theorem op_neL (hu : X.A.units < cLine) : OpR X (compareOp .NotEq) (rNeL X.K) := by
  intro pins s σ H x y v u Q I rx ry h
  obtain ⟨a, b, ns, ms, rfl, rfl, ha, hb, q⟩ := h
  cases rx
  cases ry
  obtain ⟨its, r1, p1, _⟩ := I.list ha
  obtain ⟨its2, r2, p2, _⟩ := I.list hb
  have l1 : its.toArray.size = ns.length := by rw [List.size_toArray, ← r1.length, List.length_map]
  have l2 : its2.toArray.size = ms.length := by rw [List.size_toArray, ← r2.length, List.length_map]
  by_cases hsz : its.toArray.size = its2.toArray.size
  · refine RcNeAt.lists (e := fun i => ns.getD i 0 == ms.getD i 0) p1.isList p2.isList hsz hu (fun j h1 h2 => ?_) _ _ _ _ ?_
    · obtain ⟨t1, e1⟩ := ints_at r1 h1
      obtain ⟨t2, e2⟩ := ints_at r2 h2
      rw [e1, e2]
      exact EqAt.int_int _ _ _ _
    · rw [l1, range_eq (by rw [← l1, ← l2]; exact hsz)]
      exact ⟨.bl _, H, I, rfl, q⟩
  · refine RcNeAt.lists_lengths p1.isList p2.isList (by simpa using hsz) hu _ _ _ _ ?_
    have ne : ¬ ns = ms := fun z => hsz (by rw [l1, l2, z])
    rw [decide_eq_false ne] at q
    exact ⟨.bl _, H, I, rfl, q⟩
end
end L2

set_option Elab.async false
set_option linter.all false
set_option maxRecDepth 100000
set_option maxHeartbeats 4000000
namespace L2
open PySem PySem.Spec PyProof.Rows PySem.SeqAt

/-! ### min of a list whose items are compared in the heap -/
section
variable {prog : Program} {w : World} {A : Around} {R : Result → Shared → Prop} {I : Addr} {fp wr : List Addr} {n : Nat} {P : Nat → Value → Prop} {St : Nat → Heap → Prop}
end
section
variable {X : Cx}
end
end L2

set_option Elab.async false
set_option linter.all false
set_option maxRecDepth 100000
set_option maxHeartbeats 4000000
namespace L2
open PySem PySem.Spec PyProof.Rows PySem.SeqAt

/-! ### enumerate of a list -/
/-- at turn i a new pair (i, the i-th thing) -/
def Ite (K : PySem.W.Frag) (a : Addr) : It :=
  ⟨fun i H => ∃ xs x, SqL K H a xs ∧ xs[i]? = some x, fun i H y H' => ∃ p x, H p = none ∧ y = .ref p ∧ H' = upd H p (.tup [.int i, x]) ∧ ∀ xs, SqL K H a xs → xs[i]? = some x, fun i H => ∃ xs, SqL K H a xs ∧ xs.length ≤ i⟩
theorem turn_enum {P : Program} {w : World} {K : PySem.W.Frag} {es : List Expr} {x1} {pos : Pos} (a it e : Addr) (hne : e ≠ it) : Turn P w K (.Tuple es x1 pos) (Ite K a) [e, it] e (fun i h => (∃ old, IsEnum h e it (i : Nat) old) ∧ h.IsListIter it a i) where
  mem := by simp
  obj := fun i h st b hb => by
    obtain ⟨⟨old, s1⟩, s2⟩ := st
    rcases List.mem_cons.mp hb with z | z
    · subst z
      exact ⟨_, s1, fun v z => nomatch z⟩
    · have z : b = it := by simpa using z
      subst z
      obtain ⟨o, e, c, d⟩ := s2
      exact ⟨o, e, fun v z => by rw [d] at z; cases z⟩
  keep := fun i h h' st k => by
    obtain ⟨⟨old, s1⟩, s2⟩ := st
    exact ⟨⟨old, k e (by simp) _ s1⟩, s2.at fun o q => k it (by simp) o q⟩
  item := by
    intro X hP hw hK hc i pins s σ H E I hf st hg
    subst hP hw hK
    obtain ⟨xs, x, hq, hx⟩ := hg
    obtain ⟨its, rv, p, hz⟩ := I.list hq
    obtain ⟨u, hu, ru⟩ := rv.get hx
    obtain ⟨⟨old, s1⟩, s2⟩ := st
    refine wpAny_pyNext_enum_item s1 s2 p.isList (x := u) (by simpa using hu) hne fun h' ho hit ht hsz hk => ?_
    refine ⟨_, rfl, ?_⟩
    refine wpAny_letOwnedTupleGo_enum ho fun h'' he hs => ?_
    have fresh : H s.heap.objs.size = none := I.hok.fresh (Nat.le_refl _)
    have k : ∀ b o, b ∉ [e, it] → s.heap.get? b = some o → h''.get? b = some o := fun b o hb q => by
      have hb' : b ≠ e ∧ b ≠ it := by simpa using hb
      exact (hs.2 b hb'.1).trans (hk b o hb'.1 hb'.2 q)
    have nE : ∀ b ∈ [e, it], H b = none := fun b hb => (hf b hb).1
    have nit : ∀ b u, H b = some u → b ∉ [e, it] := fun b u q z => by rw [nE b z] at q; cases q
    have hpe : s.heap.objs.size ≠ e := Nat.ne_of_gt (Heap.lt_size s1)
    have htup : h''.get? s.heap.objs.size = some { cls := .type "tuple", data := .seq #[.int i s.toks, u] } := (hs.2 _ hpe).trans ht
    have newOk : ObjOk X.prog X.w (upd H s.heap.objs.size (.tup [.int i, x])) h'' s.heap.objs.size (.tup [.int i, x]) := by
      refine ⟨?_, [.int i s.toks, u], .cons ⟨_, rfl⟩ (.cons ru .nil), ⟨_, htup, rfl, rfl, 0, rfl⟩⟩
      show 2 ≤ sizeLine
      decide
    have I1 : Inv X pins σ (upd H s.heap.objs.size (.tup [.int i, x])) { s with heap := h'', toks := s.toks + 1 } := by
      refine I.step (g' := s.gens) (d' := s.drawn) (ch := [e, it]) (fun b hb => ?_) (fun b o _ _ hc q _ => k b o hc q) (fun b o _ _ hc q _ => ⟨o.slots, k b o hc q⟩) (fun b o _ q n => ?_) (fun b o hc q => ⟨o, k b o hc q⟩)
        (fun b xs q => by rw [upd_ne (ne_of_none q fresh)]; exact q) (fun b o xs q => by rw [upd_ne (ne_of_none q fresh)]; exact q) (fun b ps q => ⟨#[], by rw [upd_ne (ne_of_none q fresh), q]; simp⟩) (fun m hm => ?_) (fun b ob q => ?_) I.bare
      · obtain ⟨f0, f1, f2, f3, f4, f5⟩ := hf b hb
        exact ⟨f3, f1, f4, f5⟩
      · rw [upd_ne (Nat.ne_of_lt (Heap.lt_size q))]
        exact n
      · obtain ⟨o, es, ep, ho, r⟩ := hm
        refine ⟨o, es, ep, k _ o (fun z => ?_) ho, r⟩
        exact (hf _ z).2.1 rfl
      · by_cases hb : b = s.heap.objs.size
        · subst hb
          rw [upd_same] at q; cases q
          exact newOk
        · rw [upd_ne hb] at q
          refine (I.hok b ob q).stay (fun c v hc r => k c v ?_ r) (fun c r => by rw [upd_ne (ne_of_none r fresh)]; exact r) fun c xs r => by rw [upd_ne (ne_of_none r fresh)]; exact r
          rcases hc with z | z
          · rw [z]; exact nit b ob q
          · exact nit c _ z
    refine ⟨.ref s.heap.objs.size, _, I1, rfl, ⟨s.heap.objs.size, x, fresh, rfl, rfl, fun ys hy => by rw [I.list_inj hy hq]; exact hx⟩, ⟨⟨u, ?_⟩, ?_⟩, fun b hb => ?_⟩
    · have he : IsEnum h'' e it ((i : Int) + 1) u := he
      show IsEnum h'' e it ((i + 1 : Nat) : Int) u
      rw [show ((i + 1 : Nat) : Int) = (i : Int) + 1 by omega]
      exact he
    · exact hit.extBut hs.extBut (Ne.symm hne)
    · have lt : b < s.heap.objs.size := by
        rcases List.mem_cons.mp hb with z | z
        · rw [z]; exact Heap.lt_size s1
        · have z : b = it := by simpa using z
          rw [z]
          obtain ⟨o, q, _⟩ := s2
          exact Heap.lt_size q
      rw [upd_ne (Nat.ne_of_lt lt)]
      exact nE b hb
  done := by
    intro X hP hw hK hc i pins s σ H E I hf st hg
    subst hP hw hK
    obtain ⟨xs, hq, hx⟩ := hg
    obtain ⟨its, rv, p, hz⟩ := I.list hq
    obtain ⟨⟨old, s1⟩, s2⟩ := st
    obtain ⟨f0, f1, f2, f3, f4, f5⟩ := hf it (by simp)
    have hl := rv.length
    exact wpAny_pyNext_enum_end (I.ok.hd hc) s1 s2 p.isList (by simp; omega) fun h' eb => ⟨rfl, I.turned (t' := s.toks) (fun b o hb q => eb b o hb q) f0 f1 f3 f4 f5⟩
  self := fun _ _ _ _ _ st h => by
    obtain ⟨⟨old, s1⟩, _⟩ := st
    exact wpAny_pyIter_enum s1 h
section
variable {X : Cx}
/-- isinstance(x, T) for a built-in type -/
theorem call_isinst : CallR X (.builtin "isinstance") (fun xs H Q => ∃ x T t b, xs = [x, .ty T] ∧ TyOf X.K H x t ∧ PySem.W.kitOne X.K t (.type T) = some b ∧ Q (.bl b) H) := by
  intro pins s σ H xs us Q I r h
  obtain ⟨x, T, t, b, rfl, ty, e, q⟩ := h
  obtain ⟨u, u2, rfl, r1, r2⟩ := vals2 r
  cases r2
  exact isinst_ok I r1 ty e fun tk => ⟨.bl b, H, I.tok _, rfl, q⟩
end
end L2

set_option Elab.async false
set_option linter.all false
set_option maxRecDepth 100000
set_option maxHeartbeats 4000000
namespace L2
open PySem PySem.Spec PyProof.Rows

/-! ### lists of pairs as tables -/
section
variable {κ : Type} [DecidableEq κ]
end


/-! ### a tracked dict, its keys ints and texts or tuples of these -/
section
variable {P : Program} {w : World} {H : Hp} {h : Heap} {a : Addr}
end

section
variable {X : Cx} {pins : List (Addr × Obj)} {σ : St} {H : Hp} {s : Shared} {a : Addr} {y v : V} {u r : Value} {o : Option V} {A : Around} {E : Value → Shared → Prop}

theorem Inv.big (I : Inv X pins σ H s) : sysModules < s.heap.objs.size := by
  have h : mainGlobals < s.heap.objs.size := (I.mod.glob.keeps I.bk).lt
  exact Nat.lt_trans (by decide) h

end

section
variable {X : Cx} {pins : List (Addr × Obj)} {σ : St} {H : Hp} {s : Shared} {a : Addr} {kvs : List (Key × V)} {k : Key} {u : Value} {A : Around} {E : Value → Shared → Prop}
end


/-! ### readings and rules -/
section
variable {X : Cx} {o i e value : Expr} {pos pos' tpos : Pos} {td ty tv : TE}
end


/-! ### displays -/
theorem dk_empty {P : Program} {w : World} {H : Hp} (h : Heap) (hb : sysModules < h.objs.size) : ObjOk P w H (h.push { cls := .type "dict", data := .dict #[] }) h.objs.size (.dK []) :=
  ⟨Nat.zero_le _, beq_eq_false_iff_ne.mpr (Ne.symm (Nat.ne_of_lt hb)), [], .nil, Heap.DictOf.new h⟩
/-- {}, to be a dict of the kind that is wanted -/
def tDNewK : TE := fun _ H Q => ∀ p, H p = none → Q (.ref p) (upd H p (.dK []))
section
variable {X : Cx} {pos : Pos}
theorem pe_dnewK : PE X (.Dict [] [] pos) tDNewK := fun pins s σ H Q I h =>
  wpAny_Dict_empty ⟨.ref s.heap.objs.size, _, I.laid (a := s.heap.objs.size) (o := .dK []) (t' := s.toks) (fun _ _ q => Heap.get?_push_of_some _ q) (Nat.le_refl _) (dk_empty s.heap I.big), rfl, h _ (I.hok.fresh (Nat.le_refl _))⟩
end

/-! ### methods -/
/-- a method call o.m(e) of a built-in, with one argument: what must be seen of the text -/
structure M1 (X : Cx) (o : Expr) (m : Str) (apos : Pos) (e : Expr) (cpos : Pos) : Prop where
  base : attributeBase o m X.env (eval o X.env) = eval o X.env
  few : ((backTo cpos (starEach [e] X.env)).all (fun x => !x.1) && (backToKw cpos (keywordEach [] X.env)).all (fun x => x.1.isSome)
    && decide (([e] : List Expr).length + ([] : List Keyword).length + (if ([] : List Keyword).isEmpty then 0 else 1) < 30)) = true
  line : (apos.endLine == cpos.line) = true
  trees : backTo cpos (starEach [e] X.env) = [(false, eval e X.env)]
structure M2 (X : Cx) (o : Expr) (m : Str) (apos : Pos) (e f : Expr) (cpos : Pos) : Prop where
  base : attributeBase o m X.env (eval o X.env) = eval o X.env
  few : ((backTo cpos (starEach [e, f] X.env)).all (fun x => !x.1) && (backToKw cpos (keywordEach [] X.env)).all (fun x => x.1.isSome)
    && decide (([e, f] : List Expr).length + ([] : List Keyword).length + (if ([] : List Keyword).isEmpty then 0 else 1) < 30)) = true
  line : (apos.endLine == cpos.line) = true
  trees : backTo cpos (starEach [e, f] X.env) = [(false, eval e X.env), (false, eval f X.env)]

section
variable {X : Cx} {pins : List (Addr × Obj)} {σ : St} {H : Hp} {s : Shared} {a : Addr} {y d : V} {u r : Value} {o : Option V} {A : Around} {E : Value → Shared → Prop}
end

section
variable {X : Cx} {o e f : Expr} {apos cpos : Pos} {td ty tx : TE}
end

/-! ### dict(d): a copy -/
section
variable {X : Cx} {pins : List (Addr × Obj)} {σ : St} {H : Hp} {s : Shared} {a : Addr} {kvs : List (Key × V)} {A : Around} {E : Value → Shared → Prop}
end


section
variable {X : Cx} {pins : List (Addr × Obj)} {σ : St} {H : Hp} {s : Shared} {a : Addr} {y : V} {u : Value} {A : Around} {E : Value → Shared → Prop}
end
end L2
namespace L2
open PySem PySem.Spec PyProof.Rows
/-! ### a dict's pairs: keys that differ -/
section
variable {κ : Type} [DecidableEq κ]
end
end L2

set_option Elab.async false
set_option linter.all false
set_option maxRecDepth 100000
set_option maxHeartbeats 4000000
namespace L2
open PySem PySem.Spec PyProof.Rows PySem.SeqAt
/-! ### enumerate of a tuple -/
section
variable {prog : Program} {w : World} {A : Around} {E : Value → Shared → Prop} {s : Shared}
theorem nextOf_tup {it t : Addr} {i : Nat} {items : Array Value} {x : Value} {Q : Value → Shared → Prop} (hit : s.heap.IsTupleIter it t i) (ht : s.heap.IsTuple t items) (hx : items[i]? = some x)
    (hQ : ∀ h', h'.IsTupleIter it t (i + 1) → Heap.SameBut it s.heap h' → Q x { s with heap := h' }) : wpAny (model prog w) A (Builtin.SmallTypes.nextOf (.ref it)) Q E s := by
  obtain ⟨o, ho, hc, hd⟩ := id hit
  obtain ⟨ol, hol, _, nl, hdl⟩ := ht
  unfold Builtin.SmallTypes.nextOf
  refine wpAny_bind (wpAny_callSpecial?_slot (name := Str.ofString "__next__") hit.typeIs F.slot_tuple_iterator_next (wpAny_call_entry F.slot_tuple_iterator_next hit.typeIs F.entry_tuple_iterator_next ?_ (F.args_tuple_iterator_next_1 _)))
  show wpAny _ _ (field (.ref it) 0 >>= _) _ _ s
  refine wpAny_bind (wpAny_field ho hd (x := .ref t) rfl ?_)
  show wpAny _ _ (if (Value.ref t == Value.none) = true then _ else _) _ _ s
  rw [if_neg (show ¬ ((Value.ref t == Value.none) = true) from Bool.false_ne_true)]
  show wpAny _ _ (field (.ref it) 1 >>= _) _ _ s
  refine wpAny_bind (wpAny_field ho hd (x := .int i 0) rfl ?_)
  show wpAny _ _ (seqItems? (.ref t) >>= _) _ _ s
  refine wpAny_bind (wpAny_seqItems hol hdl ?_)
  simp only [Int.toNat_natCast, hx]
  refine wpAny_bind (wpAny_setField ho hd (by simp) (wpAny_pure ⟨x, rfl, wpAny_pure (hQ _ ?_ (Heap.SameBut.update ..))⟩))
  exact ⟨_, Heap.get?_update_self _ ho (Obj.isFreed_of_fields (Obj.data_mapFields hd _)), (Obj.cls_mapFields ..).trans hc, by rw [Obj.data_mapFields hd]; simp [rawInt]⟩
theorem nextOf_tup_end {it t : Addr} {i : Nat} {items : Array Value} {Q : Value → Shared → Prop} (hh : A.handled = none) (hit : s.heap.IsTupleIter it t i) (ht : s.heap.IsTuple t items) (hx : items[i]? = none)
    (hE : ∀ h' e, Heap.ExtBut it s.heap h' → (∃ o, h'.get? e = some o ∧ o.cls = .type "StopIteration") → E (.ref e) { s with heap := h' }) : wpAny (model prog w) A (Builtin.SmallTypes.nextOf (.ref it)) Q E s := by
  obtain ⟨o, ho, hc, hd⟩ := id hit
  obtain ⟨ol, hol, _, nl, hdl⟩ := ht
  unfold Builtin.SmallTypes.nextOf
  refine wpAny_bind (wpAny_callSpecial?_slot (name := Str.ofString "__next__") hit.typeIs F.slot_tuple_iterator_next (wpAny_call_entry F.slot_tuple_iterator_next hit.typeIs F.entry_tuple_iterator_next ?_ (F.args_tuple_iterator_next_1 _)))
  show wpAny _ _ (field (.ref it) 0 >>= _) _ _ s
  refine wpAny_bind (wpAny_field ho hd (x := .ref t) rfl ?_)
  show wpAny _ _ (if (Value.ref t == Value.none) = true then _ else _) _ _ s
  rw [if_neg (show ¬ ((Value.ref t == Value.none) = true) from Bool.false_ne_true)]
  show wpAny _ _ (field (.ref it) 1 >>= _) _ _ s
  refine wpAny_bind (wpAny_field ho hd (x := .int i 0) rfl ?_)
  show wpAny _ _ (seqItems? (.ref t) >>= _) _ _ s
  refine wpAny_bind (wpAny_seqItems hol hdl ?_)
  simp only [Int.toNat_natCast, hx]
  refine wpAny_bind (wpAny_rule (wpAny_bind (wpAny_setField ho hd (by simp) ?_)))
  show wpAny _ _ (newExc (.type "StopIteration") [] >>= _) _ _ _
  refine wpAny_bind ?_
  simp only [newExc, newTuple]
  refine wpAny_bind (wpAny_newObj_type ?_ (by size_fits))
  refine wpAny_bind (m := firstArgMember _ _) (wpAny_of_eq (a := Value.none) (by first | rfl | (simp only [firstArgMember]; rfl)) ?_)
  refine wpAny_newObj_type ?_ (by size_fits)
  simp only [raiseNew]
  refine wpAny_bind (wpAny_handled ?_)
  first | rw [show A.in1.handled = none from hh] | rw [hh]
  refine wpAny_bind (wpAny_pure (wpAny_throw ?_))
  exact hE _ _ (((Heap.SameBut.update ..).extBut.push _).push _) ⟨_, Heap.get?_push_size _ rfl, rfl⟩
theorem draws_tup (hh : A.handled = none) (it l : Addr) (hne : l ≠ it) (items : Array Value) : Draws prog w A it [it, l] items.size (fun i v => items[i]? = some v) (fun i h => h.IsTupleIter it l i ∧ h.IsTuple l items) where
  live := fun _ _ st => let ⟨o, ho, _⟩ := st.1; ⟨o, ho⟩
  frame := fun _ _ _ st hk => ⟨st.1.at fun o e => hk it (by simp) o e, let ⟨o, e, c⟩ := st.2; ⟨o, hk l (by simp) o e, c⟩⟩
  item := fun i s Q E hi st hQ => by
    refine nextOf_tup st.1 st.2 (x := items[i]) (by simp [hi]) fun h' hit' hs' => ?_
    exact hQ _ h' s.toks (by simp [hi]) ⟨hit', let ⟨o, e, c⟩ := st.2; ⟨o, (hs'.2 l hne).trans e, c⟩⟩ hs'
  done := fun s Q E st hE => nextOf_tup_end hh st.1 st.2 (by simp) hE
end
theorem enum_new_tup (l : Addr) (items : Array Value) (n : Nat) (dct : Option Addr) (sl : Array (Option Value)) :
    Meets (Builtin.«enumerate.__new__» ⟨[.type "enumerate", .ref l], []⟩) (fun _ R s => s.heap.get? l = some { cls := .type "tuple", dict := dct, data := .seq items n, slots := sl } ∧
      R (.ok (.ret (.ref (s.heap.push { cls := .type "tuple_iterator", data := .fields #[.ref l, .int 0 0] }).objs.size)))
        { s with heap := (s.heap.push { cls := .type "tuple_iterator", data := .fields #[.ref l, .int 0 0] }).push { cls := .type "enumerate", data := .fields #[.none, .bool false, .ref s.heap.objs.size, rawInt 0, .none, .none] } }) :=
  .of_wp fun prog w A R s h => by
    obtain ⟨hp, g, d, tk, os⟩ := s; obtain ⟨hl, h⟩ := h
    have hsub := sub_enumerate
    have hL : Heap.IsTuple (Shared.heap ⟨hp, g, d, tk, os⟩) l items := ⟨_, hl, rfl, n, rfl⟩
    wp_walk using AutoSeq1.wpAny_loadPart' hl
    refine wpAny_stack_any fun st => wpAny_pure ?_
    split
    · rename_i c _ _ _ _ _
      cases (c == Value.type "enumerate")
      · wp_walk using AutoSeq1.wpAny_loadPart' hl, wpAny_pyIter_tuple hL
        exact ⟨_, rfl, h⟩
      · wp_walk using AutoSeq1.wpAny_loadPart' hl, wpAny_pyIter_tuple hL
        exact ⟨_, rfl, h⟩
    · wp_walk using AutoSeq1.wpAny_loadPart' hl, wpAny_pyIter_tuple hL
      exact ⟨_, rfl, h⟩

section
variable {prog : Program} {w : World} {A : Around} {E : Value → Shared → Prop} {s : Shared}
theorem enum_tup_end {e it l : Addr} {i : Nat} {items : Array Value} {old : Value} {Q : Option Value → Shared → Prop} (hh : A.handled = none) (he : IsEnum s.heap e it i old) (hit : s.heap.IsTupleIter it l i) (hl : s.heap.IsTuple l items) (hx : items[i]? = none)
    (hQ : ∀ h', Heap.ExtBut it s.heap h' → Q none { s with heap := h' }) : wpAny (model prog w) A (pyNext (.ref e)) Q E s := by
  have hT : s.TypeIs (.ref e) "enumerate" := ⟨_, he, rfl⟩
  unfold pyNext
  refine wpAny_bind (wpAny_attempt (wpAny_callSpecial?_slot (name := Str.ofString "__next__") hT F.slot_enumerate_next (wpAny_call_entry F.slot_enumerate_next hT F.entry_enumerate_next ?_ (F.args_enumerate_next_1 _))))
  show wpAny _ _ (field (.ref e) 2 >>= _) _ _ _
  refine wpAny_bind (wpAny_field he rfl (x := .ref it) rfl ?_)
  refine wpAny_bind (nextOf_tup_end hh hit hl hx fun h' x he' hx' => ?_)
  obtain ⟨o, ho, hc⟩ := hx'
  refine wpAny_bind (wpAny_isInstance (T := "StopIteration") (b := true) ⟨o, ho, hc⟩ isSubtype_stop ?_)
  exact wpAny_pure (hQ _ he')
theorem call_enum_tup {l : Addr} {items : Array Value} {Q : Value → Shared → Prop} (hL : s.heap.IsTuple l items)
    (h : ∀ h', IsEnum h' (s.heap.objs.size + 1) s.heap.objs.size 0 .none → h'.IsTupleIter s.heap.objs.size l 0 → (∀ b o, s.heap.get? b = some o → h'.get? b = some o) → Q (.ref (s.heap.objs.size + 1)) { s with heap := h' }) :
    wpAny (model prog w) A (call (.type "enumerate") [.ref l]) Q E s := by
  obtain ⟨⟨c, dct, dt, sl⟩, hl, hc, n, hd⟩ := hL
  replace hc : c = .type "tuple" := hc
  replace hd : dt = .seq items n := hd
  subst hc hd
  refine callType_new F.called_enumerate (by decide) (F.typeCall_enumerate_1 _) (F.newCall_enumerate_1 _) (fun obj => F.args_object_init_2 obj _) F.entry_enumerate_new (enum_new_tup l items n dct sl) ⟨hl, ?_⟩
  have hz : (s.heap.push { cls := .type "tuple_iterator", data := .fields #[.ref l, .int 0 0] }).objs.size = s.heap.objs.size + 1 := Heap.size_push ..
  show _ ∧ _
  rw [hz]
  have he : IsEnum ((s.heap.push { cls := .type "tuple_iterator", data := .fields #[.ref l, .int 0 0] }).push { cls := .type "enumerate", data := .fields #[.none, .bool false, .ref s.heap.objs.size, rawInt 0, .none, .none] }) (s.heap.objs.size + 1) s.heap.objs.size 0 .none := by
    have := Heap.get?_push_size (s.heap.push { cls := .type "tuple_iterator", data := .fields #[.ref l, .int 0 0] }) (o := { cls := .type "enumerate", data := .fields #[.none, .bool false, .ref s.heap.objs.size, rawInt 0, .none, .none] }) rfl
    rw [hz] at this
    exact this
  exact ⟨⟨_, he, rfl⟩, h _ he ⟨_, Heap.get?_push_of_some _ (Heap.get?_push_size _ rfl), rfl, rfl⟩ fun b o x => Heap.get?_push_of_some _ (Heap.get?_push_of_some _ x)⟩
end
/-- at turn i a new pair (i, the i-th thing of the tuple) -/
def IteT (K : PySem.W.Frag) (a : Addr) : It :=
  ⟨fun i H => ∃ xs x, SqT K H a xs ∧ xs[i]? = some x, fun i H y H' => ∃ p x, H p = none ∧ y = .ref p ∧ H' = upd H p (.tup [.int i, x]) ∧ ∀ xs, SqT K H a xs → xs[i]? = some x, fun i H => ∃ xs, SqT K H a xs ∧ xs.length ≤ i⟩
theorem turn_enumT {P : Program} {w : World} {K : PySem.W.Frag} {es : List Expr} {x1} {pos : Pos} (a it e : Addr) (hne : e ≠ it) : Turn P w K (.Tuple es x1 pos) (IteT K a) [e, it] e (fun i h => (∃ old, IsEnum h e it (i : Nat) old) ∧ h.IsTupleIter it a i) where
  mem := by simp
  obj := fun i h st b hb => by
    obtain ⟨⟨old, s1⟩, s2⟩ := st
    rcases List.mem_cons.mp hb with z | z
    · subst z
      exact ⟨_, s1, fun v z => nomatch z⟩
    · have z : b = it := by simpa using z
      subst z
      obtain ⟨o, e, c, d⟩ := s2
      exact ⟨o, e, fun v z => by rw [d] at z; cases z⟩
  keep := fun i h h' st k => by
    obtain ⟨⟨old, s1⟩, s2⟩ := st
    exact ⟨⟨old, k e (by simp) _ s1⟩, s2.at fun o q => k it (by simp) o q⟩
  item := by
    intro X hP hw hK hc i pins s σ H E I hf st hg
    subst hP hw hK
    obtain ⟨xs, x, hq, hx⟩ := hg
    obtain ⟨its, rv, p, hz⟩ := I.tuple hq
    obtain ⟨u, hu, ru⟩ := rv.get hx
    obtain ⟨⟨old, s1⟩, s2⟩ := st
    have hlt : (i : Nat) < its.toArray.size := by
      have := (List.getElem?_eq_some_iff.mp hu).1
      simpa using this
    have nea : a ≠ it := by
      rintro rfl
      obtain ⟨o1, q1, c1, _⟩ := p
      obtain ⟨o2, q2, c2, _⟩ := id s2
      rw [q1] at q2; cases q2
      rw [c1] at c2
      injection c2 with z
      exact absurd z (by decide)
    have nee : a ≠ e := by
      rintro rfl
      obtain ⟨o1, q1, c1, _⟩ := p
      have s1' : s.heap.get? a = some _ := s1
      rw [q1] at s1'
      cases s1'
      injection c1 with z
      exact absurd z (by decide)
    have it2 : s.heap.IsTuple a its.toArray := p
    refine wpAny_pyNext_enum_itemD (draws_tup (A := X.A.in1) (I.ok.hd hc) it a nea its.toArray) s1 ⟨s2, it2⟩ hlt hne (by simp [hne, Ne.symm nee]) fun u' h' tk' hu' ho hst ht hsz hk => ?_
    have eu : u' = u := by
      have : its.toArray[i]? = some u := by simpa using hu
      rw [this] at hu'
      exact (Option.some.inj hu').symm
    subst eu
    have hit := hst.1
    refine ⟨_, rfl, ?_⟩
    refine wpAny_letOwnedTupleGo_enum ho fun h'' he hs => ?_
    have fresh : H s.heap.objs.size = none := I.hok.fresh (Nat.le_refl _)
    have k : ∀ b o, b ∉ [e, it] → s.heap.get? b = some o → h''.get? b = some o := fun b o hb q => by
      have hb' : b ≠ e ∧ b ≠ it := by simpa using hb
      exact (hs.2 b hb'.1).trans (hk b o hb'.1 hb'.2 q)
    have nE : ∀ b ∈ [e, it], H b = none := fun b hb => (hf b hb).1
    have nit : ∀ b u, H b = some u → b ∉ [e, it] := fun b u q z => by rw [nE b z] at q; cases q
    have hpe : s.heap.objs.size ≠ e := Nat.ne_of_gt (Heap.lt_size s1)
    have htup : h''.get? s.heap.objs.size = some { cls := .type "tuple", data := .seq #[.int i tk', u'] } := (hs.2 _ hpe).trans ht
    have newOk : ObjOk X.prog X.w (upd H s.heap.objs.size (.tup [.int i, x])) h'' s.heap.objs.size (.tup [.int i, x]) := by
      refine ⟨?_, [.int i tk', u'], .cons ⟨_, rfl⟩ (.cons ru .nil), ⟨_, htup, rfl, rfl, 0, rfl⟩⟩
      show 2 ≤ sizeLine
      decide
    have I1 : Inv X pins σ (upd H s.heap.objs.size (.tup [.int i, x])) { s with heap := h'', toks := tk' + 1 } := by
      refine I.step (g' := s.gens) (d' := s.drawn) (ch := [e, it]) (fun b hb => ?_) (fun b o _ _ hc q _ => k b o hc q) (fun b o _ _ hc q _ => ⟨o.slots, k b o hc q⟩) (fun b o _ q n => ?_) (fun b o hc q => ⟨o, k b o hc q⟩)
        (fun b xs q => by rw [upd_ne (ne_of_none q fresh)]; exact q) (fun b o xs q => by rw [upd_ne (ne_of_none q fresh)]; exact q) (fun b ps q => ⟨#[], by rw [upd_ne (ne_of_none q fresh), q]; simp⟩) (fun m hm => ?_) (fun b ob q => ?_) I.bare
      · obtain ⟨f0, f1, f2, f3, f4, f5⟩ := hf b hb
        exact ⟨f3, f1, f4, f5⟩
      · rw [upd_ne (Nat.ne_of_lt (Heap.lt_size q))]
        exact n
      · obtain ⟨o, es, ep, ho, r⟩ := hm
        refine ⟨o, es, ep, k _ o (fun z => ?_) ho, r⟩
        exact (hf _ z).2.1 rfl
      · by_cases hb : b = s.heap.objs.size
        · subst hb
          rw [upd_same] at q; cases q
          exact newOk
        · rw [upd_ne hb] at q
          refine (I.hok b ob q).stay (fun c v hc r => k c v ?_ r) (fun c r => by rw [upd_ne (ne_of_none r fresh)]; exact r) fun c xs r => by rw [upd_ne (ne_of_none r fresh)]; exact r
          rcases hc with z | z
          · rw [z]; exact nit b ob q
          · exact nit c _ z
    refine ⟨.ref s.heap.objs.size, _, I1, rfl, ⟨s.heap.objs.size, x, fresh, rfl, rfl, fun ys hy => by rw [I.tuple_inj hy hq]; exact hx⟩, ⟨⟨u', ?_⟩, ?_⟩, fun b hb => ?_⟩
    · have he : IsEnum h'' e it ((i : Int) + 1) u' := he
      show IsEnum h'' e it ((i + 1 : Nat) : Int) u'
      rw [show ((i + 1 : Nat) : Int) = (i : Int) + 1 by omega]
      exact he
    · exact hit.extBut hs.extBut (Ne.symm hne)
    · have lt : b < s.heap.objs.size := by
        rcases List.mem_cons.mp hb with z | z
        · rw [z]; exact Heap.lt_size s1
        · have z : b = it := by simpa using z
          rw [z]
          obtain ⟨o, q, _⟩ := s2
          exact Heap.lt_size q
      rw [upd_ne (Nat.ne_of_lt lt)]
      exact nE b hb
  done := by
    intro X hP hw hK hc i pins s σ H E I hf st hg
    subst hP hw hK
    obtain ⟨xs, hq, hx⟩ := hg
    obtain ⟨its, rv, p, hz⟩ := I.tuple hq
    obtain ⟨⟨old, s1⟩, s2⟩ := st
    obtain ⟨f0, f1, f2, f3, f4, f5⟩ := hf it (by simp)
    have hl := rv.length
    exact enum_tup_end (I.ok.hd hc) s1 s2 (show s.heap.IsTuple a its.toArray from p) (by simp; omega) fun h' eb => ⟨rfl, I.turned (t' := s.toks) (fun b o hb q => eb b o hb q) f0 f1 f3 f4 f5⟩
  self := fun _ _ _ _ _ st h => by
    obtain ⟨⟨old, s1⟩, _⟩ := st
    exact wpAny_pyIter_enum s1 h

def SqB (b : Bool) (K : PySem.W.Frag) (H : Hp) (a : Addr) (xs : List V) : Prop := match b with | true => SqL K H a xs | false => SqT K H a xs
def IteB (b : Bool) (K : PySem.W.Frag) (a : Addr) : It := match b with | true => Ite K a | false => IteT K a
/-- enumerate of a list or a tuple -/
def iEnumB (K : PySem.W.Frag) (ta : TA) : TI := fun σ H R => ta σ H fun vs H1 => ∃ a b, vs = [.ref a] ∧ (∃ xs, SqB b K H1 a xs) ∧ R (IteB b K a) H1
theorem pi_enumB {X : Cx} {es : List Expr} {x1} {tpos : Pos} {e : Expr} {ta : TA} {p pos : Pos} (hg : Gl X "enumerate") (hm : X.mg "enumerate" = none) (ha : PA X [e] ta) (hs : starEach [e] X.env = [(false, eval e X.env)] := by rfl) :
    PI X (.Tuple es x1 tpos) (.Call (.Name "enumerate" p) [e] [] pos) (iEnumB X.K ta) := by
  intro pins s σ H R I h
  refine Call_ (ld_blt I hg hm (show bootBuiltins "enumerate" = some (.type "enumerate") by decide +kernel) (PyProof.Rows.callWith_type1 (thn (ha pos pins s σ H _ I h) fun us s1 ⟨vs, H1, I1, r1, q1⟩ => ?_) hs rfl))
  obtain ⟨a, b, e1, ⟨xs, hq⟩, q⟩ := q1
  subst e1
  obtain ⟨u, rfl, r⟩ := vals1 r1
  cases r
  have fp : ∀ b ∈ [s1.heap.objs.size + 1, s1.heap.objs.size], FpOk X pins H1 b := fun b hb => by
    have ge : s1.heap.objs.size ≤ b := by
      rcases List.mem_cons.mp hb with z | z
      · rw [z]; exact Nat.le_succ _
      · have z : b = s1.heap.objs.size := by simpa using z
        rw [z]
        exact Nat.le_refl _
    exact I1.fpOk ge (I1.hok.fresh ge)
  cases b with
  | true =>
    obtain ⟨its, rv, pl, hz⟩ := I1.list hq
    refine call_enumerate_list pl.isList fun h' he hi hsz k => wpAny_pyIter_enum he ?_
    exact ⟨s1.heap.objs.size + 1, [s1.heap.objs.size + 1, s1.heap.objs.size], _, _, H1, rfl, I1.kept (t' := s1.toks) k, turn_enum a s1.heap.objs.size _ (Nat.ne_of_gt (Nat.lt_succ_self _)), ⟨⟨.none, he⟩, hi⟩, fp, q⟩
  | false =>
    obtain ⟨its, rv, pl, hz⟩ := I1.tuple hq
    refine call_enum_tup (show s1.heap.IsTuple a its.toArray from pl) fun h' he hi k => wpAny_pyIter_enum he ?_
    exact ⟨s1.heap.objs.size + 1, [s1.heap.objs.size + 1, s1.heap.objs.size], _, _, H1, rfl, I1.kept (t' := s1.toks) k, turn_enumT a s1.heap.objs.size _ (Nat.ne_of_gt (Nat.lt_succ_self _)), ⟨⟨.none, he⟩, hi⟩, fp, q⟩
/-- over enumerate of a list or tuple that the body leaves as it is -/
theorem for_enumB {b : Bool} {K : PySem.W.Frag} {a : Addr} {xs : List V} {g : TG} {tb : TS} {D : Ends} {σ : St} {H : Hp} (Pv : Nat → St → Hp → Prop) (h0 : Pv 0 σ H) (hl : ∀ i σ H, i ≤ xs.length → Pv i σ H → SqB b K H a xs)
    (hs : ∀ i x p σ H, xs[i]? = some x → Pv i σ H → H p = none → g (.ref p) σ (upd H p (.tup [.int i, x])) fun σ2 H2 => tb { D with nx := Pv (i + 1), ct := Pv (i + 1), bk := D.nx } σ2 H2) (hd : ∀ σ H, Pv xs.length σ H → D.nx σ H) :
    ∃ W : Nat → Nat → St → Hp → Prop, (∃ m, W 0 m σ H) ∧ ∀ i m σ H, W i m σ H →
      ((IteB b K a).stop i H ∧ D.nx σ H) ∨ ((IteB b K a).go i H ∧ ∃ N : St → Hp → Prop, (∀ σ' H', N σ' H' → ∃ m', m' < m ∧ W (i + 1) m' σ' H') ∧ ∀ x H', (IteB b K a).yld i H x H' → g x σ H' fun σ2 H2 => tb { D with nx := N, ct := N, bk := D.nx } σ2 H2) := by
  refine ⟨fun i m σ H => m = xs.length - i ∧ i ≤ xs.length ∧ Pv i σ H, ⟨xs.length, by simp, Nat.zero_le _, h0⟩, ?_⟩
  rintro i m σ H ⟨rfl, hi, p⟩
  have q := hl i σ H hi p
  by_cases hlt : i < xs.length
  · have gx : xs[i]? = some xs[i] := by simp [hlt]
    refine .inr ⟨by cases b <;> exact ⟨xs, xs[i], q, gx⟩, Pv (i + 1), fun σ' H' p' => ⟨xs.length - (i + 1), by omega, rfl, hlt, p'⟩, fun x H' y => ?_⟩
    have y : ∃ pa z, H pa = none ∧ x = .ref pa ∧ H' = upd H pa (.tup [.int i, z]) ∧ xs[i]? = some z := by
      cases b with
      | true => obtain ⟨pa, z, hp, e1, e2, y⟩ := y; exact ⟨pa, z, hp, e1, e2, y xs q⟩
      | false => obtain ⟨pa, z, hp, e1, e2, y⟩ := y; exact ⟨pa, z, hp, e1, e2, y xs q⟩
    obtain ⟨pa, z, hp, e1, e2, y'⟩ := y
    subst e1 e2
    exact hs i z pa σ H y' p hp
  · have e : i = xs.length := by omega
    subst e
    exact .inl ⟨by cases b <;> exact ⟨xs, q, Nat.le_refl _⟩, hd σ H p⟩
/-! ### list.insert -/
end L2

set_option Elab.async false
set_option linter.all false
set_option maxRecDepth 100000
set_option maxHeartbeats 4000000
namespace L2
open PySem PySem.Spec PyProof.Rows PySem.SeqAt
section
variable {X : Cx}
theorem argBest_min (f : Nat → Int) : ∀ k i, i ≤ k → f (argBest (fun i j => decide (f i < f j)) k) ≤ f i
  | 0, i, h => by
    have : i = 0 := by omega
    subst this
    exact Int.le_refl _
  | k + 1, i, h => by
    unfold argBest
    by_cases e : f (k + 1) < f (argBest (fun i j => decide (f i < f j)) k)
    · rw [if_pos (decide_eq_true e)]
      by_cases hi : i = k + 1
      · subst hi; exact Int.le_refl _
      · have := argBest_min f k i (by omega)
        omega
    · rw [if_neg (by simpa using e)]
      by_cases hi : i = k + 1
      · subst hi; omega
      · exact argBest_min f k i (by omega)
theorem preSum_take (ns : List Int) : ∀ k, k ≤ ns.length → preSum (fun i => ns.getD i 0) k = (ns.take k).sum
  | 0, _ => by simp [preSum]
  | k + 1, h => by
    have hk : k < ns.length := by omega
    rw [List.take_succ_eq_append_getElem hk, List.sum_append, ← preSum_take ns k (by omega)]
    simp [preSum, List.getD_eq_getElem?_getD, hk]
end
end L2

set_option Elab.async false
set_option linter.all false
set_option maxRecDepth 100000
set_option maxHeartbeats 4000000
namespace L2
open PySem PySem.Spec PyProof.Rows PySem.SeqAt
section
variable {X : Cx}
theorem vals_of_ints {ns : List Int} : ∀ {us : List Value}, IntsAre us ns → Vals (ns.map V.int) us := by
  intro us h
  induction h with
  | nil => exact .nil
  | cons => rename_i ih; exact .cons ⟨_, rfl⟩ ih
/-- range(n) as a value -/
theorem call_rng : CallR X (.type "range") (fun xs H Q => ∃ j : Int, xs = [.int j] ∧ ∀ p, H p = none → Q (.ref p) (upd H p (.rng 0 j))) := by
  intro pins s σ H xs us Q I r h
  obtain ⟨j, rfl, q⟩ := h
  obtain ⟨u, rfl, t, rfl⟩ := vals1 r
  refine call_range_1 ⟨.ref s.heap.objs.size, _, I.laid (a := s.heap.objs.size) (o := .rng 0 j) (fun b o q => Heap.get?_push_of_some _ q) (Nat.le_refl _) ?_, rfl, q _ (I.hok.fresh (Nat.le_refl _))⟩
  exact ⟨_, _, _, Heap.get?_push_size _ rfl⟩
theorem vals_of_items {f : Nat → Int} : ∀ (n : Nat) (us : List Value), us.length = n → (∀ (j : Nat) v, us[j]? = some v → ∃ t, v = .int (f j) t) → Vals (((List.range n).map f).map V.int) us
  | 0, us, hl, _ => by
    have : us = [] := List.length_eq_zero_iff.mp hl
    subst this
    exact .nil
  | n + 1, us, hl, h => by
    have hne : us ≠ [] := by rintro rfl; cases hl
    have e := List.dropLast_concat_getLast hne
    rw [List.range_succ, List.map_append, List.map_append, ← e]
    have hd : us.dropLast.length = n := by rw [List.length_dropLast, hl]; rfl
    refine Vals.append (vals_of_items n us.dropLast hd fun j v hj => h j v ?_) (.cons ?_ .nil)
    · rw [← e, List.getElem?_append_left (List.getElem?_eq_some_iff.mp hj).1]
      exact hj
    · have hn : n < us.length := by omega
      have hg : us[n]? = some (us.getLast hne) := by
        rw [List.getElem?_eq_getElem hn, List.getLast_eq_getElem]
        simp [hl]
      obtain ⟨t, q⟩ := h n (us.getLast hne) hg
      exact ⟨t, q⟩
/-- list(range(n)) -/
theorem call_list_rng (hc : X.calm = true) : CallR X (.type "list") (fun xs H Q => ∃ (p : Addr) (j : Int), xs = [.ref p] ∧ H p = some (.rng 0 j) ∧ 0 ≤ j ∧ j ≤ 1000 ∧ ∀ l, H l = none → Q (.ref l) (upd H l (.lst (((List.range j.toNat).map fun (i : Nat) => (i : Int)).map V.int)))) := by
  intro pins s σ H xs us Q I r h
  obtain ⟨p, j, rfl, hp, j0, j1, q⟩ := h
  obtain ⟨u, rfl, r1⟩ := vals1 r
  cases r1
  obtain ⟨t, u, v, ho⟩ := I.hok p _ hp
  have sz : Builtin.Range.rangeSize 0 j 1 = (j.toNat : Nat) := by rw [rangeSize_one]; split <;> omega
  refine call_list_range (I.ok.hd hc) (show IsRange s.heap p 0 j 1 t u v from ho) (small_one (by omega) (by omega) (by omega) (by omega)) sz (by omega) fun h' tk acc' c' k hS hacc => ?_
  have hlen : acc'.toList.length = j.toNat := by simpa using hacc.1
  refine ⟨.ref s.heap.objs.size, _, I.laid (a := s.heap.objs.size) (o := .lst (((List.range j.toNat).map fun (i : Nat) => (i : Int)).map V.int)) (t' := tk) k (Nat.le_refl _) ?_, rfl, q _ (I.hok.fresh (Nat.le_refl _))⟩
  refine ⟨?_, acc'.toList, c', vals_of_items j.toNat acc'.toList hlen (fun i v hv => ?_), by simpa using hS⟩
  · rw [List.length_map, List.length_map, List.length_range]
    exact Nat.le_of_lt (small1000 (by omega))
  · obtain ⟨t, q⟩ := hacc.2 i v (by simpa using hv)
    exact ⟨t, by rw [q]; congr 1; omega⟩
end
end L2

set_option Elab.async false
set_option linter.all false
set_option maxRecDepth 100000
set_option maxHeartbeats 4000000
namespace L2
open PySem PySem.Spec PyProof.Rows PySem.SeqAt
/-- the records at fp have turned and a new pair lies behind all -/
theorem Inv.pairOut {X : Cx} {pins : List (Addr × Obj)} {σ : St} {H : Hp} {s : Shared} {h' : Heap} {fp : List Addr} {x y : V} {u v : Value} {tk : Nat} (I : Inv X pins σ H s) (hf : ∀ b ∈ fp, FpOk X pins H b)
    (k : ∀ b o, b ∉ fp → s.heap.get? b = some o → h'.get? b = some o) (ht : IsPair h' s.heap.objs.size u v) (hlf : ∀ b ∈ fp, b < s.heap.objs.size) (hth : ∀ b ∈ fp, ∃ o, h'.get? b = some o) (rx : RelV x u) (ry : RelV y v) :
    Inv X pins σ (upd H s.heap.objs.size (.tup [x, y])) { s with heap := h', toks := tk } := by
  have fresh : H s.heap.objs.size = none := I.hok.fresh (Nat.le_refl _)
  have nit : ∀ b o, H b = some o → b ∉ fp := fun b o q z => by rw [(hf b z).1] at q; cases q
  have newOk : ObjOk X.prog X.w (upd H s.heap.objs.size (.tup [x, y])) h' s.heap.objs.size (.tup [x, y]) := by
    refine ⟨?_, [u, v], .cons rx (.cons ry .nil), ⟨_, ht, rfl, rfl, 0, rfl⟩⟩
    show 2 ≤ sizeLine
    decide
  refine I.step (g' := s.gens) (d' := s.drawn) (ch := fp) (fun b hb => ?_) (fun b o _ _ hc q _ => k b o hc q) (fun b o _ _ hc q _ => ⟨o.slots, k b o hc q⟩) (fun b o _ q n => ?_) (fun b o hc q => ⟨o, k b o hc q⟩)
    (fun b xs q => by rw [upd_ne (ne_of_none q fresh)]; exact q) (fun b o xs q => by rw [upd_ne (ne_of_none q fresh)]; exact q) (fun b ps q => ⟨#[], by rw [upd_ne (ne_of_none q fresh), q]; simp⟩) (fun m hm => ?_) (fun b ob q => ?_) I.bare
  · obtain ⟨f0, f1, f2, f3, f4, f5⟩ := hf b hb
    exact ⟨f3, f1, f4, f5⟩
  · rw [upd_ne (Nat.ne_of_lt (Heap.lt_size q))]
    exact n
  · obtain ⟨o, es, ep, ho, r⟩ := hm
    exact ⟨o, es, ep, k _ o (fun z => (hf _ z).2.1 rfl) ho, r⟩
  · by_cases hb : b = s.heap.objs.size
    · subst hb
      rw [upd_same] at q; cases q
      exact newOk
    · rw [upd_ne hb] at q
      refine (I.hok b ob q).stay (fun c v hc r => k c v ?_ r) (fun c r => by rw [upd_ne (ne_of_none r fresh)]; exact r) fun c xs r => by rw [upd_ne (ne_of_none r fresh)]; exact r
      rcases hc with z | z
      · rw [z]; exact nit b ob q
      · exact nit c _ z
/-- several untracked records of ours have turned -/
theorem Inv.turnedAll {X : Cx} {pins : List (Addr × Obj)} {σ : St} {H : Hp} {s : Shared} {h' : Heap} {fp : List Addr} {tk : Nat} (I : Inv X pins σ H s) (hf : ∀ b ∈ fp, FpOk X pins H b) (k : ∀ b o, b ∉ fp → s.heap.get? b = some o → h'.get? b = some o) :
    Inv X pins σ H { s with heap := h', toks := tk } := by
  have nit : ∀ b o, H b = some o → b ∉ fp := fun b o q z => by rw [(hf b z).1] at q; cases q
  refine I.step (g' := s.gens) (d' := s.drawn) (ch := fp) (fun b hb => ?_) (fun b o _ _ hc q _ => k b o hc q) (fun b o _ _ hc q _ => ⟨o.slots, k b o hc q⟩) (fun b o _ q n => n) (fun b o hc q => ⟨o, k b o hc q⟩) (fun _ _ q => q) (fun _ _ _ q => q) (fun b ps q => ⟨#[], by rw [q]; simp⟩) (fun m hm => ?_) (fun b ob q => ?_) I.bare
  · obtain ⟨f0, f1, f2, f3, f4, f5⟩ := hf b hb
    exact ⟨f3, f1, f4, f5⟩
  · obtain ⟨o, es, ep, ho, r⟩ := hm
    exact ⟨o, es, ep, k _ o (fun z => (hf _ z).2.1 rfl) ho, r⟩
  · refine (I.hok b ob q).stay (fun c v hc r => k c v ?_ r) (fun _ q => q) fun _ _ q => q
    rcases hc with z | z
    · rw [z]; exact nit b ob q
    · exact nit c _ z
end L2

set_option Elab.async false
set_option linter.all false
set_option maxRecDepth 100000
set_option maxHeartbeats 4000000
namespace L2
open PySem PySem.Spec PyProof.Rows PySem.SeqAt
section
variable {X : Cx}
/-! ### ints of many bits -/
theorem op_mulB : OpR X (binaryOp .Mult) (rI (fun i j => ∃ m n, Builtin.Int.intBits i ≤ m ∧ Builtin.Int.intBits j ≤ n ∧ m + n ≤ 134217728) fun i j => .int (i * j)) :=
  opI fun _ _ _ _ _ _ _ hc q => mul_int q (by obtain ⟨m, n, h1, h2, h3⟩ := hc; exact IntMulOk.of_le h1 h2 h3)
theorem op_fdivB : OpR X (binaryOp .FloorDiv) (rI (fun _ j => 0 < j ∧ Builtin.Int.intBits j ≤ 8000) fun i j => .int (i / j)) := opI fun i j _ _ _ _ _ hc q => by
  have h1 : (0 : Int) < j := hc.1
  have h2 : j.natAbs < 2 ^ 8000 := intBits_le_iff.mp hc.2
  refine floordiv_int (by omega) (by rw [Int.fdiv_eq_ediv_of_nonneg i (by omega)]; exact q) (.inl (PyProof.noPylong_of_log2 ?_))
  have h3 : j.natAbs.log2 < 8000 := (Nat.log2_lt (by omega)).mpr h2
  omega
/-! ### tuples of ints compared -/
/-! ### sum(..) of a tuple of ints -/
theorem call_sumT (hc : X.calm = true) : CallR X (.builtin "sum") (fun xs H Q => ∃ (a : Addr) (ns : List Int), xs = [.ref a] ∧ SqT X.K H a (ns.map V.int) ∧ Q (.int ns.sum) H) := by
  intro pins s σ H xs us Q I r h
  obtain ⟨a, ns, rfl, hq, q⟩ := h
  obtain ⟨u, rfl, r1⟩ := vals1 r
  cases r1
  obtain ⟨its, rv, p0, hz⟩ := I.tuple hq
  have p : s.heap.IsTuple a its.toArray := p0
  refine call_sum_walkG (wpAny_pyIter_tuple p ?_)
  have hlt : a < s.heap.objs.size := by obtain ⟨o, e, _⟩ := p; exact Heap.lt_size e
  have hne : a ≠ s.heap.objs.size := Nat.ne_of_lt hlt
  have hlen : its.toArray.size = ns.length := by rw [List.size_toArray, ← rv.length, List.length_map]
  refine ⟨s.heap.objs.size, _, _, _, _, _, fun i => ns.getD i 0, rfl, Walks.tuple (A := X.A.in1) (I.ok.hd hc) _ a hne its.toArray, ⟨⟨_, Heap.get?_push_size _ rfl, rfl, rfl⟩, ?_⟩, ?_, ?_, ?_⟩
  · obtain ⟨o, e, c, d⟩ := p
    exact ⟨o, Heap.get?_push_of_some _ e, c, d⟩
  · intro b hb
    rcases List.mem_cons.mp hb with z | z
    · rw [z, Heap.size_push]; exact Nat.lt_succ_self _
    · have z : b = a := by simpa using z
      rw [z, Heap.size_push]
      exact Nat.lt_succ_of_lt hlt
  · intro i v e
    have hi : i < its.toArray.size := (Array.getElem?_eq_some_iff.mp e).1
    obtain ⟨t, q⟩ := ints_at rv hi
    rw [Array.getElem?_eq_getElem hi] at e
    have e' := Option.some.inj e
    rw [q] at e'
    exact ⟨t, e'.symm⟩
  · intro h' tk t' k
    refine ⟨.int ns.sum, H, I.kept (h' := h') (t' := tk) fun b o e => k b o ?_ (Heap.get?_push_of_some _ e), ⟨t', ?_⟩, q⟩
    · intro hm
      have : b = s.heap.objs.size := by simpa using hm
      rw [this] at e
      exact absurd (Heap.lt_size e) (Nat.lt_irrefl _)
    · rw [hlen, preSum_take ns _ (Nat.le_refl _), List.take_length]
/-! ### f(e, .., k = v), f a built-in function -/
def tCBK (r : List V → List V → Hp → VK → Prop) (t tk : TA) : TE := fun σ H Q => t σ H fun vs H1 => tk σ H1 fun zs H2 => r vs zs H2 Q
def CallKR (X : Cx) (id : String) (ks : List Str) (r : List V → List V → Hp → VK → Prop) : Prop :=
  ∀ (pins : List (Addr × Obj)) (s : Shared) (σ : St) (H : Hp) (xs zs : List V) (us ws : List Value) (Q : VK), Inv X pins σ H s → Vals xs us → Vals zs ws → r xs zs H Q → wpAny (model X.prog X.w) X.A (call (.builtin id) us (ks.zip ws)) (EP X pins σ Q) X.xe s
theorem pe_callBK {id : String} {ks : List Str} {r : List V → List V → Hp → VK → Prop} {x : Str} {e : Expr} {es : List Expr} {kws : List Keyword} {t tk : TA} {p pos : Pos} (hc : CallKR X id ks r) (hg : Gl X x) (hm : X.mg x = none) (hv : bootBuiltins x = some (.builtin id)) (ha : PA X (e :: es) t) (hkw : PK X kws tk)
    (hks : (backToKw pos (keywordEach kws X.env)).filterMap (·.1) = ks := by rfl) (hn : x ≠ "__name__" := by decide) (hdb : (x == ("__debug__" : Str)) = false := by decide)
    (he : backTo pos (starEach (e :: es) X.env) = (false, eval e X.env) :: backTo pos (starEach es X.env) := by rfl) (hpl : (backTo pos (starEach (e :: es) X.env)).any (·.1) = false := by rfl)
    (hall : (backToKw pos (keywordEach kws X.env)).all (·.1.isSome) = true := by rfl) (hno : (backToKw pos (keywordEach kws X.env)).any (·.1.isNone) = false := by rfl) : PE X (.Call (.Name x p) (e :: es) kws pos) (tCBK r t tk) := by
  intro pins s σ H Q I h
  refine wpAny_Call_Name_kw (ld_blt I hg hm hv ?_ hn hdb)
  refine callWith_kw (thn (ha pos pins s σ H _ I h) fun us s1 ⟨vs, H1, I1, r1, q1⟩ => ?_) he hpl hall hno
  refine thn (hkw pos pins s1 σ H1 _ I1 q1) fun ws s2 ⟨zs, H2, I2, rz, q2⟩ => ?_
  rw [hks]
  exact hc pins s2 σ H2 vs zs us ws Q I2 r1 rz q2
end
section
variable {prog : Program} {w : World} {A : Around} {E : Value → Shared → Prop} {s : Shared}
theorem gather_tup {l : Addr} {vs : List Value} {Q : List Value → Shared → Prop} (ht : s.heap.IsTuple l vs.toArray) (h : Q vs { s with heap := (s.heap.push (seqObj "list" #[] 0)).update s.heap.objs.size (Obj.mapSeq (· ++ vs.toArray)) }) (hz : vs.length ≤ sizeLine) :
    wpAny (model prog w) A (collect (.ref l)) Q E s := by
  obtain ⟨o, ho, hc, n, hd⟩ := id ht
  have own : (s.heap.push (seqObj "list" #[] 0)).get? s.heap.objs.size = some (seqObj "list" #[] 0) := Heap.get?_push_size _ rfl
  have old : (s.heap.push (seqObj "list" #[] 0)).get? l = some o := Heap.get?_push_of_some _ ho
  unfold collect
  refine wpAny_bind (wpAny_runValue (codeAny_builtin entry_proto_collect' ?_))
  refine wpAny_bind (m := newList []) (wpAny_newList (wpAny_pure ⟨Code.quiet_builtin _ (by decide +kernel), codeAny_builtin entry_list_iadd' ?_⟩))
  show wpAny _ _ (Builtin.List.listExtendWith (.ref s.heap.objs.size) (.ref l) (.ref s.heap.objs.size)) _ _ { s with heap := s.heap.push (seqObj "list" #[] 0) }
  unfold Builtin.List.listExtendWith
  refine wpAny_bind (wpAny_typeOf (T := "tuple") ⟨o, old, hc⟩ ?_)
  have tt : (Value.type "tuple" == Value.type "tuple") = true := by rfl
  rw [if_pos (by rw [tt]; simp)]
  refine wpAny_bind (listItems_at old hd (wpAny_bind (listItems_at (xs := #[]) (n := 0) own rfl ?_)))
  rw [if_neg (by simp)]
  refine wpAny_bind (listUpdate_at (xs := #[]) (n := 0) own rfl (wpAny_pure ?_) (Nat.zero_le _) ?_)
  · refine wpAny_bind (m := load s.heap.objs.size) (wpAny_load (get?_update_seq own _) ?_)
    show wpAny _ _ (pure ((#[] : Array Value) ++ vs.toArray).toList) _ _ _
    rw [show ((#[] : Array Value) ++ vs.toArray).toList = vs by simp]
    exact wpAny_pure h
  · show (#[] ++ vs.toArray).size ≤ sizeLine + 1
    simp only [Array.size_append, List.size_toArray, List.length_nil]
    omega
/-- sorted(t, reverse = b) of a tuple of fewer than 64 ints -/
theorem sorted_tupR {l : Addr} {vs : List Value} {ns : List Int} {b : Bool} {Q : Value → Shared → Prop} (ht : s.heap.IsTuple l vs.toArray) (hI : IntsAre vs ns) (h64 : vs.length < 64)
    (h : ∀ (out : Array Value) (ns' : List Int), IntsAre out.toList ns' → ns'.Perm ns → Ordered b ns' → Q (.ref (s.heap.objs.size + 1)) { s with heap := sortedAll s.heap vs out }) : wpAny (model prog w) A (call (.builtin "sorted") [.ref l] [(Str.ofString "reverse", .bool b)]) Q E s := by
  have hsz : ((s.heap.push (seqObj "list" #[] 0)).update s.heap.objs.size (Obj.mapSeq (· ++ vs.toArray))).objs.size = s.heap.objs.size + 1 := by rw [Heap.size_update, size_push']
  have hoL : (((s.heap.push (seqObj "list" #[] 0)).update s.heap.objs.size (Obj.mapSeq (· ++ vs.toArray))).push (seqObj "list" vs.toArray 0)).get? (s.heap.objs.size + 1) = some (seqObj "list" vs.toArray 0) := by
    have := Heap.get?_push_size ((s.heap.push (seqObj "list" #[] 0)).update s.heap.objs.size (Obj.mapSeq (· ++ vs.toArray))) (o := seqObj "list" vs.toArray 0) rfl
    rwa [hsz] at this
  refine call_function_entry_kw kind_sorted plain_sorted entry_sorted (args_sorted_rev _ _) ?_
  unfold Builtin.«sorted»
  refine wpAny_bind (m := checkCount "sorted" 1 1 _) (wpAny_pure (wpAny_bind (gather_tup ht (wpAny_bind (wpAny_newList ?_)) (Nat.le_of_lt (small1000 (by omega))))))
  show wpAny _ _ _ _ _ { s with heap := ((s.heap.push (seqObj "list" #[] 0)).update s.heap.objs.size (Obj.mapSeq (· ++ vs.toArray))).push (seqObj "list" vs.toArray 0) }
  rw [hsz]
  exact wpAny_bind (wpAny_holding (wpAny_call_entry_kw slot_list_sort ⟨_, hoL, rfl⟩ entry_list_sort (list_sort_tree_rev hoL hI h64 fun out ns' a1 a2 a3 => ⟨_, rfl, wpAny_pure ⟨_, rfl, h out ns' a1 a2 a3⟩⟩) (args_list_sort_rev _ _)))
end
section
variable {X : Cx}
theorem call_sortedR : CallKR X "sorted" ["reverse"] (fun xs zs H Q => ∃ (a : Addr) (ns : List Int), xs = [.ref a] ∧ zs = [.bl true] ∧ SqT X.K H a (ns.map V.int) ∧ ns.length < 64 ∧ ∀ (l : Addr) (ms : List Int), H l = none → ms.Perm ns → ms.Pairwise (· ≥ ·) → Q (.ref l) (upd H l (.lst (ms.map V.int)))) := by
  intro pins s σ H xs zs us ws Q I r rz h
  obtain ⟨a, ns, rfl, rfl, hq, h64, q⟩ := h
  obtain ⟨u, rfl, r1⟩ := vals1 r
  obtain ⟨u2, rfl, r2⟩ := vals1 rz
  cases r1
  cases r2
  obtain ⟨its, rv, p, hz⟩ := I.tuple hq
  have hl : its.length = ns.length := by rw [← rv.length, List.length_map]
  refine sorted_tupR (b := true) (show s.heap.IsTuple a its.toArray from p) (intsAre_of rv) (by rw [hl]; exact h64) fun out ms a1 a2 a3 => ?_
  obtain ⟨e, he⟩ := sortedAll_at s.heap its out
  have hle : s.heap.objs.size ≤ s.heap.objs.size + 1 := Nat.le_succ _
  have hml : ms.length = ns.length := a2.length_eq
  refine ⟨.ref (s.heap.objs.size + 1), _, I.laid (a := s.heap.objs.size + 1) (o := .lst (ms.map V.int)) (t' := s.toks) (fun b o q => sortedAll_old q) hle ?_, rfl, q _ ms (I.hok.fresh hle) a2 a3⟩
  refine ⟨?_, out.toList, e, vals_of_ints a1, by simpa using he⟩
  rw [List.length_map, hml]
  exact Nat.le_of_lt (small1000 (by omega))
end
/-! ### comprehensions over a tuple -/
theorem comp_tup {K : PySem.W.Frag} {own : List Str} {js : List Nat} {g : TG} {tt : TT} {te : TE} {σ : St} {H1 : Hp} {Q : VK} {a : Addr} {xs : List V} (Pv : Addr → Nat → Hp → Prop) (h0 : ∀ acc, H1 acc = none → Pv acc 0 (upd H1 acc (.lst []))) (hl : ∀ acc i H, H1 acc = none → i ≤ xs.length → Pv acc i H → SqT K H a xs)
    (hs : ∀ acc i x H, H1 acc = none → xs[i]? = some x → Pv acc i H → g x (blkσ own js σ) H fun τ H4 => tt τ H4 fun c H5 =>
      if c = true then te τ H5 fun y H6 => ∃ ys, H6 acc = some (.lst ys) ∧ ys.length < sizeLine ∧ (i + 1 ≤ xs.length ∧ Pv acc (i + 1) (upd H6 acc (.lst (ys ++ [y])))) else (i + 1 ≤ xs.length ∧ Pv acc (i + 1) H5))
    (hd : ∀ acc H, H1 acc = none → Pv acc xs.length H → Q (.ref acc) H) : tCompW own js g tt te σ (Itt K a) H1 Q := by
  intro acc hacc
  refine ⟨fun i H => i ≤ xs.length ∧ Pv acc i H, xs.length, ⟨Nat.zero_le _, h0 acc hacc⟩, ?_⟩
  rintro i H ⟨hi, p⟩
  have q := hl acc i H hacc hi p
  by_cases hlt : i < xs.length
  · refine .inr ⟨hlt, ⟨xs, xs[i], q, by simp [hlt]⟩, fun x H' y => ?_⟩
    obtain ⟨e, y⟩ := y
    subst e
    exact hs acc i x _ hacc (y xs q) p
  · have e : i = xs.length := by omega
    subst e
    exact .inl ⟨⟨xs, q, Nat.le_refl _⟩, hd acc H hacc p⟩
end L2

set_option Elab.async false
set_option linter.all false
set_option maxRecDepth 100000
set_option maxHeartbeats 4000000
namespace Lv
open PySem L2
theorem pe_ty {X : Cx} {x : Str} {T : String} {pos : Pos} (hg : Gl X x) (hm : X.mg x = none) (hv : bootBuiltins x = some (.type T)) (hn : x ≠ "__name__" := by decide) (hd : (x == ("__debug__" : Str)) = false := by decide) : PE X (.Name x pos) (tC (.ty T)) :=
  pe_bltn hg hm hv rfl hn hd
theorem pe_gint {X : Cx} {x : Str} {i : Int} {t : Tok} {pos : Pos} (hg : Gl X x) (hm : X.mg x = some (.int i t)) (hd : (x == ("__debug__" : Str)) = false := by decide) : PE X (.Name x pos) (tC (.int i)) :=
  pe_glob hg hm ⟨t, rfl⟩ hd
/-- the names of the module that are none of the text's own -/
structure Txt (mg : Str → Option Value) : Prop where
  isinstance : mg "isinstance" = none
  int : mg "int" = none
  bool : mg "bool" = none
  list : mg "list" = none
  tuple : mg "tuple" = none
  min : mg "min" = none
  max : mg "max" = none
  len : mg "len" = none
  range : mg "range" = none
  all : mg "all" = none
  sum : mg "sum" = none
  sorted : mg "sorted" = none
  zip : mg "zip" = none
theorem b_isinstance : bootBuiltins "isinstance" = some (.builtin "isinstance") := by decide +kernel
theorem b_int : bootBuiltins "int" = some (.type "int") := by decide +kernel
theorem b_bool : bootBuiltins "bool" = some (.type "bool") := by decide +kernel
theorem b_list : bootBuiltins "list" = some (.type "list") := by decide +kernel
theorem b_tuple : bootBuiltins "tuple" = some (.type "tuple") := by decide +kernel
theorem b_min : bootBuiltins "min" = some (.builtin "min") := by decide +kernel
theorem b_max : bootBuiltins "max" = some (.builtin "max") := by decide +kernel
theorem b_all : bootBuiltins "all" = some (.builtin "all") := by decide +kernel
theorem b_sum : bootBuiltins "sum" = some (.builtin "sum") := by decide +kernel
theorem b_sorted : bootBuiltins "sorted" = some (.builtin "sorted") := by decide +kernel
theorem kit_tuple_tuple {K : PySem.W.Frag} : PySem.W.kitOne K (.type "tuple") (.type "tuple") = some true := by rfl
/-- a def of the text that is called by its name -/
structure Cal (P : Program) (w : World) (K : PySem.W.Frag) (mg : Str → Option Value) (base : Heap) (k : Nat) (x : Str) (ps : List Str) (sp : Sp) (f : Addr) (fd : FuncData) : Prop where
  ok : FnOk P w K mg base CX0 k f fd ps sp
  mg : mg x = some (.ref f)
  kp : PySem.W.keepIn K (.ref f) = true
  bd : Binds K fd ps []
theorem pe_cal {X : Cx} {k : Nat} {x : Str} {ps : List Str} {sp : Sp} {f : Addr} {fd : FuncData} {e : Expr} {es : List Expr} {t : TA} {p pos : Pos} (C : Cal X.prog X.w X.K X.mg X.base k x ps sp f fd) (hr : Room k X.A) (hg : Gl X x) (ha : PA X (e :: es) t)
    (hdb : (x == ("__debug__" : Str)) = false := by decide) (he : starEach (e :: es) X.env = (false, eval e X.env) :: starEach es X.env := by rfl) (hpl : (backTo pos (starEach es X.env)).any (·.1) = false := by rfl) :
    PE X (.Call (.Name x p) (e :: es) [] pos) (tCall sp [] E0 t) := pe_call C.ok hr hg C.mg C.kp C.bd .nil pass0 ha hdb he hpl
theorem ixK_list (K : PySem.W.Frag) {X : Cx} (hK : X.K = K := by rfl) : IxR X (rIxL K) := by subst hK; exact ix_list
theorem map_get {xs : List Int} {i : Nat} {x : V} (h : (xs.map V.int)[i]? = some x) : ∃ p, xs[i]? = some p ∧ x = .int p := by
  rw [List.getElem?_map] at h
  cases e : xs[i]? with
  | none => rw [e] at h; cases h
  | some p => rw [e] at h; exact ⟨p, rfl, (Option.some.inj h).symm⟩
theorem _root_.L2.Same.new {q : Addr} {H : Hp} {o : HO} (h : H q = none) : Same H (upd H q o) := fun b u e => by rw [upd_ne (ne_of_none e h)]; exact e
theorem _root_.L2.Same.put {q : Addr} {H H' : Hp} {o : HO} (s : Same H H') (h : H q = none) : Same H (upd H' q o) := fun b u e => by rw [upd_ne (ne_of_none e h)]; exact s b u e
theorem _root_.L2.Same.tup {K : PySem.W.Frag} {H H' : Hp} {a : Addr} {xs : List V} (e : Same H H') (h : SqT K H a xs) : SqT K H' a xs := by
  rcases h with (h | ⟨o, h⟩) | h
  · exact .inl (.inl (e _ _ h))
  · exact .inl (.inr ⟨o, e _ _ h⟩)
  · exact .inr h
theorem ixN_of {n : Nat} {x : Int} (h0 : 0 ≤ x) (h1 : x < n) : ixN n x = some x.toNat := by
  unfold ixN
  rw [if_pos h0, if_pos h1]
theorem atI_int {fs : List Int} {x : Int} (h0 : 0 ≤ x) (h1 : x < fs.length) : atI (fs.map V.int) x = some (.int (fs.getD x.toNat 0)) := by
  unfold atI
  have hx : x.toNat < fs.length := by omega
  rw [List.length_map, ixN_of h0 h1]
  show (fs.map V.int)[x.toNat]? = _
  rw [List.getElem?_map, List.getElem?_eq_getElem hx, List.getD_eq_getElem?_getD, List.getElem?_eq_getElem hx]
  rfl
theorem atI_head {c0 : Int} {cr : List Int} : atI ((c0 :: cr).map V.int) 0 = some (.int c0) := atI_nat (j := 0) rfl
theorem all_true (n : Nat) : (List.replicate n true).all id = true := by
  rw [List.all_eq_true]
  intro b hb
  exact (List.mem_replicate.mp hb).2
/-! ### a text cut in two -/
theorem cut2 {a b R : TS} {D : Ends} {σ : St} {H : Hp} (M : St → Hp → Prop) (h1 : ∀ R' : TS, (∀ σ' H', M σ' H' → R' D σ' H') → tSeq a (tSeq b R') D σ H) (h2 : ∀ σ' H', M σ' H' → R D σ' H') : tSeq a (tSeq b R) D σ H := h1 R h2
theorem cut1 {a R : TS} {D : Ends} {σ : St} {H : Hp} (M : St → Hp → Prop) (h1 : ∀ R' : TS, (∀ σ' H', M σ' H' → R' D σ' H') → tSeq a R' D σ H) (h2 : ∀ σ' H', M σ' H' → R D σ' H') : tSeq a R D σ H := h1 R h2
theorem cut4 {a b c d R : TS} {D : Ends} {σ : St} {H : Hp} (M : St → Hp → Prop) (h1 : ∀ R' : TS, (∀ σ' H', M σ' H' → R' D σ' H') → tSeq a (tSeq b (tSeq c (tSeq d R'))) D σ H) (h2 : ∀ σ' H', M σ' H' → R D σ' H') : tSeq a (tSeq b (tSeq c (tSeq d R))) D σ H := h1 R h2
/-! ### pools of two ints -/
def Pool (H : Hp) (p : Addr) : Prop := ∃ a b : Int, H p = some (.lst [.int a, .int b])
/-- all but p as it was -/
def Sm (p : Addr) (H H' : Hp) : Prop := ∀ b o, H b = some o → b ≠ p → H' b = some o
theorem Sm.trans {p : Addr} {H H1 H2 : Hp} (a : Sm p H H1) (b : Sm p H1 H2) : Sm p H H2 := fun c o h n => b c o (a c o h n) n
theorem Sm.refl (p : Addr) (H : Hp) : Sm p H H := fun _ _ h _ => h
theorem Sm.of {p : Addr} {H H' : Hp} (h : Same H H') : Sm p H H' := fun b o e _ => h b o e
theorem Sm.new {p q : Addr} {H : Hp} {o : HO} (h : H q = none) : Sm p H (upd H q o) := fun b u e _ => by rw [upd_ne (ne_of_none e h)]; exact e
theorem Sm.put {p : Addr} {H : Hp} {o : HO} : Sm p H (upd H p o) := fun b u e n => by rw [upd_ne n]; exact e
theorem Sm.free {p q : Addr} {H H' : Hp} (s : Sm p H H') (hn : q ≠ p) (h : H' q = none) : H q = none := by
  cases e : H q with
  | none => rfl
  | some o => rw [s q o e hn] at h; cases h
theorem Sm.after {p : Addr} {H H1 H2 : Hp} (s : Same H H1) (m : Sm p H1 H2) (h : H p = none) : Same H H2 := fun b o e => m b o (s b o e) (ne_of_none e h)
theorem Pool.put {H : Hp} {p q : Addr} {o : HO} (h : Pool H p) (hq : H q = none) : Pool (upd H q o) p := by
  obtain ⟨a, b, e⟩ := h
  exact ⟨a, b, by rw [upd_ne (ne_of_none e hq)]; exact e⟩
theorem Pool.ne {H : Hp} {p q : Addr} (h : Pool H p) (hq : H q = none) : q ≠ p := by
  obtain ⟨a, b, e⟩ := h
  exact Ne.symm (ne_of_none e hq)
theorem Pool.same {H H' : Hp} {p : Addr} (h : Pool H p) (s : Same H H') : Pool H' p := by
  obtain ⟨a, b, e⟩ := h
  exact ⟨a, b, s p _ e⟩
def spPool (K : PySem.W.Frag) : Sp := fun vs H Q _ => ∃ (a : Addr) (ns : List Int) (k : Int), vs = [.ref a, .int k] ∧ SqL K H a (ns.map V.int) ∧ 0 ≤ k ∧ k ≤ 1000 ∧ ∀ p H', H p = none → Pool H' p → Same H H' → Q (.ref p) H'
def spTake : Sp := fun vs H Q _ => ∃ p m, vs = [.ref p, .int m] ∧ Pool H p ∧ 0 < m ∧ Builtin.Int.intBits m ≤ 8000 ∧ ∀ d H', 0 ≤ d → d < m → Pool H' p → Sm p H H' → Q (.int d) H'
def spWhole : Sp := fun vs H Q _ => ∃ i, vs = [.int i] ∧ Q (.bl true) H
theorem bits_small {m : Int} (h0 : 0 ≤ m) (h1 : m < 2 ^ 64) : Builtin.Int.intBits m ≤ 8000 := Nat.le_trans (intBits_le_64 (by omega) h1) (by decide)
theorem wide_bits : Builtin.Int.intBits ((10 : Int) ^ Int.toNat 60) ≤ 1000 ∧ Builtin.Int.intBits ((10 : Int) ^ Int.toNat 60 * 10 ^ Int.toNat 60) ≤ 1000 ∧ Builtin.Int.intBits ((10 : Int) ^ Int.toNat 60 * 10 ^ Int.toNat 60 * 10 ^ Int.toNat 60) ≤ 1000 ∧ (0 : Int) < (10 : Int) ^ Int.toNat 60 * 10 ^ Int.toNat 60 * 10 ^ Int.toNat 60 * ((10 : Int) ^ Int.toNat 60 * 10 ^ Int.toNat 60 * 10 ^ Int.toNat 60) := by decide +kernel
/-! ### counts of levels, in plain Lean -/
def nextC (c : List Int) : List Int := (c.tail.map (c.getD 0 0 + ·)) ++ [c.getD 0 0]
def firstC (p : Nat) : List Int := 1 :: List.replicate (p - 1) 0
def cnt (p : Nat) : Nat → List Int
  | 0 => firstC p
  | n + 1 => nextC (cnt p n)
theorem nextC_len {c : List Int} (h : c ≠ []) : (nextC c).length = c.length := by
  cases c with
  | nil => exact absurd rfl h
  | cons x r => simp [nextC]
theorem cnt_len {p : Nat} (hp : 1 ≤ p) : ∀ n, (cnt p n).length = p
  | 0 => by simp [cnt, firstC]; omega
  | n + 1 => by
    have := cnt_len hp n
    show (nextC (cnt p n)).length = p
    rw [nextC_len (by intro z; rw [z] at this; simp at this; omega), this]
def Down (c : List Int) : Prop := c.Pairwise (· ≥ ·) ∧ ∀ x ∈ c, 0 ≤ x
theorem down_next {c : List Int} (h : Down c) : Down (nextC c) := by
  cases c with
  | nil => exact ⟨by simp [nextC], by intro x hx; simp [nextC] at hx; omega⟩
  | cons a r =>
    obtain ⟨h1, h2⟩ := h
    have h3 := List.pairwise_cons.mp h1
    have h0 : 0 ≤ a := h2 a (by simp)
    refine ⟨?_, ?_⟩
    · show ((r.map (a + ·)) ++ [a]).Pairwise (· ≥ ·)
      rw [List.pairwise_append]
      refine ⟨?_, by simp, ?_⟩
      · rw [List.pairwise_map]
        exact h3.2.imp fun h => by omega
      · intro x hx y hy
        obtain ⟨z, hz, rfl⟩ := List.mem_map.mp hx
        have := h2 z (by simp [hz])
        have : y = a := by simpa using hy
        omega
    · show ∀ x ∈ (r.map (a + ·)) ++ [a], 0 ≤ x
      intro x hx
      rcases List.mem_append.mp hx with hx | hx
      · obtain ⟨z, hz, rfl⟩ := List.mem_map.mp hx
        have := h2 z (by simp [hz])
        omega
      · have : x = a := by simpa using hx
        omega
theorem down_cnt (p : Nat) : ∀ n, Down (cnt p n)
  | 0 => by
    refine ⟨?_, ?_⟩
    · show (1 :: List.replicate (p - 1) (0 : Int)).Pairwise (· ≥ ·)
      rw [List.pairwise_cons]
      refine ⟨fun y hy => ?_, ?_⟩
      · have := (List.mem_replicate.mp hy).2
        omega
      · rw [List.pairwise_replicate]
        exact .inr (Int.le_refl _)
    · intro x hx
      rcases List.mem_cons.mp hx with rfl | hx
      · decide
      · have := (List.mem_replicate.mp hx).2
        omega
  | n + 1 => down_next (down_cnt p n)
def spFirst : Sp := fun vs H Q _ => ∃ p : Nat, vs = [.int p] ∧ 2 ≤ p ∧ p ≤ 7 ∧ ∀ l H', H l = none → H' l = some (.tup ((firstC p).map V.int)) → Same H H' → Q (.ref l) H'
def spNext (K : PySem.W.Frag) : Sp := fun vs H Q _ => ∃ (a : Addr) (c : List Int), vs = [.ref a] ∧ SqT K H a (c.map V.int) ∧ 2 ≤ c.length ∧ c.length ≤ 7 ∧ ∀ l H', H l = none → H' l = some (.tup ((nextC c).map V.int)) → Same H H' → Q (.ref l) H'
def spLCounts : Sp := fun vs H Q _ => ∃ p n : Nat, vs = [.int p, .int n] ∧ 2 ≤ p ∧ p ≤ 7 ∧ n ≤ 300 ∧ ∀ l H', H l = none → H' l = some (.lst ((cnt p n).map V.int)) → Same H H' → Q (.ref l) H'
def spLaw (K : PySem.W.Frag) : Sp := fun vs H Q _ => ∃ (a : Addr) (ns : List Int), vs = [.ref a] ∧ SqL K H a (ns.map V.int) ∧ ns.length ≤ 63 ∧ ∀ H', Q (.bl true) H'
end Lv

set_option Elab.async false
set_option linter.all false
set_option maxRecDepth 100000
set_option maxHeartbeats 4000000
namespace Lv
open PySem L2
def hd (p n : Nat) : Int := (cnt p n).getD 0 0
theorem cnt_cons {p : Nat} (hp : 2 ≤ p) (n : Nat) : ∃ a b r, cnt p n = a :: b :: r ∧ r.length = p - 2 := by
  have h := cnt_len (p := p) (by omega) n
  match hc : cnt p n with
  | [] => rw [hc] at h; simp at h; omega
  | [x] => rw [hc] at h; simp at h; omega
  | a :: b :: r => rw [hc] at h; exact ⟨a, b, r, rfl, by simp at h; omega⟩
theorem hd_pos {p : Nat} (hp : 2 ≤ p) : ∀ n, 1 ≤ hd p n
  | 0 => by simp [hd, cnt, firstC]
  | n + 1 => by
    obtain ⟨a, b, r, e, _⟩ := cnt_cons hp n
    have ih := hd_pos hp n
    have nn := (down_cnt p n).2 b (by rw [e]; simp)
    unfold hd at ih ⊢
    show 1 ≤ (nextC (cnt p n)).getD 0 0
    rw [e] at ih ⊢
    simp [nextC] at ih ⊢
    omega
end Lv

set_option Elab.async false
set_option linter.all false
set_option maxRecDepth 100000
set_option maxHeartbeats 4000000
namespace L2
open PySem PySem.Spec PyProof.Rows PySem.SeqAt
/-! ### zip of lists and tuples, true a list, false a tuple -/
def HIt (b : Bool) (h : Heap) (it l : Addr) (i : Nat) : Prop := match b with | true => h.IsListIter it l i | false => h.IsTupleIter it l i
def HSq (b : Bool) (h : Heap) (l : Addr) (xs : Array Value) : Prop := match b with | true => h.IsList l xs | false => h.IsTuple l xs
theorem HIt.at {b : Bool} {h h' : Heap} {it l : Addr} {i : Nat} (x : HIt b h it l i) (e : ∀ o, h.get? it = some o → h'.get? it = some o) : HIt b h' it l i := by
  cases b
  · exact Heap.IsTupleIter.at x e
  · exact Heap.IsListIter.at x e
theorem HIt.ext {b : Bool} {h h' : Heap} {it l c : Addr} {i : Nat} (x : HIt b h it l i) (hs : Heap.ExtBut c h h') (n : it ≠ c) : HIt b h' it l i := x.at fun o e => hs _ _ n e
theorem HIt.obj {b : Bool} {h : Heap} {it l : Addr} {i : Nat} (x : HIt b h it l i) : ∃ o, h.get? it = some o ∧ ∀ v : Option Value, o.data ≠ .cell v := by
  cases b
  · obtain ⟨o, e, _, d⟩ := x
    exact ⟨o, e, fun v q => by rw [d] at q; cases q⟩
  · obtain ⟨o, e, _, d⟩ := x
    exact ⟨o, e, fun v q => by rw [d] at q; cases q⟩
theorem HSq.ext {b : Bool} {h h' : Heap} {l c : Addr} {xs : Array Value} (x : HSq b h l xs) (hs : Heap.ExtBut c h h') (n : l ≠ c) : HSq b h' l xs := by
  cases b
  · exact Heap.IsTuple.extBut x hs n
  · exact Heap.IsList.extBut x hs n
section
variable {prog : Program} {w : World} {A : Around} {E : Value → Shared → Prop} {s : Shared}
theorem nextB {b : Bool} {it l : Addr} {i : Nat} {items : Array Value} {x : Value} {Q : Value → Shared → Prop} (hit : HIt b s.heap it l i) (hl : HSq b s.heap l items) (hx : items[i]? = some x) (hQ : ∀ h', HIt b h' it l (i + 1) → Heap.SameBut it s.heap h' → Q x { s with heap := h' }) :
    wpAny (model prog w) A (Builtin.SmallTypes.nextOf (.ref it)) Q E s := by
  cases b
  · exact nextOf_tup hit hl hx hQ
  · exact wpAny_nextOf_list_item hit hl hx hQ
theorem nextB_end {b : Bool} {it l : Addr} {i : Nat} {items : Array Value} {Q : Value → Shared → Prop} (hh : A.handled = none) (hit : HIt b s.heap it l i) (hl : HSq b s.heap l items) (hx : items[i]? = none)
    (hE : ∀ h' e, Heap.ExtBut it s.heap h' → (∃ o, h'.get? e = some o ∧ o.cls = .type "StopIteration") → E (.ref e) { s with heap := h' }) : wpAny (model prog w) A (Builtin.SmallTypes.nextOf (.ref it)) Q E s := by
  cases b
  · exact nextOf_tup_end hh hit hl hx hE
  · exact wpAny_nextOf_list_end hh hit hl hx hE
theorem zipB_item {b1 b2 : Bool} {z TI TO i1 i2 l1 l2 : Addr} {k1 k2 : Nat} {xs ys : Array Value} {x y a b : Value} {Q : Value → Shared → Prop} (D : ZipApart z TI TO i1 i2 l1 l2) (hz : IsZip s.heap z TI TO .none) (hTI : IsPair s.heap TI (.ref i1) (.ref i2)) (hTO : IsPair s.heap TO a b)
    (h1 : HIt b1 s.heap i1 l1 k1) (h2 : HIt b2 s.heap i2 l2 k2) (hl1 : HSq b1 s.heap l1 xs) (hl2 : HSq b2 s.heap l2 ys) (hx : xs[k1]? = some x) (hy : ys[k2]? = some y)
    (hQ : ∀ h', IsZip h' z TI TO (rawInt s.heap.objs.size) → IsPair h' TO x y → HIt b1 h' i1 l1 (k1 + 1) → HIt b2 h' i2 l2 (k2 + 1) → IsPair h' s.heap.objs.size x y → h'.objs.size = s.heap.objs.size + 1 →
      (∀ c o, c ≠ z → c ≠ TO → c ≠ i1 → c ≠ i2 → s.heap.get? c = some o → h'.get? c = some o) → Q (.ref s.heap.objs.size) { s with heap := h' }) :
    wpAny (model prog w) A (Builtin.«zip.__next__» ⟨[.ref z], []⟩) (fun fin s' => ∃ v, fin = .done (.ret v) ∧ Q v s') E s := by
  refine wpAny_bind (m := field (.ref z) 2) (wpAny_field hz rfl (x := .bool false) rfl ?_)
  refine wpAny_bind (m := field (.ref z) 3) (wpAny_field hz rfl (x := .ref TI) rfl (wpAny_bind (wpAny_seqItems hTI rfl ?_)))
  refine wpAny_bind (m := Builtin.SmallTypes.ownedTupleIsFree (.ref z)) ?_
  unfold Builtin.SmallTypes.ownedTupleIsFree
  refine wpAny_bind (wpAny_field hz rfl (x := .none) rfl (wpAny_pure ?_))
  simp only [if_true]
  refine wpAny_bind (wpAny_rule (wpAny_bind (wpAny_field hz rfl (x := .ref TO) rfl ?_)))
  refine wpAny_bind (wpAny_setField_rec hz (by simp) fun h₁ hz₁ hs₁ => ?_)
  replace hz₁ : IsZip h₁ z TI TO .ellipsis := hz₁
  refine wpAny_bind ?_
  simp only [List.zipIdx_cons, List.zipIdx_nil, List.forIn_cons, List.forIn_nil]
  refine wpAny_bind (wpAny_bind (wpAny_onRaise (wpAny_bind (m := Builtin.SmallTypes.nextOf (.ref i1)) ?_)))
  refine nextB (h1.ext hs₁.extBut D.i1z) (hl1.ext hs₁.extBut D.l1z) hx fun h₂ h1₂ hs₂ => wpAny_pure ?_
  have t2 : IsPair h₂ TO a b := hs₂.extBut _ _ D.TOi1 (hs₁.extBut _ _ D.TOz hTO)
  refine wpAny_bind (wpAny_seqItems t2 rfl (wpAny_bind (wpAny_updateSeq_pair t2 fun h₃ hTO₃ hs₃ => ?_)))
  replace hTO₃ : IsPair h₃ TO x b := hTO₃
  refine wpAny_bind (wpAny_letGo (wpAny_pure (wpAny_bind (wpAny_bind (wpAny_onRaise (wpAny_bind (m := Builtin.SmallTypes.nextOf (.ref i2)) ?_))))))
  refine nextB (((h2.ext hs₁.extBut D.i2z).ext hs₂.extBut D.i12.symm).ext hs₃.extBut D.TOi2.symm) (((hl2.ext hs₁.extBut D.l2z).ext hs₂.extBut D.l2i1).ext hs₃.extBut D.l2TO) hy fun h₄ h2₄ hs₄ => wpAny_pure ?_
  have t4 : IsPair h₄ TO x b := hs₄.extBut _ _ D.TOi2 hTO₃
  refine wpAny_bind (wpAny_seqItems t4 rfl (wpAny_bind (wpAny_updateSeq_pair t4 fun h₅ hTO₅ hs₅ => ?_)))
  replace hTO₅ : IsPair h₅ TO x y := hTO₅
  refine wpAny_bind (wpAny_letGo (wpAny_pure (wpAny_pure (wpAny_bind (wpAny_seqItems hTO₅ rfl (wpAny_bind (wpAny_newTuple ?_)))))))
  have hsz : h₅.objs.size = s.heap.objs.size := by rw [hs₅.1, hs₄.1, hs₃.1, hs₂.1, hs₁.1]
  have hz₅ : IsZip h₅ z TI TO .ellipsis := hs₅.extBut _ _ D.TOz.symm (hs₄.extBut _ _ D.i2z.symm (hs₃.extBut _ _ D.TOz.symm (hs₂.extBut _ _ D.i1z.symm hz₁)))
  have k5 : ∀ c o, c ≠ z → c ≠ TO → c ≠ i1 → c ≠ i2 → s.heap.get? c = some o → h₅.get? c = some o := fun c o c1 c2 c3 c4 e => hs₅.extBut _ _ c2 (hs₄.extBut _ _ c4 (hs₃.extBut _ _ c2 (hs₂.extBut _ _ c3 (hs₁.extBut _ _ c1 e))))
  have j1 : HIt b1 h₅ i1 l1 (k1 + 1) := ((h1₂.ext hs₃.extBut D.TOi1.symm).ext hs₄.extBut D.i12).ext hs₅.extBut D.TOi1.symm
  have j2 : HIt b2 h₅ i2 l2 (k2 + 1) := h2₄.ext hs₅.extBut D.TOi2.symm
  have zlt : z < h₅.objs.size := Heap.lt_size hz₅
  refine wpAny_bind (m := Builtin.SmallTypes.ownedTupleHandOut (.ref z) (.ref h₅.objs.size)) ?_
  unfold Builtin.SmallTypes.ownedTupleHandOut
  have hz₆ : IsZip (h₅.push { cls := .type "tuple", data := .seq #[x, y] }) z TI TO .ellipsis := Heap.get?_push_of_some _ hz₅
  refine wpAny_bind (wpAny_setField_rec hz₆ (by simp) fun h₇ hz₇ hs₇ => ?_)
  replace hz₇ : IsZip h₇ z TI TO (rawInt h₅.objs.size) := hz₇
  refine wpAny_setField_rec hz₇ (by simp) fun h₈ hz₈ hs₈ => ?_
  replace hz₈ : IsZip h₈ z TI TO (rawInt h₅.objs.size) := hz₈
  have up : ∀ c o, c ≠ z → h₅.get? c = some o → h₈.get? c = some o := fun c o c1 e => hs₈.extBut _ _ c1 (hs₇.extBut _ _ c1 (Heap.get?_push_of_some _ e))
  have t8 : IsPair h₈ h₅.objs.size x y := hs₈.extBut _ _ (Nat.ne_of_gt zlt) (hs₇.extBut _ _ (Nat.ne_of_gt zlt) (Heap.get?_push_size _ rfl))
  have z8 : h₈.objs.size = h₅.objs.size + 1 := by rw [hs₈.1, hs₇.1, Heap.size_push]
  rw [hsz] at hz₈ t8 z8
  refine wpAny_pure ⟨_, rfl, ?_⟩
  show Q (.ref h₅.objs.size) _
  rw [hsz]
  exact hQ h₈ hz₈ (up _ _ D.TOz hTO₅) (j1.at fun o e => up _ o D.i1z e) (j2.at fun o e => up _ o D.i2z e) t8 z8 fun c o c1 c2 c3 c4 e => up c o c1 (k5 c o c1 c2 c3 c4 e)
theorem zipB_end {b1 b2 : Bool} {z TI TO i1 i2 l1 l2 : Addr} {k1 k2 : Nat} {xs ys : Array Value} {a b : Value} {Q : Fin → Shared → Prop} (hh : A.handled = none) (D : ZipApart z TI TO i1 i2 l1 l2) (hz : IsZip s.heap z TI TO .none) (hTI : IsPair s.heap TI (.ref i1) (.ref i2)) (hTO : IsPair s.heap TO a b)
    (h1 : HIt b1 s.heap i1 l1 k1) (h2 : HIt b2 s.heap i2 l2 k2) (hl1 : HSq b1 s.heap l1 xs) (hl2 : HSq b2 s.heap l2 ys) (hend : xs[k1]? = none ∨ ys[k2]? = none)
    (hE : ∀ h' e, (∀ c o, c ≠ z → c ≠ TO → c ≠ i1 → c ≠ i2 → s.heap.get? c = some o → h'.get? c = some o) → (∃ o, h'.get? e = some o ∧ o.cls = .type "StopIteration") → E (.ref e) { s with heap := h' }) : wpAny (model prog w) A (Builtin.«zip.__next__» ⟨[.ref z], []⟩) Q E s := by
  refine wpAny_bind (m := field (.ref z) 2) (wpAny_field hz rfl (x := .bool false) rfl ?_)
  refine wpAny_bind (m := field (.ref z) 3) (wpAny_field hz rfl (x := .ref TI) rfl (wpAny_bind (wpAny_seqItems hTI rfl ?_)))
  refine wpAny_bind (m := Builtin.SmallTypes.ownedTupleIsFree (.ref z)) ?_
  unfold Builtin.SmallTypes.ownedTupleIsFree
  refine wpAny_bind (wpAny_field hz rfl (x := .none) rfl (wpAny_pure ?_))
  simp only [if_true]
  refine wpAny_bind (wpAny_rule (wpAny_bind (wpAny_field hz rfl (x := .ref TO) rfl ?_)))
  refine wpAny_bind (wpAny_setField_rec hz (by simp) fun h₁ hz₁ hs₁ => ?_)
  replace hz₁ : IsZip h₁ z TI TO .ellipsis := hz₁
  refine wpAny_bind ?_
  simp only [List.zipIdx_cons, List.zipIdx_nil, List.forIn_cons, List.forIn_nil]
  refine wpAny_bind (wpAny_bind (wpAny_onRaise (wpAny_bind (m := Builtin.SmallTypes.nextOf (.ref i1)) ?_)))
  cases hx : xs[k1]? with
  | none =>
    refine nextB_end hh (h1.ext hs₁.extBut D.i1z) (hl1.ext hs₁.extBut D.l1z) hx fun h₂ e hs₂ ⟨oe, hoe, hce⟩ => ?_
    have hz₂ : IsZip h₂ z TI TO .ellipsis := hs₂ _ _ D.i1z.symm hz₁
    have ez : e ≠ z := fun x => by subst x; rw [hz₂] at hoe; cases hoe; simp at hce
    exact wpAny_setField_rec hz₂ (by simp) fun h₃ _ hs₃ => hE h₃ e (fun c o c1 _ c3 _ x => hs₃.extBut _ _ c1 (hs₂ _ _ c3 (hs₁.extBut _ _ c1 x))) ⟨oe, hs₃.extBut _ _ ez hoe, hce⟩
  | some x =>
    have hy : ys[k2]? = none := hend.resolve_left (by rw [hx]; simp)
    refine nextB (h1.ext hs₁.extBut D.i1z) (hl1.ext hs₁.extBut D.l1z) hx fun h₂ h1₂ hs₂ => wpAny_pure ?_
    have t2 : IsPair h₂ TO a b := hs₂.extBut _ _ D.TOi1 (hs₁.extBut _ _ D.TOz hTO)
    refine wpAny_bind (wpAny_seqItems t2 rfl (wpAny_bind (wpAny_updateSeq_pair t2 fun h₃ hTO₃ hs₃ => ?_)))
    refine wpAny_bind (wpAny_letGo (wpAny_pure (wpAny_bind (wpAny_bind (wpAny_onRaise (wpAny_bind (m := Builtin.SmallTypes.nextOf (.ref i2)) ?_))))))
    refine nextB_end hh (((h2.ext hs₁.extBut D.i2z).ext hs₂.extBut D.i12.symm).ext hs₃.extBut D.TOi2.symm) (((hl2.ext hs₁.extBut D.l2z).ext hs₂.extBut D.l2i1).ext hs₃.extBut D.l2TO) hy fun h₄ e hs₄ ⟨oe, hoe, hce⟩ => ?_
    have hz₄ : IsZip h₄ z TI TO .ellipsis := hs₄ _ _ D.i2z.symm (hs₃.extBut _ _ D.TOz.symm (hs₂.extBut _ _ D.i1z.symm hz₁))
    have ez : e ≠ z := fun x => by subst x; rw [hz₄] at hoe; cases hoe; simp at hce
    exact wpAny_setField_rec hz₄ (by simp) fun h₅ _ hs₅ => hE h₅ e (fun c o c1 c2 c3 c4 x => hs₅.extBut _ _ c1 (hs₄ _ _ c4 (hs₃.extBut _ _ c2 (hs₂.extBut _ _ c3 (hs₁.extBut _ _ c1 x))))) ⟨oe, hs₅.extBut _ _ ez hoe, hce⟩
theorem pyNextB_item {b1 b2 : Bool} {z TI TO i1 i2 l1 l2 : Addr} {k1 k2 : Nat} {xs ys : Array Value} {x y a b : Value} {Q : Option Value → Shared → Prop} (D : ZipApart z TI TO i1 i2 l1 l2) (hz : IsZip s.heap z TI TO .none) (hTI : IsPair s.heap TI (.ref i1) (.ref i2)) (hTO : IsPair s.heap TO a b)
    (h1 : HIt b1 s.heap i1 l1 k1) (h2 : HIt b2 s.heap i2 l2 k2) (hl1 : HSq b1 s.heap l1 xs) (hl2 : HSq b2 s.heap l2 ys) (hx : xs[k1]? = some x) (hy : ys[k2]? = some y)
    (hQ : ∀ h', IsZip h' z TI TO (rawInt s.heap.objs.size) → IsPair h' TO x y → HIt b1 h' i1 l1 (k1 + 1) → HIt b2 h' i2 l2 (k2 + 1) → IsPair h' s.heap.objs.size x y → h'.objs.size = s.heap.objs.size + 1 →
      (∀ c o, c ≠ z → c ≠ TO → c ≠ i1 → c ≠ i2 → s.heap.get? c = some o → h'.get? c = some o) → Q (some (.ref s.heap.objs.size)) { s with heap := h' }) : wpAny (model prog w) A (pyNext (.ref z)) Q E s := by
  have hT : s.TypeIs (.ref z) "zip" := ⟨_, hz, rfl⟩
  unfold pyNext
  exact wpAny_bind (wpAny_attempt (wpAny_callSpecial?_slot (name := Str.ofString "__next__") hT F.slot_zip_next (wpAny_call_entry F.slot_zip_next hT F.entry_zip_next (zipB_item D hz hTI hTO h1 h2 hl1 hl2 hx hy fun h' a1 a2 a3 a4 a5 a6 a7 => wpAny_pure (hQ h' a1 a2 a3 a4 a5 a6 a7)) (F.args_zip_next_1 _))))
theorem pyNextB_end {b1 b2 : Bool} {z TI TO i1 i2 l1 l2 : Addr} {k1 k2 : Nat} {xs ys : Array Value} {a b : Value} {Q : Option Value → Shared → Prop} (hh : A.handled = none) (D : ZipApart z TI TO i1 i2 l1 l2) (hz : IsZip s.heap z TI TO .none) (hTI : IsPair s.heap TI (.ref i1) (.ref i2)) (hTO : IsPair s.heap TO a b)
    (h1 : HIt b1 s.heap i1 l1 k1) (h2 : HIt b2 s.heap i2 l2 k2) (hl1 : HSq b1 s.heap l1 xs) (hl2 : HSq b2 s.heap l2 ys) (hend : xs[k1]? = none ∨ ys[k2]? = none)
    (hQ : ∀ h', (∀ c o, c ≠ z → c ≠ TO → c ≠ i1 → c ≠ i2 → s.heap.get? c = some o → h'.get? c = some o) → Q none { s with heap := h' }) : wpAny (model prog w) A (pyNext (.ref z)) Q E s := by
  have hT : s.TypeIs (.ref z) "zip" := ⟨_, hz, rfl⟩
  unfold pyNext
  refine wpAny_bind (wpAny_attempt (wpAny_callSpecial?_slot (name := Str.ofString "__next__") hT F.slot_zip_next (wpAny_call_entry F.slot_zip_next hT F.entry_zip_next (zipB_end hh D hz hTI hTO h1 h2 hl1 hl2 hend fun h' e hk ⟨o, ho, hc⟩ => ?_) (F.args_zip_next_1 _))))
  exact wpAny_bind (wpAny_isInstance (T := "StopIteration") (b := true) ⟨o, ho, hc⟩ isSubtype_stop (wpAny_pure (hQ _ hk)))
def itCls (b : Bool) : String := match b with | true => "list_iterator" | false => "tuple_iterator"
def zB1 (b1 : Bool) (h : Heap) (l1 : Addr) : Heap := h.push { cls := .type (itCls b1), data := .fields #[.ref l1, .int 0 0] }
def zB2 (b1 b2 : Bool) (h : Heap) (l1 l2 : Addr) : Heap := (zB1 b1 h l1).push { cls := .type (itCls b2), data := .fields #[.ref l2, .int 0 0] }
def zB3 (b1 b2 : Bool) (h : Heap) (l1 l2 : Addr) : Heap := (zB2 b1 b2 h l1 l2).push { cls := .type "tuple", data := .seq #[.ref h.objs.size, .ref (zB1 b1 h l1).objs.size] }
def zB4 (b1 b2 : Bool) (h : Heap) (l1 l2 : Addr) : Heap := (zB3 b1 b2 h l1 l2).push { cls := .type "tuple", data := .seq #[.none, .none] }
def zB5 (b1 b2 : Bool) (h : Heap) (l1 l2 : Addr) : Heap := (zB4 b1 b2 h l1 l2).push { cls := .type "zip", data := .fields #[.none, .bool false, .bool false, .ref (zB2 b1 b2 h l1 l2).objs.size, .ref (zB3 b1 b2 h l1 l2).objs.size] }
theorem zipB_new (b1 b2 : Bool) (l1 l2 : Addr) (xs ys : Array Value) :
    Meets (Builtin.«zip.__new__» ⟨[.type "zip", .ref l1, .ref l2], []⟩) (fun _ R s => HSq b1 s.heap l1 xs ∧ HSq b2 s.heap l2 ys ∧ R (.ok (.ret (.ref (zB4 b1 b2 s.heap l1 l2).objs.size))) { s with heap := zB5 b1 b2 s.heap l1 l2 }) :=
  .of_wp fun prog w A R s h => by
    obtain ⟨hp, g, d, tk, os⟩ := s
    obtain ⟨hl1, hl2, h⟩ := h
    have hsub := sub_zip
    cases b1 <;> cases b2
    · have p1 : Heap.IsTuple (Shared.heap ⟨hp, g, d, tk, os⟩) l1 xs := hl1
      have p2 : Heap.IsTuple (Shared.heap ⟨hp.push { cls := .type "tuple_iterator", data := .fields #[.ref l1, .int 0 0] }, g, d, tk, os⟩) l2 ys := Heap.IsTuple.push hl2 _
      wp_walk using wpAny_pyIter_tuple p1, wpAny_pyIter_tuple p2
      exact ⟨_, rfl, h⟩
    · have p1 : Heap.IsTuple (Shared.heap ⟨hp, g, d, tk, os⟩) l1 xs := hl1
      have p2 : Heap.IsList (Shared.heap ⟨hp.push { cls := .type "tuple_iterator", data := .fields #[.ref l1, .int 0 0] }, g, d, tk, os⟩) l2 ys := Heap.IsList.push hl2 _
      wp_walk using wpAny_pyIter_tuple p1, wpAny_pyIter_list p2
      exact ⟨_, rfl, h⟩
    · have p1 : Heap.IsList (Shared.heap ⟨hp, g, d, tk, os⟩) l1 xs := hl1
      have p2 : Heap.IsTuple (Shared.heap ⟨hp.push { cls := .type "list_iterator", data := .fields #[.ref l1, .int 0 0] }, g, d, tk, os⟩) l2 ys := Heap.IsTuple.push hl2 _
      wp_walk using wpAny_pyIter_list p1, wpAny_pyIter_tuple p2
      exact ⟨_, rfl, h⟩
    · have p1 : Heap.IsList (Shared.heap ⟨hp, g, d, tk, os⟩) l1 xs := hl1
      have p2 : Heap.IsList (Shared.heap ⟨hp.push { cls := .type "list_iterator", data := .fields #[.ref l1, .int 0 0] }, g, d, tk, os⟩) l2 ys := Heap.IsList.push hl2 _
      wp_walk using wpAny_pyIter_list p1, wpAny_pyIter_list p2
      exact ⟨_, rfl, h⟩
theorem HIt.made {b : Bool} {h : Heap} {it l : Addr} (e : h.get? it = some { cls := .type (itCls b), data := .fields #[.ref l, .int 0 0] }) : HIt b h it l 0 := by
  cases b
  · exact ⟨_, e, rfl, rfl⟩
  · exact ⟨_, e, rfl, rfl⟩
theorem call_zipB {b1 b2 : Bool} {l1 l2 : Addr} {xs ys : Array Value} {Q : Value → Shared → Prop} (hl1 : HSq b1 s.heap l1 xs) (hl2 : HSq b2 s.heap l2 ys)
    (h : ∀ h', IsZip h' (s.heap.objs.size + 4) (s.heap.objs.size + 2) (s.heap.objs.size + 3) .none → IsPair h' (s.heap.objs.size + 2) (.ref s.heap.objs.size) (.ref (s.heap.objs.size + 1)) → IsPair h' (s.heap.objs.size + 3) .none .none →
      HIt b1 h' s.heap.objs.size l1 0 → HIt b2 h' (s.heap.objs.size + 1) l2 0 → (∀ c o, s.heap.get? c = some o → h'.get? c = some o) → Q (.ref (s.heap.objs.size + 4)) { s with heap := h' }) : wpAny (model prog w) A (call (.type "zip") [.ref l1, .ref l2]) Q E s := by
  refine callType_new F.called_zip (by decide) (F.typeCall_zip_2 _ _) (F.newCall_zip_2 _ _) (fun obj => F.args_object_init_3 obj _ _) F.entry_zip_new (zipB_new b1 b2 l1 l2 xs ys) ⟨hl1, hl2, ?_⟩
  have z1 : (zB1 b1 s.heap l1).objs.size = s.heap.objs.size + 1 := Heap.size_push ..
  have z2 : (zB2 b1 b2 s.heap l1 l2).objs.size = s.heap.objs.size + 2 := by unfold zB2; rw [Heap.size_push, z1]
  have z3 : (zB3 b1 b2 s.heap l1 l2).objs.size = s.heap.objs.size + 3 := by unfold zB3; rw [Heap.size_push, z2]
  have z4 : (zB4 b1 b2 s.heap l1 l2).objs.size = s.heap.objs.size + 4 := by unfold zB4; rw [Heap.size_push, z3]
  have g5 : (zB5 b1 b2 s.heap l1 l2).get? (zB4 b1 b2 s.heap l1 l2).objs.size = some _ := Heap.get?_push_size _ rfl
  have g4 : (zB5 b1 b2 s.heap l1 l2).get? (zB3 b1 b2 s.heap l1 l2).objs.size = some _ := Heap.get?_push_of_some _ (Heap.get?_push_size _ rfl)
  have g3 : (zB5 b1 b2 s.heap l1 l2).get? (zB2 b1 b2 s.heap l1 l2).objs.size = some _ := Heap.get?_push_of_some _ (Heap.get?_push_of_some _ (Heap.get?_push_size _ rfl))
  have g2 : (zB5 b1 b2 s.heap l1 l2).get? (zB1 b1 s.heap l1).objs.size = some _ := Heap.get?_push_of_some _ (Heap.get?_push_of_some _ (Heap.get?_push_of_some _ (Heap.get?_push_size _ rfl)))
  have g1 : (zB5 b1 b2 s.heap l1 l2).get? s.heap.objs.size = some _ := Heap.get?_push_of_some _ (Heap.get?_push_of_some _ (Heap.get?_push_of_some _ (Heap.get?_push_of_some _ (Heap.get?_push_size _ rfl))))
  show _ ∧ _
  rw [z2, z3, z4] at g5
  rw [z1, z2] at g3
  rw [z3] at g4
  rw [z1] at g2
  rw [z4]
  exact ⟨⟨_, g5, rfl⟩, h _ g5 g3 g4 (HIt.made g1) (HIt.made g2) fun c o x => Heap.get?_push_of_some _ (Heap.get?_push_of_some _ (Heap.get?_push_of_some _ (Heap.get?_push_of_some _ (Heap.get?_push_of_some _ x))))⟩
end
theorem SqB.heap {X : Cx} {b : Bool} {pins : List (Addr × Obj)} {σ : St} {H : Hp} {s : Shared} {a : Addr} {xs : List V} (I : Inv X pins σ H s) (h : SqB b X.K H a xs) : ∃ its : List Value, Vals xs its ∧ HSq b s.heap a its.toArray := by
  cases b
  · obtain ⟨its, r, p, _⟩ := I.tuple h
    exact ⟨its, r, p⟩
  · obtain ⟨its, r, p, _⟩ := I.list h
    exact ⟨its, r, p.isList⟩
theorem HSq.lt {b : Bool} {h : Heap} {l : Addr} {xs : Array Value} (x : HSq b h l xs) : l < h.objs.size := by
  cases b
  · obtain ⟨o, e, _⟩ := x
    exact Heap.lt_size e
  · obtain ⟨o, e, _⟩ := x
    exact Heap.lt_size e
theorem SqB.inj {X : Cx} {b : Bool} {pins : List (Addr × Obj)} {σ : St} {H : Hp} {s : Shared} {a : Addr} {xs ys : List V} (I : Inv X pins σ H s) (h : SqB b X.K H a xs) (g : SqB b X.K H a ys) : xs = ys := by
  cases b
  · exact I.tuple_inj h g
  · exact I.list_inj h g
/-- zip of two: a new pair at each turn -/
def ItzB (b1 b2 : Bool) (K : PySem.W.Frag) (a b : Addr) : It :=
  ⟨fun i H => ∃ xs ys x y, SqB b1 K H a xs ∧ SqB b2 K H b ys ∧ xs[i]? = some x ∧ ys[i]? = some y,
   fun i H z H' => ∃ p x y, H p = none ∧ z = .ref p ∧ H' = upd H p (.tup [x, y]) ∧ (∀ xs, SqB b1 K H a xs → xs[i]? = some x) ∧ ∀ ys, SqB b2 K H b ys → ys[i]? = some y,
   fun i H => ∃ xs ys, SqB b1 K H a xs ∧ SqB b2 K H b ys ∧ (xs.length ≤ i ∨ ys.length ≤ i)⟩
end L2

set_option Elab.async false
set_option linter.all false
set_option maxRecDepth 100000
set_option maxHeartbeats 4000000
namespace L2
open PySem PySem.Spec PyProof.Rows PySem.SeqAt
def zipStB (b1 b2 : Bool) (z TI TO i1 i2 l1 l2 : Addr) (i : Nat) (h : Heap) : Prop := IsZip h z TI TO .none ∧ IsPair h TI (.ref i1) (.ref i2) ∧ (∃ a b, IsPair h TO a b) ∧ HIt b1 h i1 l1 i ∧ HIt b2 h i2 l2 i
theorem turn_zipB {P : Program} {w : World} {K : PySem.W.Frag} {es : List Expr} {x1} {pos : Pos} {b1 b2 : Bool} {z TI TO i1 i2 l1 l2 : Addr} (D : ZipApart z TI TO i1 i2 l1 l2) : Turn P w K (.Tuple es x1 pos) (ItzB b1 b2 K l1 l2) [z, TI, TO, i1, i2] z (zipStB b1 b2 z TI TO i1 i2 l1 l2) where
  mem := by simp
  obj := fun i h st b hb => by
    obtain ⟨h1, h2, ⟨a, c, h3⟩, h4, h5⟩ := st
    simp only [List.mem_cons, List.not_mem_nil, or_false] at hb
    rcases hb with rfl | rfl | rfl | rfl | rfl
    · exact ⟨_, h1, fun v q => nomatch q⟩
    · exact ⟨_, h2, fun v q => nomatch q⟩
    · exact ⟨_, h3, fun v q => nomatch q⟩
    · exact h4.obj
    · exact h5.obj
  keep := fun i h h' st k => by
    obtain ⟨h1, h2, ⟨a, c, h3⟩, h4, h5⟩ := st
    exact ⟨k z (by simp) _ h1, k TI (by simp) _ h2, ⟨a, c, k TO (by simp) _ h3⟩, h4.at fun o q => k i1 (by simp) o q, h5.at fun o q => k i2 (by simp) o q⟩
  item := by
    intro X hP hw hK hc i pins s σ H E I hf st hg
    subst hP hw hK
    obtain ⟨xs, ys, x, y, hq1, hq2, hx, hy⟩ := hg
    obtain ⟨its, rv, p⟩ := hq1.heap I
    obtain ⟨its2, rv2, p2⟩ := hq2.heap I
    obtain ⟨u, hu, ru⟩ := rv.get hx
    obtain ⟨u2, hu2, ru2⟩ := rv2.get hy
    obtain ⟨s1, s2, ⟨a, c, s3⟩, s4, s5⟩ := id st
    refine pyNextB_item D s1 s2 s3 s4 s5 p p2 (x := u) (y := u2) (by simpa using hu) (by simpa using hu2) fun h' g1 g2 g3 g4 g5 g6 hk => ?_
    refine ⟨_, rfl, ?_⟩
    refine wpAny_letOwnedTupleGo_zip g1 fun h'' he hs => ?_
    have live : ∀ b ∈ [z, TI, TO, i1, i2], b < s.heap.objs.size := fun b hb => by
      obtain ⟨h1, h2, ⟨a, c, h3⟩, h4, h5⟩ := st
      obtain ⟨o4, e4, _⟩ := h4.obj
      obtain ⟨o5, e5, _⟩ := h5.obj
      simp only [List.mem_cons, List.not_mem_nil, or_false] at hb
      rcases hb with rfl | rfl | rfl | rfl | rfl
      · exact Heap.lt_size h1
      · exact Heap.lt_size h2
      · exact Heap.lt_size h3
      · exact Heap.lt_size e4
      · exact Heap.lt_size e5
    have hsz : s.heap.objs.size ≠ z := Nat.ne_of_gt (live z (by simp))
    have k : ∀ b o, b ∉ [z, TI, TO, i1, i2] → s.heap.get? b = some o → h''.get? b = some o := fun b o hb q => by
      simp only [List.mem_cons, List.not_mem_nil, or_false, not_or] at hb
      exact (hs.2 b hb.1).trans (hk b o hb.1 hb.2.2.1 hb.2.2.2.1 hb.2.2.2.2 q)
    have st' : zipStB b1 b2 z TI TO i1 i2 l1 l2 (i + 1) h'' := by
      refine ⟨he, (hs.2 TI D.TIz).trans (hk TI _ D.TIz D.TITO D.TIi1 D.TIi2 s2), ⟨u, u2, (hs.2 TO D.TOz).trans g2⟩, ?_, ?_⟩
      · exact g3.ext hs.extBut D.i1z
      · exact g4.ext hs.extBut D.i2z
    have th : ∀ b ∈ [z, TI, TO, i1, i2], ∃ o, h''.get? b = some o := fun b hb => by
      obtain ⟨h1, h2, ⟨a, c, h3⟩, h4, h5⟩ := st'
      obtain ⟨o4, e4, _⟩ := h4.obj
      obtain ⟨o5, e5, _⟩ := h5.obj
      simp only [List.mem_cons, List.not_mem_nil, or_false] at hb
      rcases hb with rfl | rfl | rfl | rfl | rfl
      · exact ⟨_, h1⟩
      · exact ⟨_, h2⟩
      · exact ⟨_, h3⟩
      · exact ⟨_, e4⟩
      · exact ⟨_, e5⟩
    have fresh : H s.heap.objs.size = none := I.hok.fresh (Nat.le_refl _)
    refine ⟨.ref s.heap.objs.size, _, I.pairOut (fp := [z, TI, TO, i1, i2]) (tk := s.toks) hf k ((hs.2 _ hsz).trans g5) live th ru ru2, rfl, ⟨s.heap.objs.size, x, y, fresh, rfl, rfl, fun ys hy => by rw [hy.inj I hq1]; exact hx, fun zs hz => by rw [hz.inj I hq2]; exact hy⟩, st', fun b hb => ?_⟩
    rw [upd_ne (Nat.ne_of_lt (live b hb))]
    exact (hf b hb).1
  done := by
    intro X hP hw hK hc i pins s σ H E I hf st hg
    subst hP hw hK
    obtain ⟨xs, ys, hq1, hq2, hx⟩ := hg
    obtain ⟨its, rv, p⟩ := hq1.heap I
    obtain ⟨its2, rv2, p2⟩ := hq2.heap I
    obtain ⟨s1, s2, ⟨a, c, s3⟩, s4, s5⟩ := st
    have e1 := rv.length
    have e2 := rv2.length
    refine pyNextB_end (I.ok.hd hc) D s1 s2 s3 s4 s5 p p2 (by rcases hx with q | q; exact .inl (by simp; omega); exact .inr (by simp; omega)) fun h' hk => ⟨rfl, I.turnedAll (fp := [z, TI, TO, i1, i2]) (tk := s.toks) hf fun b o hb q => ?_⟩
    simp only [List.mem_cons, List.not_mem_nil, or_false, not_or] at hb
    exact hk b o hb.1 hb.2.2.1 hb.2.2.2.1 hb.2.2.2.2 q
  self := fun _ _ _ _ _ st h => wpAny_pyIter_zip st.1 h
def iZipB (K : PySem.W.Frag) (ta : TA) : TI := fun σ H R => ta σ H fun vs H1 => ∃ b1 b2 a b, vs = [.ref a, .ref b] ∧ (∃ xs, SqB b1 K H1 a xs) ∧ (∃ ys, SqB b2 K H1 b ys) ∧ R (ItzB b1 b2 K a b) H1
theorem pi_zipB {X : Cx} {es : List Expr} {x1} {tpos : Pos} {e f : Expr} {ta : TA} {p pos : Pos} (hg : Gl X "zip") (hm : X.mg "zip" = none) (ha : PA X [e, f] ta) (hs : starEach [e, f] X.env = [(false, eval e X.env), (false, eval f X.env)] := by rfl) (hs2 : starEach [f] X.env = [(false, eval f X.env)] := by rfl) :
    PI X (.Tuple es x1 tpos) (.Call (.Name "zip" p) [e, f] [] pos) (iZipB X.K ta) := by
  intro pins s σ H R I h
  refine Call_ (ld_blt I hg hm (show bootBuiltins "zip" = some (.type "zip") by decide +kernel) (PyProof.Rows.callWith_type1 (thn (ha pos pins s σ H _ I h) fun us s1 ⟨vs, H1, I1, r1, q1⟩ => ?_) (by rw [hs, hs2]) (by rw [hs2]; rfl)))
  obtain ⟨b1, b2, a, b, e1, ⟨xs, hq⟩, ⟨ys, hq2⟩, q⟩ := q1
  subst e1
  obtain ⟨u, u2, rfl, r, r2⟩ := vals2 r1
  cases r
  cases r2
  obtain ⟨its, rv, pl⟩ := hq.heap I1
  obtain ⟨its2, rv2, pl2⟩ := hq2.heap I1
  have la := pl.lt
  have lb := pl2.lt
  have ne : ∀ {i j : Nat}, i ≠ j → s1.heap.objs.size + i ≠ s1.heap.objs.size + j := fun h z => h (Nat.add_left_cancel z)
  have nl : ∀ {c : Addr} (i : Nat), c < s1.heap.objs.size → c ≠ s1.heap.objs.size + i := fun i h => Nat.ne_of_lt (Nat.lt_of_lt_of_le h (Nat.le_add_right _ _))
  refine call_zipB pl pl2 fun h' g1 g2 g3 g4 g5 k => wpAny_pyIter_zip g1 ?_
  have D : ZipApart (s1.heap.objs.size + 4) (s1.heap.objs.size + 2) (s1.heap.objs.size + 3) (s1.heap.objs.size + 0) (s1.heap.objs.size + 1) a b :=
    ⟨ne (by decide), ne (by decide), ne (by decide), ne (by decide), ne (by decide), ne (by decide), ne (by decide), ne (by decide), ne (by decide), ne (by decide), nl 4 la, nl 3 la, nl 0 la, nl 1 la, nl 4 lb, nl 3 lb, nl 0 lb, nl 1 lb⟩
  refine ⟨s1.heap.objs.size + 4, [s1.heap.objs.size + 4, s1.heap.objs.size + 2, s1.heap.objs.size + 3, s1.heap.objs.size + 0, s1.heap.objs.size + 1], _, _, H1, rfl, I1.kept (t' := s1.toks) k, turn_zipB D, ⟨g1, g2, ⟨_, _, g3⟩, g4, g5⟩, fun c hc => ?_, q⟩
  have ge : s1.heap.objs.size ≤ c := by
    simp only [List.mem_cons, List.not_mem_nil, or_false] at hc
    rcases hc with rfl | rfl | rfl | rfl | rfl <;> exact Nat.le_add_right _ _
  exact I1.fpOk ge (I1.hok.fresh ge)
end L2

set_option Elab.async false
set_option linter.all false
set_option maxRecDepth 100000
set_option maxHeartbeats 4000000
namespace Lv
open PySem L2
theorem pgK_tup (K : PySem.W.Frag) {X : Cx} {es : List Expr} {k : Nat} {t : TGs} {n : Nat} {pos : Pos} (hc : X.calm = true) (h : PGs X es t) (hK : X.K = K := by rfl) (hn : (assignEach es X.env).length = n := by rfl) (hst : (assignEach es X.env).findIdx? (·.1) = none := by rfl) : PG X (.Tuple es k pos) (gTup K n t) := by
  subst hK; exact pg_tup hc h hn hst
theorem nextC_getD {c : List Int} {j : Nat} (hj : j < c.length) : (nextC c).getD j 0 = c.getD 0 0 + c.getD (j + 1) 0 := by
  cases c with
  | nil => simp at hj
  | cons a r =>
    show ((r.map (a + ·)) ++ [a]).getD j 0 = a + r.getD j 0
    simp only [List.getD_eq_getElem?_getD]
    by_cases h : j < r.length
    · rw [List.getElem?_append_left (by simpa using h)]
      simp [h]
    · have e : j = r.length := by simp at hj; omega
      subst e
      simp
theorem getD_len {c : List Int} {j : Nat} (h : c.length ≤ j) : c.getD j 0 = 0 := by
  rw [List.getD_eq_getElem?_getD, List.getElem?_eq_none h]
  rfl
theorem getD_nn {c : List Int} (h : ∀ x ∈ c, 0 ≤ x) (j : Nat) : 0 ≤ c.getD j 0 := by
  rw [List.getD_eq_getElem?_getD]
  cases e : c[j]? with
  | none => exact Int.le_refl _
  | some x => exact h x (List.mem_of_getElem? e)
theorem down_head {c : List Int} (h : Down c) (j : Nat) : c.getD j 0 ≤ c.getD 0 0 := by
  cases c with
  | nil => simp
  | cons a r =>
    cases j with
    | zero => exact Int.le_refl _
    | succ j =>
      show r.getD j 0 ≤ a
      rw [List.getD_eq_getElem?_getD]
      cases e : r[j]? with
      | none => exact h.2 a (by simp)
      | some x => exact (List.pairwise_cons.mp h.1).1 x (List.mem_of_getElem? e)
theorem grow {p : Nat} (hp : 1 ≤ p) (n j : Nat) (hj : j < p) : (cnt p n).getD j 0 ≤ (cnt p (n + 1)).getD j 0 := by
  show _ ≤ (nextC (cnt p n)).getD j 0
  rw [nextC_getD (by rw [cnt_len hp]; exact hj)]
  have h1 := down_head (down_cnt p n) j
  have h2 := getD_nn (down_cnt p n).2 (j + 1)
  omega
end Lv

set_option Elab.async false
set_option linter.all false
set_option maxRecDepth 100000
set_option maxHeartbeats 4000000
namespace Lv
open PySem L2
/-! ### phases, in plain Lean -/
/-- what is left of a count behind a phase -/
def les (m x : Int) : Int := if x - m > 0 then x - m else 0
/-- the counts behind a phase -/
def behindP (c : List Int) (out : Nat) (m : Int) : List Int := (c.map (les m)).set out m
/-- place by place at most -/
def LeAll (a b : List Int) : Prop := a.length = b.length ∧ ∀ j : Nat, a.getD j 0 ≤ b.getD j 0
/-- some order of the counts is place by place at most the level's, the last one 0 -/
def Cov (c L : List Int) : Prop := ∃ l : List Int, l.Perm (c) ∧ LeAll l (L ++ [0])
theorem getD_app {a b : List Int} {j : Nat} : (a ++ b).getD j 0 = if j < a.length then a.getD j 0 else b.getD (j - a.length) 0 := by
  simp only [List.getD_eq_getElem?_getD]
  by_cases h : j < a.length
  · rw [if_pos h, List.getElem?_append_left h]
  · rw [if_neg h, List.getElem?_append_right (by omega)]
theorem les_nn (m x : Int) : 0 ≤ les m x := by unfold les; split <;> omega
theorem map_getD {f : Int → Int} (h0 : f 0 = 0) (a : List Int) (j : Nat) : (a.map f).getD j 0 = f (a.getD j 0) := by
  simp only [List.getD_eq_getElem?_getD, List.getElem?_map]
  cases a[j]? <;> simp [h0]
theorem perm_cut {c l : List Int} {out : Nat} (hp : (l ++ [0]).Perm c) (ho : c[out]? = some 0) (m : Int) : (m :: l.map (les m)).Perm (behindP c out m) := by
  have hlt : out < c.length := (List.getElem?_eq_some_iff.mp ho).1
  have e0 : c[out] = 0 := (List.getElem?_eq_some_iff.mp ho).2
  have ec : c = c.take out ++ 0 :: c.drop (out + 1) := by
    rw [← e0, ← List.drop_eq_getElem_cons hlt, List.take_append_drop]
  have hlen : (c.take out).length = out := by rw [List.length_take]; omega
  generalize c.take out = a at ec hlen
  generalize c.drop (out + 1) = b at ec
  subst ec
  have h1 : (0 :: l).Perm (0 :: (a ++ b)) := by
    have q1 : (0 :: l).Perm (l ++ [0]) := (List.perm_append_singleton 0 l).symm
    have q2 : (a ++ 0 :: b).Perm (0 :: (a ++ b)) := List.perm_middle
    exact q1.trans (hp.trans q2)
  have h2 : l.Perm (a ++ b) := h1.cons_inv
  have h3 : (m :: l.map (les m)).Perm (m :: ((a ++ b).map (les m))) := (h2.map (les m)).cons m
  have h4 : behindP (a ++ 0 :: b) out m = a.map (les m) ++ m :: b.map (les m) := by
    unfold behindP
    rw [List.map_append, List.map_cons, ← hlen, ← List.length_map (les m) (as := a), List.set_append_right _ _ (Nat.le_refl _), Nat.sub_self]
    rfl
  rw [h4]
  refine h3.trans ?_
  rw [List.map_append]
  exact List.perm_middle.symm
/-- THE STEP: a phase of the level's greatest count, or of the greatest there is, leads to the level ahead -/
theorem cov_step {c L : List Int} {out : Nat} {m : Int} (hL : Down L) (hL2 : 2 ≤ L.length) (hc : Cov c (nextC L)) (hnn : ∀ x ∈ c, 0 ≤ x) (ho : c[out]? = some 0) (hm : m = L.getD 0 0 ∨ (m ≤ L.getD 0 0 ∧ ∀ x ∈ c, x ≤ m)) (hm0 : 0 ≤ m) : Cov (behindP c out m) L := by
  obtain ⟨l, hp, hlen, hle⟩ := hc
  have hnl : (nextC L).length = L.length := nextC_len (by intro z; rw [z] at hL2; simp at hL2)
  have hll : l.length = L.length + 1 := by rw [hlen]; simp [hnl]
  -- the last one is 0
  have hne : l ≠ [] := by intro z; rw [z] at hll; simp at hll
  obtain ⟨l0, z, rfl⟩ : ∃ l0 z, l = l0 ++ [z] := ⟨_, _, (List.dropLast_concat_getLast hne).symm⟩
  have hl0 : l0.length = L.length := by simpa using hll
  have hz : z = 0 := by
    have h1 := hle l0.length
    rw [getD_app, getD_app, hnl, ← hl0] at h1
    simp at h1
    have := hnn z (hp.subset (by simp))
    omega
  subst hz
  have mem0 : ∀ x ∈ l0, 0 ≤ x := fun x hx => hnn x (hp.subset (by simp [hx]))
  have bnd : ∀ j, j < L.length → l0.getD j 0 ≤ L.getD 0 0 + L.getD (j + 1) 0 := fun j hj => by
    have h1 := hle j
    rw [getD_app, getD_app, hnl, if_pos (by omega), if_pos hj, nextC_getD hj] at h1
    exact h1
  refine ⟨m :: l0.map (les m), perm_cut hp ho m, ?_, fun j => ?_⟩
  · simp [hl0]
  · have l0m : les m 0 = 0 := by unfold les; rw [if_neg (by omega)]
    have Lnn := fun j => getD_nn hL.2 j
    cases j with
    | zero =>
      rw [getD_app, if_pos (by omega)]
      show m ≤ L.getD 0 0
      rcases hm with rfl | hm
      · exact Int.le_refl _
      · exact hm.1
    | succ j =>
      show (l0.map (les m)).getD j 0 ≤ _
      rw [map_getD l0m, getD_app]
      have hlj : les m (l0.getD j 0) ≤ if j < L.length then L.getD (j + 1) 0 else 0 := by
        by_cases hj : j < L.length
        · rw [if_pos hj]
          have h1 := bnd j hj
          have h2 := Lnn (j + 1)
          rcases hm with rfl | hm
          · unfold les
            split <;> omega
          · have h3 : l0.getD j 0 ≤ m := hm.2 _ (hp.subset (by
              rw [List.getD_eq_getElem?_getD, List.getElem?_eq_getElem (by omega)]
              simp))
            unfold les
            rw [if_neg (by omega)]
            exact h2
        · rw [if_neg hj, getD_len (by omega), l0m]
          exact Int.le_refl _
      refine Int.le_trans hlj ?_
      by_cases hj : j < L.length
      · rw [if_pos hj]
        by_cases hj2 : j + 1 < L.length
        · rw [if_pos hj2]
          exact Int.le_refl _
        · rw [if_neg hj2, getD_len (by omega)]
          exact getD_nn (by simp) _
      · rw [if_neg hj, if_neg (by omega)]
        exact getD_nn (by simp) _
theorem behind_nn {c : List Int} {out : Nat} {m : Int} (hm : 0 ≤ m) : ∀ x ∈ behindP c out m, 0 ≤ x := by
  intro x hx
  unfold behindP at hx
  rcases List.mem_or_eq_of_mem_set hx with hx | rfl
  · obtain ⟨y, _, rfl⟩ := List.mem_map.mp hx
    exact les_nn m y
  · exact hm
/-- where the level ahead does, an empty reel is there -/
theorem cov_zero {c L : List Int} (h : Cov c L) (hnn : ∀ x ∈ c, 0 ≤ x) : (0 : Int) ∈ c := by
  obtain ⟨l, hp, hlen, hle⟩ := h
  have hne : l ≠ [] := by intro z; rw [z] at hlen; simp at hlen
  obtain ⟨l0, z, rfl⟩ : ∃ l0 z, l = l0 ++ [z] := ⟨_, _, (List.dropLast_concat_getLast hne).symm⟩
  have h0 : l0.length = L.length := by simpa using hlen
  have h1 := hle l0.length
  rw [getD_app, getD_app, h0] at h1
  simp at h1
  have hz := hnn z (hp.subset (by simp))
  have : z = 0 := by omega
  subst this
  exact hp.subset (by simp)
end Lv

set_option Elab.async false
set_option linter.all false
set_option maxRecDepth 100000
set_option maxHeartbeats 4000000
namespace L2
open PySem PySem.Spec PyProof.Rows PySem.SeqAt
theorem noFill_tup_mul : fillsNumberSlot (.type "tuple") "mul" = pure false :=
  PySem.fillsNumberSlot_seq (id := "tuple.__mul__") (r := some (.builtin "tuple.__rmul__")) F.slot_tuple_mul.lookup (by decide +kernel) F.slot_tuple_rmul.lookup (by decide +kernel)
theorem rep_tup : seqRepeat? (.type "tuple") = pure (some (.builtin "tuple.__mul__")) := by
  unfold seqRepeat?
  rw [PySem.seqSlot_of (T := "tuple") (name := "__mul__") (id := "tuple.__mul__") F.slot_tuple_mul.lookup (by decide +kernel), PySem.seqSlot_of (T := "tuple") (name := "__rmul__") (id := "tuple.__rmul__") F.slot_tuple_rmul.lookup (by decide +kernel)]
  rfl
theorem rmul_int_tup (a : Int) (t : Tok) (l : Addr) (items : Array Value) (n : Nat) (dct : Option Addr) (sl : Array (Option Value)) :
    Meets (Builtin.«int.__rmul__» ⟨[.int a t, .ref l], []⟩) (fun _ R s => s.heap.get? l = some { cls := .type "tuple", dict := dct, data := .seq items n, slots := sl } ∧ R (.ok (.ret Value.notImplemented)) s) :=
  .of_wp fun prog w A R s h => by
    obtain ⟨hp, g, d, tk, os⟩ := s
    obtain ⟨hl, h⟩ := h
    wp_walk
    exact ⟨_, rfl, h⟩
theorem mul_tup1 (l : Addr) (items : Array Value) (n : Nat) (dct : Option Addr) (sl : Array (Option Value)) (u : Tok) :
    Meets (Builtin.«tuple.__mul__» ⟨[.ref l, .int 1 u], []⟩) (fun _ R s => s.heap.get? l = some { cls := .type "tuple", dict := dct, data := .seq items n, slots := sl } ∧ R (.ok (.ret (.ref l))) s) :=
  .of_wp fun prog w A R s h => by
    obtain ⟨hp, g, d, tk, os⟩ := s
    obtain ⟨hl, h⟩ := h
    unfold Builtin.«tuple.__mul__»
    wp_walk
    exact ⟨_, rfl, h⟩
theorem mul_tupN (l : Addr) (items : Array Value) (n : Nat) (dct : Option Addr) (sl : Array (Option Value)) (k : Int) (u : Tok) (h0 : ¬ (decide (k < -(2 ^ 63)) || decide (k ≥ 2 ^ 63)) = true) (h1 : ¬ (items.isEmpty || k == 1) = true) (h2 : ¬ (decide (k ≤ 0) || items.isEmpty) = true) (h3 : ¬ items.size * k > (2 ^ 63 - 1) / 8) (h4 : ¬ Builtin.Tuple.tupleTooMany (items.size * k) = true) (h5 : ¬ (List.foldl (fun x1 x2 => x1 ++ x2) #[] (List.replicate k.toNat items)).size > sizeLine) :
    Meets (Builtin.«tuple.__mul__» ⟨[.ref l, .int k u], []⟩) (fun _ R s => s.heap.get? l = some { cls := .type "tuple", dict := dct, data := .seq items n, slots := sl } ∧
      R (.ok (.ret (.ref s.heap.objs.size))) { s with heap := s.heap.push { cls := .type "tuple", data := .seq ((List.replicate k.toNat items).foldl (fun x1 x2 => x1 ++ x2) #[]) } }) :=
  .of_wp fun prog w A R s h => by
    obtain ⟨hp, g, d, tk, os⟩ := s
    obtain ⟨hl, h⟩ := h
    unfold Builtin.«tuple.__mul__»
    wp_walk
    rw [if_neg h0]
    wp_walk
    rw [if_neg h3]
    wp_walk
    exact ⟨_, rfl, h⟩
/-! ### rules with the fragment named: within a block -/
theorem callK_len (K : PySem.W.Frag) {X : Cx} (hK : X.K = K := by rfl) : CallR X (.builtin "len") (fun xs H Q => ∃ p ys, xs = [.ref p] ∧ (SqL K H p ys ∨ SqT K H p ys) ∧ Q (.int ys.length) H) := by subst hK; exact call_len_seq
/-- a comprehension that takes no name of the text's own -/
theorem CompOk.bare {X : Cx} {scope : Scope} {own : List Str} (h : ((scope.kind == .function) && scope.names.all fun y => (y.2 != .cell) && (y.2 != .free) && ((y.2 != .local) || (scope.names.lookup y.1 == some .local))) = true) : CompOk X scope own [] := by
  simp only [Bool.and_eq_true, beq_iff_eq, List.all_eq_true, Bool.or_eq_true, bne_iff_ne, ne_eq] at h
  obtain ⟨h1, h2⟩ := h
  refine ⟨h1, fun y hy => (h2 y hy).1.1, fun y hy hf => absurd hf (h2 y hy).1.2, fun y hy hl => ?_, fun j hj => by cases hj⟩
  rcases (h2 y hy).2 with z | z
  · exact absurd hl z
  · exact z
section
variable {X : Cx}
/-! ### lists of lists, tuples of tuples -/
def TTs (H : Hp) (rs : List Addr) (N : List (List Int)) : Prop := rs.length = N.length ∧ ∀ (j : Nat) r xs, rs[j]? = some r → N[j]? = some xs → H r = some (.tup (xs.map V.int))
theorem TTs.same {H H' : Hp} {rs : List Addr} {N : List (List Int)} (h : TTs H rs N) (s : Same H H') : TTs H' rs N := ⟨h.1, fun j r xs a b => s _ _ (h.2 j r xs a b)⟩
theorem TTs.lst {H : Hp} {rs : List Addr} {N : List (List Int)} {acc : Addr} {ys zs : List V} (h : TTs H rs N) (e : H acc = some (.lst zs)) : TTs (upd H acc (.lst ys)) rs N := ⟨h.1, fun j r xs a b => by
  have := h.2 j r xs a b
  rw [upd_ne (by intro z; subst z; rw [e] at this; cases this)]
  exact this⟩
theorem snoc_get {α : Type} {xs : List α} {x y : α} {j : Nat} (h : (xs ++ [x])[j]? = some y) : xs[j]? = some y ∨ (j = xs.length ∧ y = x) := by
  by_cases hj : j < xs.length
  · rw [List.getElem?_append_left hj] at h; exact .inl h
  · rw [List.getElem?_append_right (by omega)] at h
    have : j - xs.length = 0 := by
      cases e : j - xs.length with
      | zero => rfl
      | succ m => rw [e] at h; simp at h
    rw [this] at h
    exact .inr ⟨by omega, by simpa using h.symm⟩
theorem TTs.snoc {H : Hp} {rs : List Addr} {N : List (List Int)} {r : Addr} {x : List Int} (h : TTs H rs N) (e : H r = some (.tup (x.map V.int))) : TTs H (rs ++ [r]) (N ++ [x]) := ⟨by simp [h.1], fun j r' xs a b => by
  rcases snoc_get a with a | ⟨a, rfl⟩
  · rcases snoc_get b with b | ⟨b, _⟩
    · exact h.2 j r' xs a b
    · have := (List.getElem?_eq_some_iff.mp a).1; have := h.1; omega
  · rcases snoc_get b with b | ⟨_, rfl⟩
    · have := (List.getElem?_eq_some_iff.mp b).1; have := h.1; omega
    · exact e⟩
end
end L2

set_option Elab.async false
set_option linter.all false
set_option maxRecDepth 100000
set_option maxHeartbeats 4000000
namespace L2
open PySem PySem.Spec PyProof.Rows PySem.SeqAt
section
variable {X : Cx}
theorem argBest_max (f : Nat → Int) : ∀ k i, i ≤ k → f i ≤ f (argBest (fun i j => decide (f j < f i)) k)
  | 0, i, h => by
    have : i = 0 := by omega
    subst this
    exact Int.le_refl _
  | k + 1, i, h => by
    unfold argBest
    by_cases e : f (argBest (fun i j => decide (f j < f i)) k) < f (k + 1)
    · rw [if_pos (decide_eq_true e)]
      by_cases hi : i = k + 1
      · subst hi; exact Int.le_refl _
      · have := argBest_max f k i (by omega)
        omega
    · rw [if_neg (by simpa using e)]
      by_cases hi : i = k + 1
      · subst hi; omega
      · exact argBest_max f k i (by omega)
/-- the walk over a list or a tuple, as its iterator lies -/
theorem walkB {b : Bool} {pins : List (Addr × Obj)} {σ : St} {H : Hp} {s : Shared} {a : Addr} {ns : List Int} {Q : Value → Shared → Prop} {A : Around} {E : Value → Shared → Prop} (I : Inv X pins σ H s) (hh : A.handled = none) (h : SqB b X.K H a (ns.map V.int))
    (k : ∀ (I0 : Addr) (fp wr : List Addr) (P : Nat → Value → Prop) (St : Nat → Heap → Prop) (s2 : Shared), Walks X.prog X.w A I0 fp wr ns.length P St → St 0 s2.heap → (∀ c ∈ fp, c < s2.heap.objs.size) → (∀ i v, P i v → i < ns.length ∧ ∃ t, v = .int (ns.getD i 0) t) →
      (∀ h' tk, (∀ c o, c ∉ wr → s2.heap.get? c = some o → h'.get? c = some o) → Inv X pins σ H { s2 with heap := h', toks := tk }) → Q (.ref I0) s2) : wpAny (model X.prog X.w) A (pyIter (.ref a)) Q E s := by
  have fin : ∀ (its : List Value) (rv : Vals (ns.map V.int) its) (ob : Obj), a < s.heap.objs.size → (∀ h' tk, (∀ c o, c ∉ [s.heap.objs.size] → (s.heap.push ob).get? c = some o → h'.get? c = some o) → Inv X pins σ H { s with heap := h', toks := tk }) ∧ its.toArray.size = ns.length ∧
      (∀ i v, its.toArray[i]? = some v → i < ns.length ∧ ∃ t, v = .int (ns.getD i 0) t) ∧ ∀ c ∈ [s.heap.objs.size, a], c < (s.heap.push ob).objs.size := fun its rv ob hlt => by
    have hlen : its.toArray.size = ns.length := by rw [List.size_toArray, ← rv.length, List.length_map]
    refine ⟨fun h' tk hk => I.kept (h' := h') (t' := tk) fun c o e => hk c o ?_ (Heap.get?_push_of_some _ e), hlen, fun i v e => ?_, fun c hc => ?_⟩
    · intro hm
      have : c = s.heap.objs.size := by simpa using hm
      rw [this] at e
      exact absurd (Heap.lt_size e) (Nat.lt_irrefl _)
    · have hi : i < its.toArray.size := (Array.getElem?_eq_some_iff.mp e).1
      obtain ⟨t, q⟩ := ints_at rv hi
      rw [Array.getElem?_eq_getElem hi] at e
      have e' := Option.some.inj e
      rw [q] at e'
      exact ⟨by rw [← hlen]; exact hi, t, e'.symm⟩
    · rcases List.mem_cons.mp hc with z | z
      · rw [z, Heap.size_push]; exact Nat.lt_succ_self _
      · have z : c = a := by simpa using z
        rw [z, Heap.size_push]
        exact Nat.lt_succ_of_lt hlt
  cases b with
  | true =>
    obtain ⟨its, rv, p, hz⟩ := I.list h
    have hlt : a < s.heap.objs.size := by obtain ⟨o, n, e, _⟩ := p; exact Heap.lt_size e
    have hne : a ≠ s.heap.objs.size := Nat.ne_of_lt hlt
    refine wpAny_pyIter_list p.isList ?_
    obtain ⟨f1, f2, f3, f4⟩ := fin its rv _ hlt
    have W := Walks.list (prog := X.prog) (w := X.w) (A := A) hh s.heap.objs.size a hne its.toArray
    rw [f2] at W
    refine k _ _ _ _ _ _ W ⟨⟨_, Heap.get?_push_size _ rfl, rfl, rfl⟩, ?_⟩ f4 f3 f1
    obtain ⟨o, n, e, c, _, d⟩ := p
    exact ⟨o, Heap.get?_push_of_some _ e, c, n, d⟩
  | false =>
    obtain ⟨its, rv, p0, hz⟩ := I.tuple h
    have p : s.heap.IsTuple a its.toArray := p0
    have hlt : a < s.heap.objs.size := by obtain ⟨o, e, _⟩ := p; exact Heap.lt_size e
    have hne : a ≠ s.heap.objs.size := Nat.ne_of_lt hlt
    refine wpAny_pyIter_tuple p ?_
    obtain ⟨f1, f2, f3, f4⟩ := fin its rv _ hlt
    have W := Walks.tuple (prog := X.prog) (w := X.w) (A := A) hh s.heap.objs.size a hne its.toArray
    rw [f2] at W
    refine k _ _ _ _ _ _ W ⟨⟨_, Heap.get?_push_size _ rfl, rfl, rfl⟩, ?_⟩ f4 f3 f1
    obtain ⟨o, e, c, d⟩ := p
    exact ⟨o, Heap.get?_push_of_some _ e, c, d⟩
theorem getD_mem {ns : List Int} {i : Nat} (h : i < ns.length) : ns.getD i 0 ∈ ns := by
  rw [List.getD_eq_getElem?_getD, List.getElem?_eq_getElem h]
  exact List.getElem_mem h
/-- max(..) of a list or a tuple of ints -/
theorem call_maxB (hc : X.calm = true) : CallR X (.builtin "max") (fun xs H Q => ∃ (b : Bool) (a : Addr) (ns : List Int), xs = [.ref a] ∧ SqB b X.K H a (ns.map V.int) ∧ ns ≠ [] ∧ ∀ m, m ∈ ns → (∀ x ∈ ns, x ≤ m) → Q (.int m) H) := by
  intro pins s σ H xs us Q I r h
  obtain ⟨b, a, ns, rfl, hq, hn, q⟩ := h
  obtain ⟨u, rfl, r1⟩ := vals1 r
  cases r1
  have hpos : 0 < ns.length := List.length_pos_iff.mpr hn
  refine call_max_walk (walkB I (I.ok.hd hc) hq fun I0 fp wr P St s2 W st hfp hP hk => ?_)
  refine ⟨I0, fp, wr, ns.length, P, St, fun i j => decide (ns.getD j 0 < ns.getD i 0), rfl, W, st, hfp, hpos, ?_, ?_⟩
  · intro i j vi vj s' Q' E' hi hj hQ
    obtain ⟨_, t, rfl⟩ := hP i vi hi
    obtain ⟨_, t', rfl⟩ := hP j vj hj
    exact gt_int hQ
  · intro v h' tk hPv hkk
    obtain ⟨hi, t, rfl⟩ := hP _ v hPv
    refine ⟨.int _, H, hk h' tk hkk, ⟨t, rfl⟩, q _ (getD_mem hi) fun x hx => ?_⟩
    obtain ⟨i, hi', e⟩ := List.getElem_of_mem hx
    have := argBest_max (fun i => ns.getD i 0) (ns.length - 1) i (by omega)
    have e2 : ns.getD i 0 = ns[i] := by rw [List.getD_eq_getElem?_getD, List.getElem?_eq_getElem hi']; rfl
    rw [← e, ← e2]
    exact this
/-- min(..) of a list or a tuple of ints -/
theorem call_minB (hc : X.calm = true) : CallR X (.builtin "min") (fun xs H Q => ∃ (b : Bool) (a : Addr) (ns : List Int), xs = [.ref a] ∧ SqB b X.K H a (ns.map V.int) ∧ ns ≠ [] ∧ ∀ m, m ∈ ns → (∀ x ∈ ns, m ≤ x) → Q (.int m) H) := by
  intro pins s σ H xs us Q I r h
  obtain ⟨b, a, ns, rfl, hq, hn, q⟩ := h
  obtain ⟨u, rfl, r1⟩ := vals1 r
  cases r1
  have hpos : 0 < ns.length := List.length_pos_iff.mpr hn
  refine call_min_walk (walkB I (I.ok.hd hc) hq fun I0 fp wr P St s2 W st hfp hP hk => ?_)
  refine ⟨I0, fp, wr, ns.length, P, St, fun i j => decide (ns.getD i 0 < ns.getD j 0), rfl, W, st, hfp, hpos, ?_, ?_⟩
  · intro i j vi vj s' Q' E' hi hj hQ
    obtain ⟨_, t, rfl⟩ := hP i vi hi
    obtain ⟨_, t', rfl⟩ := hP j vj hj
    exact lt_int hQ
  · intro v h' tk hPv hkk
    obtain ⟨hi, t, rfl⟩ := hP _ v hPv
    refine ⟨.int _, H, hk h' tk hkk, ⟨t, rfl⟩, q _ (getD_mem hi) fun x hx => ?_⟩
    obtain ⟨i, hi', e⟩ := List.getElem_of_mem hx
    have := argBest_min (fun i => ns.getD i 0) (ns.length - 1) i (by omega)
    have e2 : ns.getD i 0 = ns[i] := by rw [List.getD_eq_getElem?_getD, List.getElem?_eq_getElem hi']; rfl
    rw [← e, ← e2]
    exact this
end
/-- a comprehension over zip of two, the second no longer than the first -/
theorem comp_zipR {b1 b2 : Bool} {K : PySem.W.Frag} {own : List Str} {js : List Nat} {g : TG} {tt : TT} {te : TE} {σ : St} {H1 : Hp} {Q : VK} {a b : Addr} {xs ys : List V} (hlen : ys.length ≤ xs.length) (Pv : Addr → Nat → Hp → Prop) (h0 : ∀ acc, H1 acc = none → Pv acc 0 (upd H1 acc (.lst [])))
    (hl : ∀ acc i H, H1 acc = none → i ≤ ys.length → Pv acc i H → SqB b1 K H a xs ∧ SqB b2 K H b ys)
    (hs : ∀ acc i x y p H, H1 acc = none → xs[i]? = some x → ys[i]? = some y → Pv acc i H → H p = none → g (.ref p) (blkσ own js σ) (upd H p (.tup [x, y])) fun τ H4 => tt τ H4 fun c H5 =>
      if c = true then te τ H5 fun y H6 => ∃ zs, H6 acc = some (.lst zs) ∧ zs.length < sizeLine ∧ (i + 1 ≤ ys.length ∧ Pv acc (i + 1) (upd H6 acc (.lst (zs ++ [y])))) else (i + 1 ≤ ys.length ∧ Pv acc (i + 1) H5))
    (hd : ∀ acc H, H1 acc = none → Pv acc ys.length H → Q (.ref acc) H) : tCompW own js g tt te σ (ItzB b1 b2 K a b) H1 Q := by
  intro acc hacc
  refine ⟨fun i H => i ≤ ys.length ∧ Pv acc i H, ys.length, ⟨Nat.zero_le _, h0 acc hacc⟩, ?_⟩
  rintro i H ⟨hi, p⟩
  obtain ⟨q1, q2⟩ := hl acc i H hacc hi p
  by_cases hlt : i < ys.length
  · have hl2 : i < xs.length := by omega
    refine .inr ⟨hlt, ⟨xs, ys, xs[i], ys[i], q1, q2, by simp [hl2], by simp [hlt]⟩, fun x H' y => ?_⟩
    obtain ⟨pa, z1, z2, hp, e1, e2, y1, y2⟩ := y
    subst e1 e2
    exact hs acc i z1 z2 pa H hacc (y1 xs q1) (y2 ys q2) p hp
  · have e : i = ys.length := by omega
    subst e
    exact .inl ⟨⟨xs, ys, q1, q2, .inr (Nat.le_refl _)⟩, hd acc H hacc p⟩
end L2

set_option Elab.async false
set_option linter.all false
set_option maxRecDepth 100000
set_option maxHeartbeats 4000000
namespace L2
open PySem PySem.Spec PyProof.Rows PySem.SeqAt
section
variable {X : Cx}
/-- the list at a from its end, as long as it stays -/
def Itv (K : PySem.W.Frag) (a : Addr) (xs : List V) : It := ⟨fun i H => SqL K H a xs ∧ i < xs.length, fun i H x H' => H' = H ∧ xs[xs.length - 1 - i]? = some x, fun i H => SqL K H a xs ∧ xs.length ≤ i⟩
theorem turn_rev {P : Program} {w : World} {K : PySem.W.Frag} {tg : Expr} (a it : Addr) (xs : List V) : Turn P w K tg (Itv K a xs) [it] it (fun i h => i ≤ xs.length ∧ h.IsRevIter it a ((xs.length : Int) - 1 - (i : Int))) where
  mem := by simp
  obj := fun i h st b hb => by
    have e : b = it := by simpa using hb
    subst e
    obtain ⟨_, o, e, c, d⟩ := st
    exact ⟨o, e, fun v z => by rw [d] at z; cases z⟩
  keep := fun i h h' st k => ⟨st.1, st.2.at fun o e => k it (by simp) o e⟩
  item := by
    intro X hP hw hK hc i pins s σ H E I hf st hg
    subst hP hw hK
    obtain ⟨hq, hi⟩ := hg
    obtain ⟨its, rv, p, hz⟩ := I.list hq
    have hx : xs[xs.length - 1 - i]? = some (xs[xs.length - 1 - i]'(by omega)) := List.getElem?_eq_getElem (by omega)
    obtain ⟨u, hu, ru⟩ := rv.get hx
    obtain ⟨f0, f1, f2, f3, f4, f5⟩ := hf it (by simp)
    have st2 := st.2
    rw [show (xs.length : Int) - 1 - (i : Int) = ((xs.length - 1 - i : Nat) : Int) by omega] at st2
    refine wpAny_pyNext_rev_item st2 p.isList (x := u) (by simpa using hu) fun h' st' sb => ?_
    have I1 : Inv X pins σ H { s with heap := h' } := I.turned (t' := s.toks) (fun b o hb e => (sb.2 b hb).trans e) f0 f1 f3 f4 f5
    rw [show ((xs.length - 1 - i : Nat) : Int) - 1 = (xs.length : Int) - 1 - ((i + 1 : Nat) : Int) by omega] at st'
    obtain ⟨o, e, c, d⟩ := id st'
    exact ⟨u, rfl, go_of (s := { s with heap := h' }) e c d (by decide) ⟨_, H, I1, ru, ⟨rfl, hx⟩, ⟨hi, st'⟩, fun b hb => (hf b hb).1⟩⟩
  done := by
    intro X hP hw hK hc i pins s σ H E I hf st hg
    subst hP hw hK
    obtain ⟨hq, hx⟩ := hg
    obtain ⟨f0, f1, f2, f3, f4, f5⟩ := hf it (by simp)
    have st2 := st.2
    have := st.1
    rw [show (xs.length : Int) - 1 - (i : Int) = -1 by omega] at st2
    exact wpAny_pyNext_rev_end (I.ok.hd hc) st2 fun h' eb => ⟨rfl, I.turned (t' := s.toks) (fun b o hb e => eb b o hb e) f0 f1 f3 f4 f5⟩
  self := fun _ _ _ _ _ st h => wpAny_pyIter_revIter st.2 h
def iRev (K : PySem.W.Frag) (ta : TA) : TI := fun σ H R => ta σ H fun vs H1 => ∃ a xs, vs = [.ref a] ∧ SqL K H1 a xs ∧ R (Itv K a xs) H1
theorem pi_rev {tg e : Expr} {ta : TA} {p pos : Pos} (hg : Gl X "reversed") (hm : X.mg "reversed" = none) (ha : PA X [e] ta) (hs : starEach [e] X.env = [(false, eval e X.env)] := by rfl) : PI X tg (.Call (.Name "reversed" p) [e] [] pos) (iRev X.K ta) := by
  intro pins s σ H R I h
  refine Call_ (ld_blt I hg hm (show bootBuiltins "reversed" = some (.type "reversed") by decide +kernel) (PyProof.Rows.callWith_type1 (thn (ha pos pins s σ H _ I h) fun us s1 ⟨vs, H1, I1, r1, q1⟩ => ?_) hs rfl))
  obtain ⟨a, xs, e1, hq, q⟩ := q1
  subst e1
  obtain ⟨u, rfl, r⟩ := vals1 r1
  cases r
  obtain ⟨its, rv, pl, hz⟩ := I1.list hq
  have hl : its.toArray.size = xs.length := by rw [List.size_toArray]; exact rv.length.symm
  refine call_reversed_list pl.isList ?_
  rw [hl]
  have hit : (s1.heap.push (revObj a ((xs.length : Int) - 1))).IsRevIter s1.heap.objs.size a ((xs.length : Int) - 1) := ⟨_, Heap.get?_push_size _ rfl, rfl, rfl⟩
  refine wpAny_pyIter_revIter (s := { s1 with heap := s1.heap.push (revObj a ((xs.length : Int) - 1)) }) hit ?_
  refine ⟨s1.heap.objs.size, [s1.heap.objs.size], _, _, H1, rfl, I1.kept (t' := s1.toks) fun b o e => Heap.get?_push_of_some _ e, turn_rev a s1.heap.objs.size xs, ⟨Nat.zero_le _, by simpa using hit⟩, fun b hb => ?_, q⟩
  have e : b = s1.heap.objs.size := by simpa using hb
  subst e
  exact I1.fpOk (Nat.le_refl _) (I1.hok.fresh (Nat.le_refl _))
end
/-- for over reversed(xs), xs left as it is -/
theorem for_rev {K : PySem.W.Frag} {a : Addr} {xs : List V} {g : TG} {tb : TS} {D : Ends} {σ : St} {H : Hp} (Pv : Nat → St → Hp → Prop) (h0 : Pv 0 σ H) (hl : ∀ i σ H, i ≤ xs.length → Pv i σ H → SqL K H a xs)
    (hs : ∀ i x σ H, i < xs.length → xs[xs.length - 1 - i]? = some x → Pv i σ H → g x σ H fun σ2 H2 => tb { D with nx := Pv (i + 1), ct := Pv (i + 1), bk := D.nx } σ2 H2) (hd : ∀ σ H, Pv xs.length σ H → D.nx σ H) :
    ∃ W : Nat → Nat → St → Hp → Prop, (∃ m, W 0 m σ H) ∧ ∀ i m σ H, W i m σ H →
      ((Itv K a xs).stop i H ∧ D.nx σ H) ∨ ((Itv K a xs).go i H ∧ ∃ N : St → Hp → Prop, (∀ σ' H', N σ' H' → ∃ m', m' < m ∧ W (i + 1) m' σ' H') ∧ ∀ x H', (Itv K a xs).yld i H x H' → g x σ H' fun σ2 H2 => tb { D with nx := N, ct := N, bk := D.nx } σ2 H2) := by
  refine ⟨fun i m σ H => m = xs.length - i ∧ i ≤ xs.length ∧ Pv i σ H, ⟨xs.length, by simp, Nat.zero_le _, h0⟩, ?_⟩
  rintro i m σ H ⟨rfl, hi, p⟩
  have q := hl i σ H hi p
  by_cases hlt : i < xs.length
  · refine .inr ⟨⟨q, hlt⟩, Pv (i + 1), fun σ' H' p' => ⟨xs.length - (i + 1), by omega, rfl, hlt, p'⟩, fun x H' y => ?_⟩
    obtain ⟨e, y⟩ := y
    subst e
    exact hs i x σ _ hlt y p
  · have e : i = xs.length := by omega
    subst e
    exact .inl ⟨⟨q, Nat.le_refl _⟩, hd σ H p⟩
end L2

set_option Elab.async false
set_option linter.all false
set_option maxRecDepth 100000
set_option maxHeartbeats 4000000
namespace L2
open PySem PySem.Spec PyProof.Rows PySem.SeqAt
section
variable {X : Cx}
/-! ### methods of a tuple that is tracked (wants the patched layer: patch_tup.py) -/
def tBMT (r : V → List V → Hp → VK → Prop) (to : TE) (t : TA) : TE := fun σ H Q => to σ H fun x H1 => (∃ p xs, x = .ref p ∧ H1 p = some (.tup xs)) ∧ t σ H1 fun xs H2 => r x xs H2 Q
theorem pe_bmT {o e : Expr} {es : List Expr} {to : TE} {t : TA} {name : Str} {apos cpos : Pos} {id : String} {r : V → List V → Hp → VK → Prop} (slot : Slot "tuple" name id) (hty : typeOf (.builtin id) = pure (.type "method_descriptor")) (hm : MtR X id r) (ho : PE X o to) (ha : PA X (e :: es) t)
    (hbase : attributeBase o name X.env (eval o X.env) = eval o X.env := by rfl)
    (hfew : ((backTo cpos (starEach (e :: es) X.env)).all (fun x => !x.1) && (backToKw cpos (keywordEach [] X.env)).all (fun x => x.1.isSome) && decide ((e :: es).length + ([] : List Keyword).length + (if ([] : List Keyword).isEmpty then 0 else 1) < 30)) = true := by rfl)
    (hline : (apos.endLine == cpos.line) = true := by rfl) (hs : starEach (e :: es) X.env = (false, eval e X.env) :: starEach es X.env := by rfl) (hplain : (backTo cpos (starEach es X.env)).any (·.1) = false := by rfl) : PE X (.Call (.Attribute o name apos) (e :: es) [] cpos) (tBMT r to t) := by
  intro pins s σ H Q I h
  refine wpAny_Call_method_late hbase hfew hline rfl (thn (ho pins s σ H _ I h) fun v s1 ⟨x, H1, I1, r1, ⟨p, xs, ex, hp⟩, q1⟩ => ?_)
  subst ex
  cases r1
  obtain ⟨_, its, _, ob, h1, h2, h3, _⟩ := (show ObjOk X.prog X.w H1 s1.heap p (.tup xs) from I1.hok p _ hp)
  refine ⟨"tuple", id, F.plainAttrs_tuple, slot, hty, ⟨ob, h1, h2⟩, fun a e => ?_, ?_⟩
  · cases e
    exact ⟨ob, h1, h3⟩
  have hA := ha cpos pins s1 σ H1 _ I1 q1
  rw [hs] at hA ⊢
  refine Calls.callWith_builtin (by show (false || (backTo cpos (starEach es X.env)).any (·.1)) = false; rw [hplain] <;> rfl) (Calls.evalArgs_plain ?_)
  exact thn hA fun us s2 ⟨vs, H2, I2, r2, q2⟩ => hm pins s2 σ H2 (.ref p) vs (.ref p) us Q I2 rfl r2 q2
end
end L2

set_option Elab.async false
set_option linter.all false
set_option maxRecDepth 100000
set_option maxHeartbeats 4000000
namespace L2
open PySem PySem.Spec PyProof.Rows PySem.SeqAt
theorem tuple_indexAt (l : Addr) (items : Array Value) (n : Nat) (dd : Option Addr) (sl : Array (Option Value)) (x : Value) (e : Value → Bool) (j : Nat) (hj : j < items.size) (hit : e items[j] = true) (hno : ∀ m (hm : m < items.size), m < j → e items[m] = false) :
    Meets (Builtin.«tuple.index» ⟨[.ref l, x], []⟩)
      (fun A R s => s.heap.get? l = some { cls := .type "tuple", dict := dd, data := .seq items n, slots := sl } ∧ (∀ y, y ∈ items → EqAt A.in1 s y x (e y)) ∧ R (.ok (.ret (.int j s.toks))) { s with toks := s.toks + 1 }) :=
  .of_wp fun prog w A R s h => by
    obtain ⟨hp, g, d, tk, os⟩ := s
    obtain ⟨hl, he, h⟩ := h
    unfold Builtin.«tuple.index»
    simp only [Std.Legacy.Range.forIn_eq_forIn_range']
    wp_walk using wpAny_loadPart' hl, wpAny_forIn_list _ (fun rest (b : Option Fin × Unit) s' => b.1 = none ∧ s' = ⟨hp, g, d, tk, os⟩ ∧ ∃ i, i ≤ j ∧ rest = List.range' i (items.size - i)) _
    case turn =>
      rintro y rest b s' ⟨hb, rfl, i, hij, hr⟩
      have hlt : i < items.size := by omega
      rw [show items.size - i = (items.size - i - 1) + 1 by omega, List.range'_succ] at hr
      obtain ⟨rfl, rfl⟩ := List.cons.inj hr
      rw [Array.getElem?_eq_getElem hlt]
      refine wpAny_bind (he _ (Array.getElem_mem hlt) prog w _ _ ?_)
      by_cases e0 : y = j
      · subst e0
        rw [hit]
        wp_walk
        exact ⟨_, rfl, h⟩
      · rw [hno y hlt (by omega)]
        wp_walk
        exact ⟨rfl, rfl, y + 1, by omega, by rw [show items.size - y - 1 = items.size - (y + 1) by omega]⟩
    case fin =>
      rintro ⟨b1, b2⟩ s' ⟨hb, rfl, i, hij, hr⟩
      have := congrArg List.length hr
      simp at this
      omega
    case h =>
      refine ⟨rfl, rfl, 0, Nat.zero_le _, ?_⟩
      simp [Std.Legacy.Range.size]
section
variable {X : Cx}
theorem not_before {i : Int} : ∀ (l : List Int) (j : Nat) (hj : j < l.length), j < l.idxOf i → l[j] ≠ i := by
  intro l
  induction l with
  | nil => intro j hj; simp at hj
  | cons a r ih =>
    intro j hj hlt
    rw [List.idxOf_cons] at hlt
    by_cases ha : a = i
    · subst ha; simp at hlt
    · have hb : (a == i) = false := by simpa using ha
      rw [hb] at hlt
      cases j with
      | zero => simpa using ha
      | succ j => simpa using ih j (by simpa using hj) (by simp at hlt; omega)
/-- t.index(i) of a tuple of ints that has it -/
theorem mt_indexT : MtR X "tuple.index" (fun x vs H Q => ∃ (l : Addr) (ns : List Int) (i : Int), x = .ref l ∧ vs = [.int i] ∧ H l = some (.tup (ns.map V.int)) ∧ i ∈ ns ∧ Q (.int (ns.idxOf i : Nat)) H) := by
  intro pins s σ H x vs v us Q I rx rv h
  obtain ⟨l, ns, i, rfl, rfl, hq, hi, q⟩ := h
  cases rx
  obtain ⟨u, rfl, ru⟩ := vals1 rv
  obtain ⟨t, rfl⟩ := ru
  obtain ⟨_, its, r, ⟨cls, dd, data, sl⟩, ho, hc, hdn, n, hd⟩ := (show ObjOk X.prog X.w H s.heap l (.tup (ns.map V.int)) from I.hok l _ hq)
  simp only at hc hd
  subst hc hd
  have hI : IntsAre its ns := intsAre_of r
  have hlen := hI.length
  have hj : ns.idxOf i < ns.length := List.idxOf_lt_length_iff.mpr hi
  refine call_meets F.slot_tuple_index ⟨_, ho, rfl⟩ F.entry_tuple_index (F.args_tuple_index_2 _ _) (tuple_indexAt l its.toArray n dd sl (.int i t) (isInt i) (ns.idxOf i) (by simpa [hlen] using hj) ?_ ?_) ⟨ho, fun y hy => (eq_isInt i t hI y (by simpa using hy)).at _ _, ⟨.int _, H, I.tok _, ⟨_, rfl⟩, q⟩⟩
  · show isInt i its[ns.idxOf i] = true
    rw [isInt_at i hI _ (by omega) hj]
    simpa using List.getElem_idxOf hj
  · intro j hjs hlt
    show isInt i its[j] = false
    rw [isInt_at i hI j (by simpa using hjs) (by omega)]
    have := not_before ns j (by omega) hlt
    simpa using this
/-! ### (many, plan, bar) against (many, plan, bar) -/
/-- an int or None, as a value -/
def ovV : Option Int → V
  | none => .non
  | some i => .int i
end
end L2

set_option Elab.async false
set_option linter.all false
set_option maxRecDepth 100000
set_option maxHeartbeats 4000000
namespace Lv
open PySem L2
/-! ### the counts in their order -/
def rk (st : List Int) : List Int := st.mergeSort fun a b => decide (a ≥ b)
theorem rk_perm (st : List Int) : (rk st).Perm st := List.mergeSort_perm _ _
theorem rk_down (st : List Int) : (rk st).Pairwise (· ≥ ·) := by
  have := List.pairwise_mergeSort (le := fun a b : Int => decide (a ≥ b)) (fun a b c h1 h2 => by simp at h1 h2 ⊢; omega) (fun a b => by simp; omega) st
  exact this.imp fun h => by simpa using h
theorem rk_uniq {st r : List Int} (h : r.Perm st) (d : r.Pairwise (· ≥ ·)) : r = rk st :=
  List.Perm.eq_of_pairwise (le := (· ≥ ·)) (fun a b _ _ h1 h2 => by omega) d (rk_down st) (h.trans (rk_perm st).symm)
theorem rk_len (st : List Int) : (rk st).length = st.length := (rk_perm st).length_eq
/-! ### levels that cover -/
def CovL (L r : List Int) : Prop := ∀ j, j < L.length → r.getD j 0 ≤ L.getD j 0
instance (L r : List Int) : Decidable (CovL L r) := inferInstanceAs (Decidable (∀ j, j < L.length → r.getD j 0 ≤ L.getD j 0))
def Lvl (p : Nat) (r : List Int) (N : Nat) : Prop := CovL (cnt p N) r ∧ ∀ k, k < N → ¬ CovL (cnt p k) r
theorem Lvl.uniq {p : Nat} {r : List Int} {n m : Nat} (h : Lvl p r n) (g : Lvl p r m) : n = m := by
  rcases Nat.lt_trichotomy n m with z | z | z
  · exact absurd h.1 (g.2 n z)
  · exact z
  · exact absurd g.1 (h.2 m z)
theorem hd_two {p : Nat} (hp : 2 ≤ p) (n : Nat) : 2 * hd p n ≤ hd p (n + 2) := by
  have h1 : hd p (n + 2) = hd p (n + 1) + (cnt p (n + 1)).getD 1 0 := nextC_getD (c := cnt p (n + 1)) (j := 0) (by rw [cnt_len (by omega)]; omega)
  have h2 : (cnt p (n + 1)).getD 1 0 = hd p n + (cnt p n).getD 2 0 := nextC_getD (c := cnt p n) (j := 1) (by rw [cnt_len (by omega)]; omega)
  have h3 := getD_nn (down_cnt p n).2 2
  have h4 : hd p n ≤ hd p (n + 1) := grow (by omega) n 0 (by omega)
  omega
theorem hd_pow {p : Nat} (hp : 2 ≤ p) : ∀ k : Nat, (2 : Int) ^ k ≤ hd p (2 * k)
  | 0 => hd_pos hp 0
  | k + 1 => by
    have := hd_pow hp k
    have h2 := hd_two hp (2 * k)
    rw [Int.pow_succ, show 2 * (k + 1) = 2 * k + 2 by omega]
    omega
def big : Int := 1000000000000000000000000000000000000000000000000000000000000
theorem hd_400 {p : Nat} (hp : 2 ≤ p) : big ≤ hd p 400 := by
  have h := hd_pow hp 200
  have : big ≤ (2 : Int) ^ 200 := by decide +kernel
  have e : 2 * 200 = 400 := rfl
  rw [e] at h
  omega
theorem cov_401 {p : Nat} (hp : 2 ≤ p) {r : List Int} (hr : ∀ x ∈ r, x ≤ big) : CovL (cnt p 401) r := by
  intro j hj
  rw [cnt_len (by omega)] at hj
  have e : (cnt p 401).getD j 0 = hd p 400 + (cnt p 400).getD (j + 1) 0 := nextC_getD (by rw [cnt_len (by omega)]; omega)
  have h1 := hd_400 hp
  have h2 := getD_nn (down_cnt p 400).2 (j + 1)
  have h3 : r.getD j 0 ≤ big := by
    rw [List.getD_eq_getElem?_getD]
    cases e : r[j]? with
    | none => show (0 : Int) ≤ big; decide +kernel
    | some x => exact hr x (List.mem_of_getElem? e)
  omega
/-! ### standings -/
structure Stand (p : Nat) (st : List Int) : Prop where
  p2 : 2 ≤ p
  p7 : p ≤ 7
  len : st.length = p + 1
  nn : ∀ x ∈ st, 0 ≤ x
  le : ∀ x ∈ st, x ≤ big
  zero : (0 : Int) ∈ st
  pos : ∃ x ∈ st, 1 ≤ x
theorem rk_last {p : Nat} {st : List Int} (S : Stand p st) : (rk st).getD p 0 ≤ 0 := by
  have hl : (rk st).length = p + 1 := by rw [rk_len, S.len]
  obtain ⟨i, hi, e⟩ := List.getElem_of_mem ((rk_perm st).symm.subset S.zero)
  rw [List.getD_eq_getElem?_getD, List.getElem?_eq_getElem (by omega)]
  show (rk st)[p] ≤ 0
  by_cases h : i = p
  · subst h; omega
  · have := (List.pairwise_iff_getElem.mp (rk_down st)) i p hi (by omega) (by omega)
    omega
theorem stand_cov {p : Nat} {st : List Int} {n : Nat} (S : Stand p st) (h : CovL (cnt p n) (rk st)) : Cov st (cnt p n) := by
  have hp : 1 ≤ p := by have := S.p2; omega
  refine ⟨rk st, rk_perm st, by rw [rk_len, S.len, List.length_append, cnt_len hp]; rfl, fun j => ?_⟩
  rw [getD_app, cnt_len hp]
  by_cases hj : j < p
  · rw [if_pos hj]
    exact h j (by rw [cnt_len hp]; exact hj)
  · rw [if_neg hj]
    by_cases e : j = p
    · subst e
      simpa using rk_last S
    · rw [getD_len (by rw [rk_len, S.len]; omega)]
      exact getD_nn (by simp) _
/-! ### the greatest, the plan -/
def mxl : List Int → Int
  | [] => 0
  | x :: r => if mxl r > x then mxl r else x
theorem mxl_ge : ∀ (c : List Int), ∀ x ∈ c, x ≤ mxl c
  | y :: r, x, h => by
    unfold mxl
    rcases List.mem_cons.mp h with rfl | h
    · split <;> omega
    · have := mxl_ge r x h
      split <;> omega
theorem mxl_mem : ∀ (c : List Int), (∀ x ∈ c, 0 ≤ x) → c ≠ [] → mxl c ∈ c
  | [], _, h => absurd rfl h
  | y :: r, hn, _ => by
    unfold mxl
    by_cases hr : r = []
    · subst hr
      have := hn y (by simp)
      rw [if_neg (by show ¬ (0 : Int) > y; omega)]
      simp
    · have := mxl_mem r (fun x hx => hn x (by simp [hx])) hr
      split
      · exact List.mem_cons_of_mem _ this
      · simp
theorem mxl_eq {c : List Int} {m : Int} (hn : ∀ x ∈ c, 0 ≤ x) (hm : m ∈ c) (hg : ∀ x ∈ c, x ≤ m) : m = mxl c := by
  have h1 := mxl_ge c m hm
  have h2 := hg _ (mxl_mem c hn (List.ne_nil_of_mem hm))
  omega
def mn (a b : Int) : Int := if b < a then b else a
def ph (p : Nat) (c : List Int) (n : Nat) : Int := mn (hd p n) (mxl c)
def nxt (p : Nat) (c : List Int) (n : Nat) : List Int := behindP c (c.idxOf 0) (ph p c n)
def planF (p : Nat) : List Int → Nat → List (List Int)
  | _, 0 => []
  | c, n + 1 => [((c.idxOf 0 : Nat) : Int), ph p c n] :: planF p (nxt p c n) n
/-- on the way: what is left is covered by the level n -/
structure On (p : Nat) (c : List Int) (n : Nat) : Prop where
  len : c.length = p + 1
  cov : Cov c (cnt p n)
  nn : ∀ x ∈ c, 0 ≤ x
  pos : ∃ x ∈ c, 1 ≤ x
theorem On.idx {p : Nat} {c : List Int} {n : Nat} (h : On p c n) : (0 : Int) ∈ c := cov_zero h.cov h.nn
theorem On.out {p : Nat} {c : List Int} {n : Nat} (h : On p c n) : c.idxOf 0 < c.length ∧ c[c.idxOf 0]? = some 0 := by
  have h1 : c.idxOf 0 < c.length := List.idxOf_lt_length_iff.mpr h.idx
  refine ⟨h1, ?_⟩
  rw [List.getElem?_eq_getElem h1, List.getElem_idxOf h1]
theorem On.mx {p : Nat} {c : List Int} {n : Nat} (h : On p c n) : 1 ≤ mxl c := by
  obtain ⟨x, hx, h1⟩ := h.pos
  have := mxl_ge c x hx
  omega
theorem On.ph {p : Nat} (hp : 2 ≤ p) {c : List Int} {n k : Nat} (h : On p c n) : 1 ≤ ph p c k ∧ ph p c k ≤ mxl c := by
  have h1 := hd_pos hp k
  have h2 := h.mx
  unfold Lv.ph mn
  split <;> omega
theorem On.step {p : Nat} (hp : 2 ≤ p) {c : List Int} {n : Nat} (h : On p c (n + 1)) : On p (nxt p c n) n := by
  obtain ⟨o1, o2⟩ := h.out
  obtain ⟨p1, p2⟩ := h.ph hp (k := n)
  refine ⟨by simp [nxt, behindP, h.len], ?_, behind_nn (by omega), Lv.ph p c n, ?_, p1⟩
  · refine cov_step (down_cnt p n) (by rw [cnt_len (by omega)]; exact hp) h.cov h.nn o2 ?_ (by omega)
    show Lv.ph p c n = hd p n ∨ (Lv.ph p c n ≤ hd p n ∧ ∀ x ∈ c, x ≤ Lv.ph p c n)
    unfold Lv.ph mn
    by_cases e : mxl c < hd p n
    · rw [if_pos e]
      exact .inr ⟨by omega, mxl_ge c⟩
    · rw [if_neg e]
      exact .inl rfl
  · unfold nxt behindP
    rw [List.mem_iff_getElem?]
    exact ⟨c.idxOf 0, by rw [List.getElem?_set_self (by simpa using o1)]⟩
theorem Stand.on {p : Nat} {st : List Int} {N : Nat} (S : Stand p st) (h : Lvl p (rk st) N) : On p st N := ⟨S.len, stand_cov S h.1, S.nn, S.pos⟩
theorem les_a (m z : Int) : (if (0 : Int) > z - m then 0 else z - m) = les m z := by
  unfold les
  split <;> split <;> omega
theorem map_set {c : List Int} {out : Nat} {m : Int} : ((c.map (les m)).map V.int).set out (.int m) = (behindP c out m).map V.int := by
  unfold behindP
  rw [List.map_set]
/-! ### the bar -/
def fb (L r : List Int) : Nat := ((List.range L.length).filter fun j => decide (r.getD j 0 > L.getD j 0)).headD 0
theorem fb_ok {L r : List Int} (h : ¬ CovL L r) : ∃ rest, (List.range L.length).filter (fun j => decide (r.getD j 0 > L.getD j 0)) = fb L r :: rest ∧ fb L r < L.length ∧ r.getD (fb L r) 0 > L.getD (fb L r) 0 := by
  unfold fb
  cases e : (List.range L.length).filter fun j => decide (r.getD j 0 > L.getD j 0) with
  | nil =>
    refine absurd (fun j hj => ?_) h
    rw [List.filter_eq_nil_iff] at e
    have := e j (List.mem_range.mpr hj)
    simp at this
    exact this
  | cons a rest =>
    have ha : a ∈ (List.range L.length).filter fun j => decide (r.getD j 0 > L.getD j 0) := by rw [e]; simp
    obtain ⟨h1, h2⟩ := List.mem_filter.mp ha
    exact ⟨rest, rfl, List.mem_range.mp h1, by simpa using h2⟩
def barF (p : Nat) (st : List Int) (N : Nat) : Option Int := if N = 0 then none else some (fb (cnt p (N - 1)) (rk st))
/-- the levels, as a list of lists -/
def lvls (p n : Nat) : List (List Int) := (List.range n).map (cnt p)
theorem lvls_len (p n : Nat) : (lvls p n).length = n := by simp [lvls]
theorem lvls_at {p n j : Nat} (h : j < n) : (lvls p n)[j]? = some (cnt p j) := by simp [lvls, h]
theorem lvls_succ (p n : Nat) : lvls p (n + 1) = lvls p n ++ [cnt p n] := by simp [lvls, List.range_succ]
theorem cut_last (xs : List V) (y : V) : cutV (xs ++ [y]) none (some (-1)) = xs := by
  have e : HT.sIx (xs ++ [y]).length (xs ++ [y]).length (some (-1)) = xs.length := by
    have := HT.clip_eq (-1) (xs ++ [y]).length (xs ++ [y]).length
    rw [if_pos (by decide)] at this
    simp only [List.length_append, List.length_singleton] at this ⊢
    omega
  unfold cutV
  rw [e]
  show (xs ++ [y]).take (xs.length - 0) = xs
  rw [Nat.sub_zero, List.take_left]
theorem TTs.last {H : Hp} {qs : List Addr} {p n : Nat} (h : TTs H qs (lvls p (n + 1))) : ∃ qs' q, qs = qs' ++ [q] ∧ TTs H qs' (lvls p n) ∧ H q = some (.tup ((cnt p n).map V.int)) := by
  have hl : qs.length = n + 1 := by rw [h.1, lvls_len]
  have hne : qs ≠ [] := by intro z; rw [z] at hl; simp at hl
  refine ⟨qs.dropLast, qs.getLast hne, (List.dropLast_concat_getLast hne).symm, ?_, ?_⟩
  · refine ⟨by simp [hl, lvls_len], fun j r xs ha hb => ?_⟩
    have hj : j < n := by have := (List.getElem?_eq_some_iff.mp hb).1; rwa [lvls_len] at this
    refine h.2 j r xs ?_ ?_
    · rw [List.getElem?_dropLast] at ha
      split at ha
      · exact ha
      · cases ha
    · rw [lvls_at hj] at hb
      rw [lvls_at (by omega), ← hb]
  · refine h.2 n _ _ ?_ (lvls_at (by omega))
    rw [List.getLast_eq_getElem, ← List.getElem?_eq_getElem]
    rw [show qs.length - 1 = n by omega]
/-! ### promises -/
def spIsSt (K : PySem.W.Frag) : Sp := fun vs H Q _ => ∃ (a : Addr) (p : Nat) (st : List Int), vs = [.ref a] ∧ H a = some (.tup (st.map V.int)) ∧ Stand p st ∧ ∀ H', Same H H' → Q (.bl true) H'
def spChkSt (K : PySem.W.Frag) : Sp := fun vs H Q _ => ∃ (a : Addr) (p : Nat) (st : List Int), vs = [.ref a] ∧ H a = some (.tup (st.map V.int)) ∧ Stand p st ∧ ∀ H', Same H H' → Q .non H'
def spBeh : Sp := fun vs H Q _ => ∃ (a q : Addr) (c : List Int) (out : Nat) (m : Int), vs = [.ref a, .ref q] ∧ H a = some (.tup (c.map V.int)) ∧ H q = some (.tup [.int out, .int m]) ∧ c.length ≤ 8 ∧ out < c.length ∧ c[out]? = some 0 ∧ 1 ≤ m ∧ m ≤ mxl c ∧ (∀ x ∈ c, 0 ≤ x) ∧ ∀ l H', H l = none → H' l = some (.tup ((behindP c out m).map V.int)) → Same H H' → Q (.ref l) H'
def spRk : Sp := fun vs H Q _ => ∃ (a : Addr) (st : List Int), vs = [.ref a] ∧ H a = some (.tup (st.map V.int)) ∧ st.length ≤ 8 ∧ ∀ l H', H l = none → H' l = some (.lst ((rk st).map V.int)) → Same H H' → Q (.ref l) H'
def spCovers : Sp := fun vs H Q _ => ∃ (a b : Addr) (L r : List Int), vs = [.ref a, .ref b] ∧ H a = some (.tup (L.map V.int)) ∧ H b = some (.lst (r.map V.int)) ∧ L.length ≤ r.length ∧ r.length ≤ 8 ∧ ∀ H', Same H H' → Q (.bl (decide (CovL L r))) H'
def spLvTo : Sp := fun vs H Q _ => ∃ (a : Addr) (p : Nat) (st : List Int), vs = [.ref a] ∧ H a = some (.tup (st.map V.int)) ∧ Stand p st ∧ ∀ N l qs H', Lvl p (rk st) N → N ≤ 401 → H l = none → H' l = some (.lst (qs.map V.ref)) → TTs H' qs (lvls p (N + 1)) → Same H H' → Q (.ref l) H'
def spPlan : Sp := fun vs H Q _ => ∃ (b a : Addr) (p N : Nat) (st : List Int) (qs : List Addr), vs = [.ref b, .ref a] ∧ H b = some (.lst (qs.map V.ref)) ∧ TTs H qs (lvls p N) ∧ H a = some (.tup (st.map V.int)) ∧ 2 ≤ p ∧ p ≤ 7 ∧ N ≤ 401 ∧ On p st N ∧ ∀ l rs H', H l = none → H' l = some (.lst (rs.map V.ref)) → TTs H' rs (planF p st N) → Same H H' → Q (.ref l) H'
def spIsBar : Sp := fun vs H Q _ => ∃ (b a : Addr) (L st : List Int) (j : Nat), vs = [.ref b, .ref a, .int j] ∧ H b = some (.tup (L.map V.int)) ∧ H a = some (.tup (st.map V.int)) ∧ j < L.length ∧ L.length ≤ st.length ∧ st.length ≤ 8 ∧ ∀ H', Same H H' → Q (.bl (decide ((rk st).getD j 0 > L.getD j 0))) H'
def spBar : Sp := fun vs H Q _ => ∃ (b a : Addr) (L st : List Int), vs = [.ref b, .ref a] ∧ H b = some (.tup (L.map V.int)) ∧ H a = some (.tup (st.map V.int)) ∧ L.length ≤ st.length ∧ st.length ≤ 8 ∧ ¬ CovL L (rk st) ∧ ∀ H', Same H H' → Q (.int (fb L (rk st))) H'
def spFew : Sp := fun vs H Q _ => ∃ (a : Addr) (p : Nat) (st : List Int), vs = [.ref a] ∧ H a = some (.tup (st.map V.int)) ∧ Stand p st ∧ ∀ N t l rs H', Lvl p (rk st) N → N ≤ 401 → H t = none → H l = none → t ≠ l → H' t = some (.tup [.int N, .ref l, ovV (barF p st N)]) → H' l = some (.lst (rs.map V.ref)) → TTs H' rs (planF p st N) → Same H H' → Q (.ref t) H'
def spGreat : Sp := fun vs H Q _ => ∃ p, vs = [.ref p] ∧ Pool H p ∧ ∀ d H', 0 ≤ d → d ≤ big → Pool H' p → Sm p H H' → Q (.int d) H'
def spStand : Sp := fun vs H Q _ => ∃ p, vs = [.ref p] ∧ Pool H p ∧ ∀ (n : Nat) (st : List Int) l H', Stand n st → H l = none → H' l = some (.tup (st.map V.int)) → Pool H' p → Sm p H H' → Q (.ref l) H'
end Lv

set_option Elab.async false
set_option linter.all false
set_option maxRecDepth 100000
set_option maxHeartbeats 4000000
namespace Lv
open PySem L2
/-! ### a phase comes down by one level at most -/
end Lv

set_option Elab.async false
set_option linter.all false
set_option maxRecDepth 100000
set_option maxHeartbeats 4000000
namespace Lv
open PySem L2
/-! ### covering, by how many are greater -/
/-! ### a phase of the plan comes down by just one level -/
theorem lvl_ex {p : Nat} {c : List Int} (S : Stand p c) : ∃ k, Lvl p (rk c) k := by
  have h : CovL (cnt p 401) (rk c) := cov_401 S.p2 fun x hx => S.le x ((rk_perm c).subset hx)
  have aux : ∀ n, (CovL (cnt p n) (rk c)) → ∃ k, k ≤ n ∧ Lvl p (rk c) k := by
    intro n
    induction n using Nat.strongRecOn with
    | _ n ih =>
      intro h
      by_cases z : ∃ k, k < n ∧ CovL (cnt p k) (rk c)
      · obtain ⟨k, hk, hc⟩ := z
        obtain ⟨k', h1, h2⟩ := ih k hk hc
        exact ⟨k', by omega, h2⟩
      · exact ⟨n, Nat.le_refl _, h, fun k hk hc => z ⟨k, hk, hc⟩⟩
  obtain ⟨k, _, h⟩ := aux 401 h
  exact ⟨k, h⟩
/-! ### sums -/
/-! ### levels below 61 are small -/
/-! ### one row more -/
end Lv

set_option Elab.async false
set_option linter.all false
set_option maxRecDepth 100000
set_option maxHeartbeats 4000000
namespace L2
open PySem PySem.Spec PyProof.Rows PySem.SeqAt
section
variable {prog : Program} {w : World} {A : Around} {E : Value → Shared → Prop} {s : Shared}
end
section
variable {X : Cx}
end
end L2

set_option Elab.async false
set_option linter.all false
set_option maxRecDepth 100000
set_option maxHeartbeats 4000000
namespace L2
open PySem PySem.Spec PyProof.Rows PySem.SeqAt
/-! ### isinstance(x, (T, ..)) -/
inductive TyS (H : Hp) : V → Value → Prop
  | int (i : Int) : TyS H (.int i) (.type "int")
  | bl (b : Bool) : TyS H (.bl b) (.type "bool")
  | lst {a : Addr} {xs : List V} (e : H a = some (.lst xs)) : TyS H (.ref a) (.type "list")
  | tup {a : Addr} {xs : List V} (e : H a = some (.tup xs)) : TyS H (.ref a) (.type "tuple")
theorem tys_vals : ∀ {Ts : List String} {its : List Value}, Vals (Ts.map V.ty) its → its = Ts.map Value.type
  | [], _, r => by cases r; rfl
  | T :: Ts, _, r => by
    cases r with
    | cons r1 r2 =>
      rw [tys_vals r2]
      cases (show _ = Value.type T from r1)
      rfl
section
variable {X : Cx}
theorem call_isinstT : CallR X (.builtin "isinstance") (fun xs H Q => ∃ (x : V) (tp : Addr) (Ts : List String) (t : Value) (b : Bool), xs = [x, .ref tp] ∧ H tp = some (.tup (Ts.map V.ty)) ∧ TyS H x t ∧ PySem.W.kitAny X.K t (Ts.map Value.type) = some b ∧ Q (.bl b) H) := by
  intro pins s σ H xs us Q I r h
  obtain ⟨x, tp, Ts, t, b, rfl, htp, ty, e, q⟩ := h
  obtain ⟨u, u2, rfl, r1, r2⟩ := vals2 r
  cases r2
  obtain ⟨_, its, rv, ⟨oc, od, oa, osl⟩, h1, h2, h3, n, h4⟩ := (show ObjOk X.prog X.w H s.heap tp (.tup (Ts.map V.ty)) from I.hok tp _ htp)
  dsimp only at h2 h3 h4
  subst h2; subst h3; subst h4
  rw [tys_vals rv] at h1
  have fin : ∀ tk, EP X pins σ Q (.bool b) { s with toks := tk } := fun tk => ⟨.bl b, H, I.tok _, rfl, q⟩
  cases ty with
  | int i => obtain ⟨t, z⟩ := (show ∃ t, u = Value.int i t from r1); cases z; exact PySem.W.kia_tup PySem.W.kitx_int I.kIn True.intro h1 e (fun z => nomatch z) fin
  | bl y => cases (show u = Value.bool y from r1); exact PySem.W.kia_tup PySem.W.kitx_bool I.kIn True.intro h1 e (fun z => nomatch z) fin
  | @lst a xs ea =>
    cases (show u = Value.ref a from r1)
    obtain ⟨_, _, n, _, g1⟩ := (show ObjOk X.prog X.w H s.heap a (.lst xs) from I.hok a _ ea)
    exact PySem.W.kia_tup PySem.W.kitx_list I.kIn ⟨_, g1, rfl⟩ h1 e (fun z => nomatch z) fin
  | @tup a xs ea =>
    cases (show u = Value.ref a from r1)
    obtain ⟨_, _, _, o, g1, g2, _⟩ := (show ObjOk X.prog X.w H s.heap a (.tup xs) from I.hok a _ ea)
    exact PySem.W.kia_tup PySem.W.kitx_tuple I.kIn ⟨o, g1, g2⟩ h1 e (fun z => nomatch z) fin
end
end L2

set_option Elab.async false
set_option linter.all false
set_option maxRecDepth 100000
set_option maxHeartbeats 4000000
namespace L2
open PySem PySem.Spec PyProof.Rows
section
variable {X : Cx}
end
end L2

set_option Elab.async false
set_option linter.all false
set_option maxRecDepth 100000
set_option maxHeartbeats 4000000
namespace Lv
open PySem L2
theorem kitLT_list {K : PySem.W.Frag} : PySem.W.kitAny K (.type "list") (["list", "tuple"].map Value.type) = some true := by with_unfolding_all rfl
def spTupOf : Sp := fun vs H Q _ => ∃ (a : Addr) (xs : List V) (n : Int), vs = [.ref a, .int n] ∧ H a = some (.tup xs) ∧ (xs.length : Int) = n ∧ Q (.bl true) H
end Lv

set_option Elab.async false
set_option linter.all false
set_option maxRecDepth 100000
set_option maxHeartbeats 4000000
namespace Lv
open PySem L2 PySem.Spec PyProof.Rows
/-- a def of the text with defaults, which lie in the tuple at da -/
structure FunD (K : PySem.W.Frag) (x qual : Str) (st : Stmt) (f da : Addr) (fd : FuncData) : Prop where
  ex : ∃ (oc : Value) (od : Option Addr) (kV doc pm : Value) (an : Option Addr) (cdv ct : Value) (osl : Array (Option Value)),
    fd = PySem.W.fnOf x qual (defArgs st) (defBody st) (defScope st) (.ref da) kV doc pm an cdv ct ∧ K.lookup f = some ⟨oc, od, .func fd, osl⟩ ∧ PySem.W.codeIn K cdv qual = true
  kp : PySem.W.keepIn K (.ref f) = true
section
variable {P : Program} {w : World} {K : PySem.W.Frag} {mg : Str → Option Value} {base : Heap}
end
/-- such a def, called with the last places left to their defaults dvs -/
structure CalD (P : Program) (w : World) (K : PySem.W.Frag) (mg : Str → Option Value) (base : Heap) (k : Nat) (x : Str) (ps : List Str) (dvs : List V) (sp : Sp) (f : Addr) (fd : FuncData) : Prop where
  ok : FnOk P w K mg base CX0 k f fd ps sp
  mg : mg x = some (.ref f)
  kp : PySem.W.keepIn K (.ref f) = true
  bd : ∃ ds, Binds K fd ps ds ∧ Vals dvs ds
end Lv

set_option Elab.async false
set_option linter.all false
set_option maxRecDepth 100000
set_option maxHeartbeats 4000000
namespace L2
open PySem PySem.Spec PyProof.Rows
/-! ### runs that leave every object's dict as it is -/
/-- every object's own dict is what it was -/
def DK (h h' : Heap) : Prop := ∀ (b : Nat) (o : Obj), h.objs[b]? = some o → ∃ o' : Obj, h'.objs[b]? = some o' ∧ o'.dict = o.dict
theorem DK.refl (h : Heap) : DK h h := fun _ o e => ⟨o, e, rfl⟩
theorem DK.trans {a b c : Heap} (x : DK a b) (y : DK b c) : DK a c := fun i o e => by
  obtain ⟨o1, e1, d1⟩ := x i o e
  obtain ⟨o2, e2, d2⟩ := y i o1 e1
  exact ⟨o2, e2, d2.trans d1⟩
theorem raw_of {h : Heap} {a : Addr} {o : Obj} (e : h.get? a = some o) : h.objs[a]? = some o := (Heap.get?_some_iff.mp e).1
theorem DK.at {h h' : Heap} {a : Addr} {o o' : Obj} (x : DK h h') (e : h.get? a = some o) (e' : h'.get? a = some o') : o'.dict = o.dict := by
  obtain ⟨o2, q1, q2⟩ := x a o (raw_of e)
  rw [raw_of e'] at q1
  cases q1
  exact q2
theorem DK.push (h : Heap) (o : Obj) : DK h (h.push o) := fun b ob e => ⟨ob, by
  have hb : b < h.objs.size := (Array.getElem?_eq_some_iff.mp e).1
  unfold Heap.push
  show (h.objs.push o)[b]? = some ob
  rw [Array.getElem?_push_lt hb]
  exact (Array.getElem?_eq_some_iff.mp e).2 ▸ rfl, rfl⟩
theorem DK.update (h : Heap) (a : Addr) (f : Obj → Obj) (hf : ∀ o, (f o).dict = o.dict) : DK h (h.update a f) := fun b ob e => by
  by_cases z : a = b
  · subst z
    exact ⟨f ob, by unfold Heap.update; simp [Array.getElem?_modify, e], hf ob⟩
  · exact ⟨ob, by unfold Heap.update; simp [Array.getElem?_modify, z, e], rfl⟩
/-- no call, and no step that changes a dict of an object's own -/
def DC {α : Type} : Sem α → Prop
  | .pure _ => True
  | .raise _ => True
  | .unsupported _ => True
  | .rule _ k => DC (k ())
  | .at _ k => DC (k ())
  | .load _ _ k => ∀ o, DC (k o)
  | .update _ _ f k => (∀ o, (f o).dict = o.dict) ∧ DC (k ())
  | .alloc _ k => ∀ a, DC (k a)
  | .loadIfAlive _ k => ∀ o, DC (k o)
  | .point _ k => DC (k ())
  | .fresh k => ∀ t, DC (k t)
  | .ask k => ∀ x, DC (k x)
  | .handled _ k => ∀ v, DC (k v)
  | .stack k => ∀ l, DC (k l)
  | _ => False
theorem dc_bind {α β : Type} {m : Sem α} {f : α → Sem β} (hm : DC m) (hf : ∀ a, DC (f a)) : DC (m >>= f) := by
  show DC (m.bind f)
  induction m with
  | pure a => exact hf a
  | raise e => trivial
  | unsupported w => trivial
  | rule t k ih => exact ih () hm
  | «at» p k ih => exact ih () hm
  | load a p k ih => exact fun o => ih o (hm o)
  | update a p g k ih => exact ⟨hm.1, ih () hm.2⟩
  | alloc o k ih => exact fun a => ih a (hm a)
  | loadIfAlive a k ih => exact fun o => ih o (hm o)
  | point l k ih => exact ih () hm
  | fresh k ih => exact fun a => ih a (hm a)
  | ask k ih => exact fun a => ih a (hm a)
  | handled w k ih => exact fun a => ih a (hm a)
  | stack k ih => exact fun a => ih a (hm a)
  | finish _ => exact hm.elim
  | register _ _ _ => exact hm.elim
  | choose _ _ _ _ => exact hm.elim
  | os _ _ _ _ => exact hm.elim
  | call _ _ _ _ _ _ => exact hm.elim
  | newGen _ _ _ => exact hm.elim
  | genState _ _ _ => exact hm.elim
  | resume _ _ _ _ _ => exact hm.elim
  | yield _ _ _ _ _ => exact hm.elim
  | fork _ _ _ => exact hm.elim
  | thread _ _ => exact hm.elim
  | await _ _ _ _ _ _ => exact hm.elim
theorem wp_dk {α : Type} (M : Model) (Γ : PySem.Ctx) {t : Sem α} (d : DC t) : ∀ (Q : α → Pos → Shared → Prop) (E : Value → Pos → Shared → Prop) (p : Pos) (s : Shared), Sem.wp M Γ t Q E p s →
    Sem.wp M Γ t (fun a p' s' => Q a p' s' ∧ DK s.heap s'.heap) (fun e p' s' => E e p' s' ∧ DK s.heap s'.heap) p s := by
  have up : ∀ {α : Type} {t : Sem α} {Q : α → Pos → Shared → Prop} {E : Value → Pos → Shared → Prop} {p : Pos} {s : Shared} {h0 h1 : Heap}, DK h0 h1 →
      Sem.wp M Γ t (fun a p' s' => Q a p' s' ∧ DK h1 s'.heap) (fun e p' s' => E e p' s' ∧ DK h1 s'.heap) p s → Sem.wp M Γ t (fun a p' s' => Q a p' s' ∧ DK h0 s'.heap) (fun e p' s' => E e p' s' ∧ DK h0 s'.heap) p s := fun k h =>
    Sem.wp_mono M Γ _ (fun _ _ _ z => ⟨z.1, k.trans z.2⟩) (fun _ _ _ z => ⟨z.1, k.trans z.2⟩) _ _ h
  induction t with
  | pure a => exact fun _ _ _ _ h => ⟨h, .refl _⟩
  | raise e => exact fun _ _ _ _ h => ⟨h, .refl _⟩
  | unsupported w => exact fun _ _ _ _ h => h
  | rule t k ih => exact fun _ _ _ _ h => ih () d _ _ _ _ h
  | «at» p k ih => exact fun _ _ _ _ h => ih () d _ _ _ _ h
  | load a p k ih => exact fun _ _ _ _ ⟨o, ho, h⟩ => ⟨o, ho, ih o (d o) _ _ _ _ h⟩
  | update a p g k ih => exact fun _ _ _ _ ⟨ho, h⟩ => ⟨ho, up (.update _ _ _ d.1) (ih () d.2 _ _ _ _ h)⟩
  | alloc o k ih => exact fun _ _ _ _ h => up (.push _ _) (ih _ (d _) _ _ _ _ h)
  | loadIfAlive a k ih => exact fun _ _ _ _ h => ih _ (d _) _ _ _ _ h
  | point l k ih => exact fun _ _ _ _ h => ih () d _ _ _ _ h
  | fresh k ih => exact fun _ _ _ _ h => ih _ (d _) _ _ _ _ h
  | ask k ih => exact fun _ _ _ _ h => ih _ (d _) _ _ _ _ h
  | handled w k ih => exact fun _ _ _ _ h => ih _ (d _) _ _ _ _ h
  | stack k ih => exact fun _ _ _ _ h => ih _ (d _) _ _ _ _ h
  | finish _ => exact d.elim
  | register _ _ _ => exact d.elim
  | choose _ _ _ _ => exact d.elim
  | os _ _ _ _ => exact d.elim
  | call _ _ _ _ _ _ => exact d.elim
  | newGen _ _ _ => exact d.elim
  | genState _ _ _ => exact d.elim
  | resume _ _ _ _ _ => exact d.elim
  | yield _ _ _ _ _ => exact d.elim
  | fork _ _ _ => exact d.elim
  | thread _ _ => exact d.elim
  | await _ _ _ _ _ _ => exact d.elim
theorem wpAny_dk {α : Type} {M : Model} {A : Around} {t : Sem α} {Q : α → Shared → Prop} {E : Value → Shared → Prop} {s : Shared} (d : DC t) (h : wpAny M A t (fun a s' => DK s.heap s'.heap → Q a s') (fun e s' => DK s.heap s'.heap → E e s') s) : wpAny M A t Q E s :=
  fun Γ p hΓ => Sem.wp_mono M Γ t (fun _ _ _ z => z.1 z.2) (fun _ _ _ z => z.1 z.2) p s (wp_dk M Γ d _ _ _ _ (h Γ p hΓ))
theorem dc_load {a : Addr} : DC (load a) := fun _ => trivial
theorem dc_stack : DC stack := fun _ => trivial
theorem dc_mapF {o : Obj} {f : Array Value → Array Value} : (Obj.mapFields f o).dict = o.dict := by
  unfold Obj.mapFields
  split <;> rfl
theorem dc_field {v : Value} {i : Nat} : DC (field v i) := by
  unfold field fieldsOf
  repeat (first | trivial | exact dc_load | (refine dc_bind ?_ fun _ => ?_) | split)
theorem dc_setField {v : Value} {i : Nat} {x : Value} : DC (setField v i x) := by
  unfold setField updateField
  repeat (first | trivial | exact dc_load | exact ⟨fun _ => dc_mapF, trivial⟩ | (refine dc_bind ?_ fun _ => ?_) | split)
theorem dc_setFlight {v : Value} {f : Option Addr} : DC (setFlight v f) := by
  unfold setFlight
  repeat (first | trivial | exact dc_field | exact dc_setField | (refine dc_bind ?_ fun _ => ?_) | split)
theorem dc_ready : ∀ l : List Env, DC (readyFrames l)
  | [] => trivial
  | env :: outer => by
    unfold readyFrames behindIsImport keptBack underTheClaimsCaller
    repeat (first | trivial | exact dc_load | exact dc_stack | exact dc_field | exact dc_ready outer | exact ⟨fun _ => rfl, trivial⟩ | (refine dc_bind ?_ fun _ => ?_) | split)
theorem dc_frameOf {env : Env} : DC (PySem.frameOf env) := by
  unfold PySem.frameOf frameEnvs
  refine dc_bind (dc_bind dc_stack fun _ => trivial) fun l => dc_bind ?_ fun o => ?_
  · generalize (List.dropWhile (fun x => x.frame != env.frame) l) = m
    cases m with
    | nil => trivial
    | cons e r => exact dc_bind (dc_ready _) fun _ => trivial
  · split <;> trivial
theorem dc_noteFrame {e : Value} {env : Env} : DC (noteFrame e env) := by
  unfold noteFrame EntryCells.newEntry newFields newObj newObjAsIs entryPlaceOf
  repeat (first | trivial | exact dc_field | exact dc_setField | exact dc_frameOf | exact dc_stack | exact fun _ => trivial | (refine dc_bind ?_ fun _ => ?_) | split)
theorem dc_leaving {e : Value} {env : Env} : DC (leaving env e) := dc_bind dc_noteFrame fun _ => dc_setFlight
end L2

set_option Elab.async false
set_option linter.all false
set_option maxRecDepth 100000
set_option maxHeartbeats 4000000
namespace L2
open PySem PySem.Spec PyProof.Rows
/-! ### exceptions: how one lies in the heap while it flies -/
theorem ObjOk.there {P : Program} {w : World} {H : Hp} {h : Heap} {a : Addr} {o : HO} (x : ObjOk P w H h a o) : ∃ ob, h.get? a = some ob := by
  cases o with
  | lst xs => obtain ⟨_, _, _, _, e⟩ := x; exact ⟨_, e⟩
  | tup xs => obtain ⟨_, _, _, o, e, _⟩ := x; exact ⟨_, e⟩
  | dK kvs => obtain ⟨_, _, _, _, o, _, _, e, _⟩ := x; exact ⟨_, e⟩
  | dT kvs => obtain ⟨_, _, _, _, o, _, _, e, _⟩ := x; exact ⟨_, e⟩
  | set S n => obtain ⟨o, _, _, _, e, _⟩ := x; exact ⟨_, e⟩
  | ins C dx fs => obtain ⟨_, _, _, e, _⟩ := x; exact ⟨_, e⟩
  | own y => exact x
  | xd fs => obtain ⟨_, ⟨_, _, _, e, _⟩, _⟩ := x; exact ⟨_, e⟩
  | rng lo hi => obtain ⟨_, _, _, e⟩ := x; exact ⟨_, e⟩
  | frz ob u => obtain ⟨e, _⟩ := x; exact ⟨_, e⟩
  | tbl ps => exact ⟨_, (show h.get? a = some _ from x)⟩
  | met f y => exact ⟨_, (show h.get? a = some _ from x)⟩
  | ext φ => obtain ⟨_, e, _⟩ := x; exact e
theorem HOk.none_of {P : Program} {w : World} {H : Hp} {h : Heap} {a : Addr} (x : HOk P w H h) (e : h.get? a = none) : H a = none := by
  cases q : H a with
  | none => rfl
  | some o => obtain ⟨ob, z⟩ := (x a o q).there; rw [e] at z; cases z
/-- the heap without some addresses -/
def hideL (h : Heap) : List Addr → Heap
  | [] => h
  | a :: r => (hideL h r).hide a
theorem hideL_mem {h : Heap} : ∀ {l : List Addr} {a : Addr}, a ∈ l → (hideL h l).get? a = none
  | b :: r, a, m => by
    by_cases e : a = b
    · subst e; exact Heap.hide_self _ _
    · rw [hideL, Heap.hide_ne _ e]
      exact hideL_mem ((List.mem_cons.mp m).resolve_left e)
theorem hideL_ne {h : Heap} : ∀ {l : List Addr} {a : Addr}, a ∉ l → (hideL h l).get? a = h.get? a
  | [], _, _ => rfl
  | b :: r, a, n => by
    rw [hideL, Heap.hide_ne _ (fun e => n (by rw [e]; exact List.mem_cons_self))]
    exact hideL_ne fun z => n (List.mem_cons_of_mem _ z)
theorem hideL_stays {h : Heap} {l : List Addr} : (hideL h l).StaysIn h := fun b o e => by
  by_cases m : b ∈ l
  · rw [hideL_mem m] at e; cases e
  · rwa [hideL_ne m] at e
theorem frames_hide {h base B : Heap} : ∀ {l : List Env}, h.FunFrames base l → (∀ b ∈ frs l, B.get? b = none) → h.FunFrames B l
  | [], _, _ => trivial
  | env :: rest, ⟨hk, ⟨L, o, hf, hn, ho, hd⟩, hr⟩, n => ⟨hk, ⟨L, o, hf, n L (by unfold frs; rw [List.filterMap_cons, hf]; exact List.mem_cons_self), ho, hd⟩, frames_hide hr fun b hb => n b (by
      unfold frs
      rw [List.filterMap_cons, hf]
      exact List.mem_cons_of_mem _ hb)⟩
/-- all but Z is kept; of the frames fs the slots may change -/
theorem Un.hide {fs Z : List Addr} {H H' : Hp} {h h1 h2 : Heap} (u : Un fs [] H H' h h1) (hz : ∀ z ∈ Z, z ∈ fs ∨ h.get? z = none) (k : ∀ b o, h1.get? b = some o → b ∉ Z → h2.get? b = some o)
    (ks : ∀ b ∈ fs, ∀ o, h1.get? b = some o → ∃ sl, h2.get? b = some { o with slots := sl }) : Un fs [] H H' h h2 where
  keep := fun b o e n hb hx => k b o (u.keep b o e n hb hx) fun z => by
    rcases hz b z with y | y
    · exact hb y
    · rw [e] at y; cases y
  slot := fun b o e n hb hx => by
    obtain ⟨sl, e1⟩ := u.slot b o e n hb hx
    obtain ⟨sl', e2⟩ := ks b hb _ e1
    exact ⟨sl', e2⟩
  free := u.free
  there := fun b o e hx => by
    obtain ⟨o', e1⟩ := u.there b o e hx
    by_cases m : b ∈ Z
    · rcases hz b m with y | y
      · obtain ⟨sl, e2⟩ := ks b y _ e1; exact ⟨_, e2⟩
      · rw [e] at y; cases y
    · exact ⟨_, k b _ e1 m⟩
  tups := u.tups
  frzs := u.frzs
  tbls := u.tbls
theorem HOk.hide {P : Program} {w : World} {H : Hp} {h1 h2 : Heap} {Z : List Addr} (x : HOk P w H h1) (hz : ∀ z ∈ Z, H z = none) (k : ∀ b o, h1.get? b = some o → b ∉ Z → h2.get? b = some o) : HOk P w H h2 := fun a o e =>
  (x a o e).stay (fun b u hb hu => k b u hu fun z => by
    have := hz b z
    rcases hb with rfl | hb
    · rw [e] at this; cases this
    · rw [hb] at this; cases this) (fun _ z => z) fun _ _ z => z
/-- the exception at ea of the class cls with the own dict od, its traceback at T: both new since h0, neither tracked -/
def Fly (H : Hp) (h0 h : Heap) (ea : Addr) (cls : Value) (od : Option Addr) (fl : Value) : Prop :=
  ∃ (a0 : Value) (T : Addr) (oe oT : Obj) (vs ts : Array Value), (H ea = none ∧ H T = none ∧ h0.get? ea = none ∧ h0.get? T = none) ∧
    h.get? ea = some oe ∧ ((oe.cls = cls ∧ vs[0]? = some a0) ∧ oe.dict = od) ∧ oe.data = .fields vs ∧ vs[1]? = some (.ref T) ∧ T ≠ ea ∧ h.get? T = some oT ∧ oT.data = .fields ts ∧ ts[3]? = some fl
/-- behind a call that ends by an exception -/
def CX1 (P : Program) (w : World) : CXT := fun outer H s E e s' => ∃ (ea : Addr) (cls : Value) (od : Option Addr) (H' : Hp), e = .ref ea ∧ s'.os = s.os ∧ AllBare s'.gens ∧ Un (frs outer) [] H H' s.heap s'.heap ∧ HOk P w H' s'.heap ∧ Fly H' s.heap s'.heap ea cls od .none ∧ E cls od H'
/-- from a TracedW over the hidden heap: a Fly -/
theorem fly_of {P : Program} {w : World} {l : List Env} {H : Hp} {h0 h1 h2 base : Heap} {ea : Addr} {cls a0 fl : Value} {od : Option Addr} {Z : List Addr} (hok : HOk P w H h1) (hZ : ∀ z ∈ Z, z ∉ frs l → z ≠ ea → H z = none ∧ h0.get? z = none) (hea : H ea = none) (he0 : h0.get? ea = none)
    (hl : h1.FunFrames base l) (hs : h1.UpToSlots h2) (h01 : ∀ b o, h0.get? b = some o → ∃ o', h1.get? b = some o') (t : h2.TracedAtW (hideL h1 Z) ea cls a0 fl) (hod : ∀ o, h2.get? ea = some o → o.dict = od) : Fly H h0 h2 ea cls od fl := by
  obtain ⟨oe, vs, T, oT, ts, he, hc, hd, hv1, hnT, hTe, hT, hdT, h3⟩ := t
  refine ⟨a0, T, oe, oT, vs, ts, ?_, he, ⟨hc, hod oe he⟩, hd, hv1, hTe, hT, hdT, h3⟩
  have hTf : T ∉ frs l := fun m => by
    obtain ⟨_, o, ho, hnf⟩ := hl.mem m
    obtain ⟨sl, hs'⟩ := hs T o ho hnf
    rw [hT] at hs'
    cases hs'
    exact hnf ts hdT
  by_cases m : T ∈ Z
  · obtain ⟨q1, q2⟩ := hZ T m hTf hTe
    exact ⟨hea, q1, he0, q2⟩
  · rw [hideL_ne m] at hnT
    refine ⟨hea, hok.none_of hnT, he0, ?_⟩
    cases q : h0.get? T with
    | none => rfl
    | some o => obtain ⟨o', z⟩ := h01 T o q; rw [hnT] at z; cases z
/-! ### a def that lets exceptions leave -/
/-- a new exception, raised here, reaches what this body wants -/
def Takes (X : Cx) (E : XK) : Prop := ∀ (pins : List (Addr × Obj)) (σ : St) (H : Hp) (s : Shared) (ea : Addr) (oe : Obj) (vs : Array Value) (a0 : Value), Inv X pins σ H s → H ea = none → X.s₀.heap.get? ea = none → s.heap.get? ea = some oe → oe.data = .fields vs → vs[1]? = some .none → vs[0]? = some a0 → E oe.cls oe.dict H → X.xe (.ref ea) s
section
variable {P : Program} {w : World} {K : PySem.W.Frag} {mg : Str → Option Value} {base : Heap} {N : List Str} {qual : Str} {scope : Scope} {f : Addr} {cd : Value} {A : Around} {outer : List Env} {s : Shared} {H : Hp} {E : XK}
theorem loc_fr (X : Cx) (hs : X.stack = X.env :: X.outer) (hf : X.env.frame = some X.env.locals) : frs X.stack = X.env.locals :: X.fs := by
  unfold Cx.fs frs
  rw [hs, List.filterMap_cons, hf]
theorem takes1 : Takes (cxOf (CX1 P w) P w K mg base N qual scope f cd A outer s H E) E := by
  intro pins σ H1 s1 ea oe vs a0 I hea hen he hd h1 h0 hE
  let X := cxOf (CX1 P w) P w K mg base N qual scope f cd A outer s H E
  have hst : frs X.stack = X.env.locals :: X.fs := loc_fr X rfl rfl
  have hfr : X.A.frames = some (X.env :: outer) := I.ok.frames
  have hff : s1.heap.FunFrames X.base X.stack := I.stack
  have hB : ∀ b ∈ frs X.stack, (hideL s1.heap (ea :: frs X.stack)).get? b = none := fun b hb => hideL_mem (List.mem_cons_of_mem _ hb)
  refine wpAny_dk dc_leaving (wpAny_leaving_firstW (base := hideL s1.heap (ea :: frs X.stack)) hfr (frames_hide hff hB) rfl he hideL_stays (hideL_mem List.mem_cons_self) hd h1 h0 fun h' hL dk => ?_)
  obtain ⟨k1, k2, k3, k4⟩ := hL
  have hkeep : ∀ b o, s1.heap.get? b = some o → b ∉ (ea :: frs X.stack) → h'.get? b = some o := fun b o e n => k1 b o (by rw [hideL_ne n]; exact e)
  have hloc : X.s₀.heap.get? X.env.locals = none := Heap.get?_none_of_le I.ok.above
  have hzl : ∀ z ∈ ea :: frs X.stack, z ∈ frs outer ∨ X.s₀.heap.get? z = none := fun z hz => by
    rcases List.mem_cons.mp hz with rfl | hz
    · exact .inr hen
    · rw [hst] at hz
      rcases List.mem_cons.mp hz with rfl | hz
      · exact .inr hloc
      · exact .inl hz
  refine ⟨ea, oe.cls, oe.dict, H1, rfl, I.os, I.bare, Un.hide (Z := ea :: frs X.stack) I.base hzl hkeep ?_, I.hok.hide (Z := ea :: frs X.stack) ?_ hkeep, ?_, hE⟩
  · intro b hb o e
    have hm : b ∈ frs X.stack := by rw [hst]; exact List.mem_cons_of_mem _ hb
    obtain ⟨_, o', ho', hnf⟩ := hff.mem hm
    rw [e] at ho'
    cases ho'
    exact k4 b o e hnf
  · intro z hz
    rcases List.mem_cons.mp hz with rfl | hz
    · exact hea
    · exact I.stkFree z hz
  · refine fly_of (l := X.stack) (Z := ea :: frs X.stack) I.hok (fun z hz hf hne => ?_) hea hen hff k4 (fun b o e => I.base.there b o e (by intro z; cases z)) k3 (fun o q => dk.at he q)
    rcases List.mem_cons.mp hz with z | z
    · exact absurd z hne
    · exact absurd z hf
theorem passes1 : Passes (CX1 P w) (cxOf (CX1 P w) P w K mg base N qual scope f cd A outer s H E) E := by
  intro pins σ H1 s1 e s' I hcx
  obtain ⟨ea, cls, od, H', rfl, os', bare', un', hok', hfly, hE⟩ := hcx
  let X := cxOf (CX1 P w) P w K mg base N qual scope f cd A outer s H E
  have J : Inv X pins σ H' s' := I.call' (ch := []) os' un' hok' bare' fun b z => absurd z (by simp)
  obtain ⟨a0, T, oe, oT, vs, ts, ⟨f1, f2, f3, f4⟩, he, ⟨hc, hod⟩, hd, hv1, hTe, hT, hdT, h3⟩ := hfly
  have hst : frs X.stack = X.env.locals :: X.fs := loc_fr X rfl rfl
  have hfr : X.A.frames = some (X.env :: outer) := J.ok.frames
  have hff : s'.heap.FunFrames X.base X.stack := J.stack
  have h01 : ∀ b o, X.s₀.heap.get? b = some o → ∃ o', s1.heap.get? b = some o' := fun b o e => I.base.there b o e (by intro z; cases z)
  have n0 : ∀ z, s1.heap.get? z = none → X.s₀.heap.get? z = none := fun z e => by
    cases q : X.s₀.heap.get? z with
    | none => rfl
    | some o => obtain ⟨o', y⟩ := h01 z o q; rw [e] at y; cases y
  let Z := ea :: T :: frs X.stack
  have hB : ∀ b ∈ frs X.stack, (hideL s'.heap Z).get? b = none := fun b hb => hideL_mem (List.mem_cons_of_mem _ (List.mem_cons_of_mem _ hb))
  refine wpAny_dk dc_leaving (wpAny_leaves_onW (base := hideL s'.heap Z) hfr rfl ⟨hideL_stays, hideL_mem List.mem_cons_self, frames_hide hff hB, ⟨oe, vs, T, oT, ts, he, hc, hd, hv1, hideL_mem (List.mem_cons_of_mem _ List.mem_cons_self), hTe, hT, hdT, h3⟩⟩ fun h' hL k4 dk => ?_)
  obtain ⟨k1, k2, k2', k3⟩ := hL
  have hkeep : ∀ b o, s'.heap.get? b = some o → b ∉ Z → h'.get? b = some o := fun b o e n => k1 b o (by rw [hideL_ne n]; exact e)
  have hloc : X.s₀.heap.get? X.env.locals = none := Heap.get?_none_of_le J.ok.above
  have hzl : ∀ z ∈ Z, z ∈ frs outer ∨ X.s₀.heap.get? z = none := fun z hz => by
    rcases List.mem_cons.mp hz with rfl | hz
    · exact .inr (n0 _ f3)
    · rcases List.mem_cons.mp hz with rfl | hz
      · exact .inr (n0 _ f4)
      · rw [hst] at hz
        rcases List.mem_cons.mp hz with rfl | hz
        · exact .inr hloc
        · exact .inl hz
  refine ⟨ea, cls, od, H', rfl, J.os, J.bare, Un.hide (Z := Z) J.base hzl hkeep ?_, J.hok.hide (Z := Z) ?_ hkeep, ?_, hE⟩
  · intro b hb o e
    have hm : b ∈ frs X.stack := by rw [hst]; exact List.mem_cons_of_mem _ hb
    obtain ⟨_, o', ho', hnf⟩ := hff.mem hm
    rw [e] at ho'
    cases ho'
    exact k4 b o e hnf
  · intro z hz
    rcases List.mem_cons.mp hz with rfl | hz
    · exact f1
    · rcases List.mem_cons.mp hz with rfl | hz
      · exact f2
      · exact J.stkFree z hz
  · refine fly_of (l := X.stack) (Z := Z) J.hok (fun z hz hf hne => ?_) f1 (n0 _ f3) hff k4 (fun b o e => J.base.there b o e (by intro z; cases z)) k3 (fun o q => (dk.at he q).trans hod)
    rcases List.mem_cons.mp hz with z | z
    · exact absurd z hne
    · rcases List.mem_cons.mp z with rfl | z
      · exact ⟨f2, n0 _ f4⟩
      · exact absurd z hf
end
end L2

set_option Elab.async false
set_option linter.all false
set_option maxRecDepth 100000
set_option maxHeartbeats 4000000
namespace L2
open PySem PySem.Spec PyProof.Rows PySem.W
section
variable {prog : Program} {w : World} {A : Around} {E : Value → Shared → Prop} {s : Shared} {K : Frag} {x C D : Addr} {ox : Obj}
theorem exc_find {M : Model} {h : Heap} {n : Str} {a g : Value} (X : K.In h) (ha : findIn K (.ref D) n = some (some a)) (hg : specialIn K a "__get__" = some (some g)) (ht : takesIn K a = some true) : Looks M h (Builtin.ObjectAttr.find (.ref x) (.ref D) n) (.bind g a) := by
  have L1 := looks_findIn (M := M) X ha
  have L2 : Looks M h (Builtin.ObjectAttr.getOf (some a)) (some g) := looks_specialIn X hg
  have L3 : Looks M h (Builtin.ObjectAttr.dataDescriptor? (some a) (some g)) (some (g, a)) := (looks_takesIn X ht).andThen .now
  exact L1.andThen (L2.andThen (L3.andThen (Looks.tag .now)))
theorem exc_get {tp : Value} {R : Result → Shared → Prop} (X : K.In s.heap) (LT : Looks (model prog w) s.heap (typeOf (.ref x)) (.ref C)) (hm : mroIn K C (.type "object") = some true)
    (h : R (.ok (.ret (.ref C))) s) : codeAny (model prog w) A (.call (.builtin "getset_descriptor.__get__") ⟨[.builtin "object.__class__", .ref x, tp], []⟩) R s := by
  have L1 := looks_mroIn (M := model prog w) X hm
  obtain ⟨hh, g, dr, t, os⟩ := s
  refine codeAny_call_builtin KF.slot_gs.plain KF.entry_gs (KF.slot_gs.check _ _ _ _ _ _ _ _ KF.type_class (KF.args_gs _ _ _) (?_))
  unfold Builtin.«getset_descriptor.__get__»
  unfold Builtin.Getset_descriptor.descrGet
  rw [dga_obj]
  refine wpAny_bind (wpAny_pure ?_)
  unfold Builtin.Getset_descriptor.descrGetter
  unfold Builtin.Getset_descriptor.descrCheckInstance
  unfold Builtin.Getset_descriptor.descrNameAndClass isInstance
  simp only [KF.owner_class]
  repeat lk
  refine ⟨Code.quiet_builtin _ (by decide +kernel), (codeAny_builtin KF.entry_class ?_)⟩
  unfold Builtin.«object.__class__»
  unfold shownTypeOf
  repeat lk
  exact h
theorem exc_entry {tk : Tok} {Q : Fin → Shared → Prop} (X : K.In s.heap) (L0 : Looks (model prog w) s.heap (typeOf (.ref x)) (.ref D)) (L1 : Looks (model prog w) s.heap (Builtin.ObjectAttr.find (.ref x) (.ref D) "__class__") (.bind (.builtin "getset_descriptor.__get__") (.builtin "object.__class__"))) (hm : mroIn K D (.type "object") = some true)
    (hq : Q (.done (.ret (.ref D))) s) : wpAny (model prog w) A (Builtin.«object.__getattribute__» ⟨[.ref x, .str "__class__" tk], []⟩) Q E s := by
  obtain ⟨hh, gg, d, t, os⟩ := s
  unfold Builtin.«object.__getattribute__»
  refine wpAny_bind (wpAny_pure (wpAny_bind (wpAny_pure (wpAny_bind (L0.at (wpAny_bind (L1.at ?_)))))))
  dsimp only
  unfold Builtin.ObjectAttr.bindTo
  dsimp only
  refine wpAny_bind (wpAny_holding (wpAny_call (exc_get X L0 hm ?_)))
  exact wpAny_pure hq
theorem exc_class {Q : Option Value → Shared → Prop} (X : K.In s.heap) (L0 : Looks (model prog w) s.heap (typeOf (.ref x)) (.ref D)) (hga : findIn K (.ref D) "__getattribute__" = some (some (.builtin "BaseException.__getattribute__"))) (hk : findIn K (.ref D) "__getattr__" = some none) (hbx : mroIn K D (.type "BaseException") = some true)
   (hf : Looks (model prog w) s.heap (Builtin.ObjectAttr.find (.ref x) (.ref D) "__class__") (.bind (.builtin "getset_descriptor.__get__") (.builtin "object.__class__"))) (hm : mroIn K D (.type "object") = some true)
   (h : Q (some (.ref D)) { s with toks := s.toks + 1 }) : wpAny (model prog w) A (getAttr? (.ref x) "__class__") Q E s := by
  obtain ⟨hh, g, d, t, os⟩ := s
  have L1 := looks_findIn (M := model prog w) X hga
  have L2 := looks_findIn (M := model prog w) X hk
  have L3 := looks_mroIn (M := model prog w) X hbx
  unfold getAttr? getAttrBy? getAttrBy
  refine wpAny_bind (wpAny_mkText (wpAny_bind (wpAny_attempt (wpAny_holding (wpAny_bind (L0.at (wpAny_bind (L1.at (?_)))))))))
  have hx2 : (Value.builtin "BaseException.__getattribute__" == Value.builtin "object.__getattribute__") = false := by decide +kernel
  dsimp only
  rw [hx2, Bool.and_false, if_neg Bool.false_ne_true]
  unfold getAttrByItsOwn hookBefore onTheHeap
  dsimp only
  rw [if_pos rfl]
  refine wpAny_bind (L2.at (wpAny_bind (wpAny_attempt (wpAny_holding ?_))))
  unfold callGetattribute boundAndCalled onTheHeap
  dsimp only
  rw [Bool.and_false, if_neg Bool.false_ne_true]
  have f3 := F.attr_ValueError.ga.bind (.ref x)
  refine wpAny_bind (wpAny_of_eq f3 ?_)
  refine wpAny_call (codeAny_call_builtin F.attr_ValueError.ga.plain F.entry_bexc_ga ?_)
  have hk1 : builtinKind "BaseException.__getattribute__" = some .slot := by decide +kernel
  have hs1 : splitId "BaseException.__getattribute__" = some ("BaseException", "__getattribute__") := by decide +kernel
  have ha := F.args_bexc_ga (.ref x) (.str "__class__" t)
  simp only [checkBuiltinCall, hk1, hs1]
  refine wpAny_bind ?_
  unfold isInstance
  refine wpAny_bind (L0.at ?_)
  refine L3.at ?_
  rw [if_neg (by decide)]
  repeat (first | assumption | refine exc_entry X L0 hf hm ?_ | wp_step)
/-- what the text's own exception class is like -/
def excRest (K : Frag) (C : Addr) : Bool := findIn K (.ref C) "__getattribute__" == some (some (.builtin "BaseException.__getattribute__")) && (findIn K (.ref C) "__getattr__" == some none &&
  (findIn K (.ref C) "__class__" == some (some (.builtin "object.__class__")) && (mroIn K C (.type "object") == some true && (mroIn K C (.type "BaseException") == some true && ((clsIn K C).isSome &&
  (specialIn K (.builtin "object.__class__") "__get__" == some (some (.builtin "getset_descriptor.__get__")) && takesIn K (.builtin "object.__class__") == some true))))))
def excAll (K : Frag) (C : Addr) : Bool := excIn K C [.type "ValueError", .type "Exception", .type "BaseException", .type "object"] "ValueError.__new__" && excRest K C
theorem excAll.rest {K : Frag} {C : Addr} (z : excAll K C = true) : excRest K C = true := by
  simp only [excAll, Bool.and_eq_true] at z
  exact z.2
/-- the exception's own object -/
def ExcAt (ea C : Addr) (od : Option Addr) (h : Heap) : Prop := ∃ oe, h.get? ea = some oe ∧ oe.cls = .ref C ∧ oe.dict = od ∧ ∃ vs, oe.data = .fields vs
theorem kitx_exc {ea C : Addr} {od : Option Addr} (z : excRest K C = true) : KitX K (.ref ea) (.ref C) (ExcAt ea C od) := by
  simp only [excRest, Bool.and_eq_true, beq_iff_eq] at z
  obtain ⟨z2, z3, z4, z5, z6, z7, z8, z9⟩ := z
  have inst : ∀ {M : Model} {h : Heap}, ExcAt ea C od h → Looks M h (typeOf (.ref ea)) (.ref C) := fun {M h} p => by
    obtain ⟨oe, e1, e2, _⟩ := p
    rw [← e2]
    exact (Looks.ld e1).andThen .now
  obtain ⟨cd, hcd⟩ := Option.isSome_iff_exists.mp z7
  have lk : ∃ o, K.lookup C = some o ∧ ∃ cd, o.data = .cls cd := by
    unfold clsIn at hcd
    split at hcd
    · rename_i c' d' cd' sl' ho
      exact ⟨_, ho, cd', rfl⟩
    · cases hcd
  obtain ⟨oC, hlk, cdd, hdat⟩ := lk
  refine ⟨fun M h X p => inst p, fun M h X p => ?_, fun h tp dd its n sl X htp => ?_, fun X p k => exc_class X (inst p) z2 z3 z6 (exc_find X z4 z8 z9) z5 k⟩
  · intro A' Q' E' s' k q
    unfold isType loadHead
    refine wpAny_bind (wpAny_loadPart (k _ _ (X _ _ hlk)) ?_)
    obtain ⟨_, _, dt, _⟩ := oC
    dsimp only at hdat
    subst hdat
    exact wpAny_pure q
  · refine Bool.eq_false_iff.mpr fun q => ?_
    have e : C = tp := Value.ref.inj (beq_iff_eq.mp q)
    subst e
    rw [X _ _ hlk] at htp
    cases htp
    cases hdat
end
section
variable {X : Cx}
/-- what is told of a tracked exception -/
def isExc (ea C : Addr) (od : Option Addr := none) : HO := .ext (ExcAt ea C od)
theorem excAt_of {H : Hp} {P : Program} {w : World} {h : Heap} {ea C : Addr} {od : Option Addr} (x : HOk P w H h) (e : H ea = some (isExc ea C od)) : ExcAt ea C od h := (show ObjOk P w H h ea (isExc ea C od) from x _ _ e).1
/-- isinstance(e, C) for an exception of the text's own and one of its classes, or a built-in type -/
theorem call_isinstED : CallR X (.builtin "isinstance") (fun xs H Q => ∃ (ea C : Addr) (y : V) (c : Value) (b : Bool), xs = [.ref ea, y] ∧ (∃ od, H ea = some (isExc ea C od)) ∧ excRest X.K C = true ∧ (y = .ty "ValueError" ∧ c = .type "ValueError" ∨ ∃ D, y = .ref D ∧ c = .ref D) ∧ kitOne X.K (.ref C) c = some b ∧ Q (.bl b) H) := by
  intro pins s σ H xs us Q I r h
  obtain ⟨ea, C, y, c, b, rfl, ⟨od, he⟩, hz, hy, hk, q⟩ := h
  obtain ⟨u, u2, rfl, r1, r2⟩ := vals2 r
  cases r1
  have hc : u2 = c := by
    rcases hy with ⟨rfl, rfl⟩ | ⟨D, rfl, rfl⟩
    · exact r2
    · exact r2
  subst hc
  exact kia_one (kitx_exc hz) I.kIn (excAt_of I.hok he) hk (fun z => nomatch z) fun tk => ⟨.bl b, H, I.tok _, rfl, q⟩
theorem excs_vals : ∀ {cs : List Addr} {its : List Value}, Vals (cs.map V.ref) its → its = cs.map Value.ref
  | [], _, r => by cases r; rfl
  | c :: cs, _, r => by
    cases r with
    | cons r1 r2 =>
      rw [excs_vals r2]
      cases (show _ = Value.ref c from r1)
      rfl
theorem call_isinstETD : CallR X (.builtin "isinstance") (fun xs H Q => ∃ (ea C tp : Addr) (cs : List Addr) (b : Bool), xs = [.ref ea, .ref tp] ∧ (∃ od, H ea = some (isExc ea C od)) ∧ excRest X.K C = true ∧ H tp = some (.tup (cs.map V.ref)) ∧ kitAny X.K (.ref C) (cs.map Value.ref) = some b ∧ Q (.bl b) H) := by
  intro pins s σ H xs us Q I r h
  obtain ⟨ea, C, tp, cs, b, rfl, ⟨od, he⟩, hz, htp, hk, q⟩ := h
  obtain ⟨u, u2, rfl, r1, r2⟩ := vals2 r
  cases r1
  cases r2
  obtain ⟨_, its, rv, ⟨oc, od, oa, osl⟩, h1, h2, h3, n, h4⟩ := (show ObjOk X.prog X.w H s.heap tp (.tup (cs.map V.ref)) from I.hok tp _ htp)
  dsimp only at h2 h3 h4
  subst h2; subst h3; subst h4
  rw [excs_vals rv] at h1
  exact kia_tup (kitx_exc hz) I.kIn (excAt_of I.hok he) h1 hk (fun z => nomatch z) fun tk => ⟨.bl b, H, I.tok _, rfl, q⟩
end
end L2

set_option Elab.async false
set_option linter.all false
set_option maxRecDepth 100000
set_option maxHeartbeats 4000000
namespace L2
open PySem PySem.Spec PyProof.Rows PySem.W
/-! ### defs that may raise -/
section
variable {P : Program} {w : World} {K : PySem.W.Frag} {mg : Str → Option Value} {base : Heap}
theorem Fun.okE {x qual : Str} {st : Stmt} {f : Addr} {fd : FuncData} {N ps : List Str} {k : Nat} {sp : Sp} (F : Fun K x qual st f fd) (S : FnScope N ps (defScope st)) (len : ∀ vs H Q E, sp vs H Q E → vs.length = ps.length)
    (hbody : ∀ (cdv : Value) (A : Around) (outer : List Env) (s : Shared) (H : Hp) (vs : List V) (Q : VK) (E : XK), Room k (A.deeper (envOfC qual (defScope st) s.heap.objs.size f cdv)) → sp vs H Q E →
      ∃ t, PSs (cxOf (CX1 P w) P w K mg base N qual (defScope st) f cdv A outer s H E) (defBody st) t ∧ t { nx := fun _ H' => Q .non H', rt := Q } (start N vs) H) : FnOk P w K mg base (CX1 P w) (k + 1) f fd ps sp := by
  obtain ⟨oc, od, kV, doc, pm, an, cdv, ct, osl, rfl, lk, hcd⟩ := F.ex
  exact fn_of lk hcd S len fun A outer s H vs Q E hr hsp => hbody cdv A outer s H vs Q E hr hsp
theorem FnOk.toE {k : Nat} {f : Addr} {fd : FuncData} {ps : List Str} {sp : Sp} (F : FnOk P w K mg base CX0 k f fd ps sp) : FnOk P w K mg base (CX1 P w) k f fd ps sp :=
  ⟨F.len, fun A outer s H args us vs Q E hr he hb hv hs => codeAny_mono (F.run A outer s H args us vs Q E hr he hb hv hs) fun r s' q => by
    cases r with
    | error e => exact q.elim
    | ok fl => cases fl <;> exact q⟩
end
/-- a def of the text that may raise, called by its name -/
structure CalE (P : Program) (w : World) (K : PySem.W.Frag) (mg : Str → Option Value) (base : Heap) (k : Nat) (x : Str) (ps : List Str) (dvs : List V) (sp : Sp) (f : Addr) (fd : FuncData) : Prop where
  ok : FnOk P w K mg base (CX1 P w) k f fd ps sp
  mg : mg x = some (.ref f)
  kp : PySem.W.keepIn K (.ref f) = true
  bd : ∃ ds, Binds K fd ps ds ∧ Vals dvs ds
section
variable {X : Cx}
theorem pe_calE {k : Nat} {x : Str} {ps : List Str} {dvs : List V} {sp : Sp} {f : Addr} {fd : FuncData} {e : Expr} {es : List Expr} {t : TA} {p pos : Pos} {E : XK} (C : CalE X.prog X.w X.K X.mg X.base k x ps dvs sp f fd) (hr : Room k X.A) (hx : Passes (CX1 X.prog X.w) X E) (hg : Gl X x) (ha : PA X (e :: es) t)
    (hdb : (x == ("__debug__" : Str)) = false := by decide) (he : starEach (e :: es) X.env = (false, eval e X.env) :: starEach es X.env := by rfl) (hpl : (backTo pos (starEach es X.env)).any (·.1) = false := by rfl) :
    PE X (.Call (.Name x p) (e :: es) [] pos) (tCall sp dvs E t) := by
  obtain ⟨ds, h1, h2⟩ := C.bd
  exact pe_call C.ok hr hg C.mg C.kp h1 h2 hx ha hdb he hpl
/-! ### f'..' of texts and ints: some text -/
inductive FParts (X : Cx) : List Expr → List TE → Prop
  | nil : FParts X [] []
  | con {x : Str} {j pos} {es : List Expr} {ts : List TE} (h : x.length ≤ 1000) (r : FParts X es ts) : FParts X (.Constant (.str x) j pos :: es) ts
  | val {v : Expr} {t : TE} {pos : Pos} {es : List Expr} {ts : List TE} (h : PE X v t) (r : FParts X es ts) : FParts X (.FormattedValue v (-1) none pos :: es) (t :: ts)
/-! ### raise -/
theorem exc_obj {K : Frag} {h : Heap} {C : Addr} {bmB : List Value} {newId : String} (X : K.In h) (q : excIn K C bmB newId = true) : ∃ bm N nm qn bs hd sn sub ab col dd k0 k1 k2 k3 k5 mN,
    h.get? C = some (excClassObj nm qn C N bs bm hd sn sub ab col dd k0 k1 k2 k3 k5 newId) ∧ h.Ns N mN ∧ mN "__init__" = none ∧ OwnTail h bmB bm := by
  unfold excIn at q
  split at q
  · rename_i dd cd sl lk
    split at q
    · rename_i C1 bm k0 k1 k2 k3 n1 k5 e1 e2
      simp only [Bool.and_eq_true, beq_iff_eq, Bool.not_eq_true'] at q
      obtain ⟨⟨⟨⟨⟨c1, c2⟩, c3⟩, c4⟩, c5⟩, c6⟩ := q
      obtain ⟨nm, bs, mro, ns, qn, hd, sn, sub, ab, col, del⟩ := cd
      obtain ⟨ls⟩ := sl
      dsimp only at e1 e2 c3 c5 c6
      subst c1 c2 c3 e1 e2
      refine ⟨bm, ns, nm, qn, bs, hd, sn, sub, ab, col, dd, k0, k1, k2, k3, k5, _, X _ _ lk, .of_isNs (isNs_of_in X c5), nsMap_none_of_in X c5 c6, tail_of_in X c4⟩
    · cases q
  · cases q
def tRaise (C : Addr) (E : XK) (t : TA) : TS := fun _ σ H => t σ H fun vs H1 => vs.length ≤ 1000 ∧ E (.ref C) none H1
theorem ps_raise {E : XK} {x : Str} {C : Addr} {e0 : Expr} {rest : List Expr} {t : TA} {np cpos pos : Pos} (hT : Takes X E) (hg : Gl X x) (hm : X.mg x = some (.ref C)) (hz : excAll X.K C = true) (ha : PA X (e0 :: rest) t) (hc : X.calm = true := by rfl) (hex : X.ex = [] := by rfl)
    (he : starEach (e0 :: rest) X.env = (false, eval e0 X.env) :: starEach rest X.env := by rfl) (hpl : (backTo cpos (starEach rest X.env)).any (·.1) = false := by rfl) (hd : (x == ("__debug__" : Str)) = false := by decide) :
    PS X (.Raise (some (.Call (.Name x np) (e0 :: rest) [] cpos)) none pos) (tRaise C E t) := by
  intro pins s σ H D I h
  have hin : excIn X.K C [.type "ValueError", .type "Exception", .type "BaseException", .type "object"] "ValueError.__new__" = true := by
    simp only [excAll, Bool.and_eq_true] at hz
    exact hz.1
  obtain ⟨bm, N, nm, qn, bs, hd', sn, sub, ab, col, dd, k0, k1, k2, k3, k5, mN, hC, hN, hni, hT2⟩ := exc_obj I.ok.mod.kin hin
  refine wpAny_Raise_call_subT (C := C) (nm := nm) (q := qn) (N := N) (bs := bs) (bm := bm) (hdct := hd') (sn := sn) (sub := sub) (ab := ab) (col := col) (dd := dd) (k0 := k0) (k1 := k1) (k2 := k2) (k3 := k3) (k5 := k5) (newId := "ValueError.__new__")
    PySem.F.excBase_ValueError (mN := mN) (hT2.hasType PySem.F.excBase_ValueError.hasBase) (I.ok.hd hc) (by rw [he]; show (false || (backTo cpos (starEach rest X.env)).any (·.1)) = false; rw [hpl]; rfl) hni (ld_glob I hg hm ⟨rfl, ?_⟩ hd)
  have hA := ha cpos pins s σ H _ I h
  rw [he] at hA ⊢
  refine Calls.evalArgs_plain (wpAny_mono hA (fun us s2 h2 => ?_) fun _ _ y => y)
  obtain ⟨vs, H1, I1, rv, hlen, hE⟩ := h2
  have hz2 : 100000 < sizeLine := by decide
  have hus := rv.length
  refine ⟨rfl, by show us.length ≤ sizeLine; omega, I1.bk _ _ hC, hN.keeps I1.bk, hT2.keeps I1.bk, fun h' e hm => ?_⟩
  obtain ⟨tt, ht, _, _⟩ := hm.there
  refine hT pins σ H1 { s2 with heap := h' } e _ _ _ (I1.kept (t' := s2.toks) hm.keeps) ?_ ?_ ht rfl rfl rfl hE
  · exact I1.hok.none_of hm.new
  · cases q : X.s₀.heap.get? e with
    | none => rfl
    | some o =>
      obtain ⟨o', z⟩ := I1.base.there e o q (by rw [hex]; intro y; cases y)
      rw [hm.new] at z
      cases z
end
/-! ### try: .. except C as e: .. -/
abbrev Cx.inTry (X : Cx) (pn' : List (Addr × Obj)) (xe' : Value → Shared → Prop) : Cx := { X with pn := pn', xe := xe' }
abbrev Cx.inSuite (X : Cx) (ea : Addr) : Cx := { X with A := X.A.mark (some (.ref ea)), calm := false, xe := fun _ _ => False }
section
variable {X : Cx} {pins : List (Addr × Obj)} {σ : St} {H : Hp} {s : Shared}
theorem Cx.Ok.inTry (ok : X.Ok) (pn' : List (Addr × Obj)) (xe' : Value → Shared → Prop) : (X.inTry pn' xe').Ok :=
  ⟨ok.mod, ok.kind, ok.glob, ok.blt, ok.above, ok.inj, ok.has, ok.cab, ok.hd, ok.frames, ok.stk, ok.exf, ok.bs, ok.bsz, ok.noex, ok.exfs, ok.funs, ok.frf⟩
theorem Cx.Ok.outTry {pn' : List (Addr × Obj)} {xe' : Value → Shared → Prop} (ok : (X.inTry pn' xe').Ok) : X.Ok :=
  ⟨ok.mod, ok.kind, ok.glob, ok.blt, ok.above, ok.inj, ok.has, ok.cab, ok.hd, ok.frames, ok.stk, ok.exf, ok.bs, ok.bsz, ok.noex, ok.exfs, ok.funs, ok.frf⟩
theorem Cx.Ok.inSuite (ok : X.Ok) (ea : Addr) : (X.inSuite ea).Ok :=
  ⟨ok.mod, ok.kind, ok.glob, ok.blt, ok.above, ok.inj, ok.has, ok.cab, fun z => Bool.noConfusion z, ok.frames, ok.stk, ok.exf, ok.bs, ok.bsz, ok.noex, ok.exfs, ok.funs, ok.frf⟩
theorem Inv.inTry (I : Inv X pins σ H s) (xe' : Value → Shared → Prop) : Inv (X.inTry (X.pn ++ pins) xe') [] σ H s :=
  ⟨I.ok.inTry _ _, I.os, I.bare, I.base, I.loc, I.cell, I.free, I.freeC, fun p hp => I.pin p (by simpa using hp), I.hok, I.len⟩
theorem Inv.outTry {xe' : Value → Shared → Prop} {q : List (Addr × Obj)} (I : Inv (X.inTry (X.pn ++ pins) xe') q σ H s) : Inv X pins σ H s :=
  ⟨I.ok.outTry, I.os, I.bare, I.base, I.loc, I.cell, I.free, I.freeC, fun p hp => I.pin p (List.mem_append_left _ hp), I.hok, I.len⟩
theorem Inv.inSuite (I : Inv X pins σ H s) (ea : Addr) : Inv (X.inSuite ea) pins σ H s :=
  ⟨I.ok.inSuite _, I.os, I.bare, I.base, I.loc, I.cell, I.free, I.freeC, I.pin, I.hok, I.len⟩
theorem Inv.outSuite {ea : Addr} (ok : X.Ok) (I : Inv (X.inSuite ea) pins σ H s) : Inv X pins σ H s :=
  ⟨ok, I.os, I.bare, I.base, I.loc, I.cell, I.free, I.freeC, I.pin, I.hok, I.len⟩
theorem Un.ext {fs ex : List Addr} {H H' : Hp} {h h' : Heap} {ea : Addr} {o : HO} (u : Un fs ex H H' h h') (h1 : H' ea = none) (h2 : h.get? ea = none) : Un fs ex H (upd H' ea o) h h' where
  keep := u.keep
  slot := u.slot
  free := fun b ob e n hx => by rw [upd_ne (fun z => by rw [z, h2] at e; cases e)]; exact u.free b ob e n hx
  there := u.there
  tups := fun b xs e => by rw [upd_ne (ne_of_none (u.tups b xs e) h1)]; exact u.tups b xs e
  frzs := fun b ob xs e => by rw [upd_ne (ne_of_none (u.frzs b ob xs e) h1)]; exact u.frzs b ob xs e
  tbls := fun b ps e => by
    obtain ⟨more, q⟩ := u.tbls b ps e
    exact ⟨more, by rw [upd_ne (ne_of_none q h1)]; exact q⟩
theorem HOk.ext {P : Program} {w : World} {H : Hp} {h : Heap} {ea C : Addr} {od : Option Addr} (x : HOk P w H h) (h1 : H ea = none) (h2 : ExcAt ea C od h) : HOk P w (upd H ea (isExc ea C od)) h := fun a o e => by
  by_cases ha : a = ea
  · subst ha
    rw [upd_same] at e
    cases e
    obtain ⟨oe, e1, e2⟩ := h2
    exact ⟨⟨oe, e1, e2⟩, ⟨oe, e1⟩, fun g1 g2 ⟨o1, z1, z2⟩ k => ⟨o1, k _ z1, z2⟩⟩
  · rw [upd_ne ha] at e
    exact (x a o e).stay (fun _ _ _ z => z) (fun b z => by rw [upd_ne (ne_of_none z h1)]; exact z) fun b xs z => by rw [upd_ne (ne_of_none z h1)]; exact z
/-- the name goes -/
theorem unbind_ok {M : Model} {A : Around} {E : Value → Shared → Prop} {i : Nat} {x : Str} {pos : Pos} {Q : Unit → Shared → Prop} (I : Inv X pins σ H s) (hN : X.N.Nodup) (hi : X.N[i]? = some x) (hx : X.env.scope.names.lookup x = some .local)
    (h : ∀ s', Inv X pins (σ.set i none) H s' → Q () s') : wpAny M A (do bindName X.env x .none; unbindBehindTheSuite X.env x pos) Q E s := by
  obtain ⟨m, hn, hl⟩ := id I.loc
  have hcls : (X.env.scope.kind == .class || (X.env.scope.kind == .module && X.env.locals != X.env.globals)) = false := by rw [I.ok.kind]; rfl
  have cne := I.cne
  obtain ⟨oL, _, _, hoL, _⟩ := id hn
  refine wpAny_nameGoes_keeps hx hn hcls fun h' v hn' hs => ?_
  have far : ∀ {b : Addr} {o : Obj}, X.s₀.heap.get? b = some o → b ≠ X.env.locals := fun e => Nat.ne_of_lt (Nat.lt_of_lt_of_le (Heap.lt_size e) I.ok.above)
  refine h _ ⟨I.ok, I.os, I.bare, ⟨fun b o e n hb hx => (hs.2 b (far e)).trans (I.base.keep b o e n hb hx), fun b o e n hb hx => ?_, I.base.free, fun b o e hx => ?_, I.base.tups, I.base.frzs, I.base.tbls⟩, ⟨_, hn', fun j y v' e1 e2 e3 => ?_⟩, fun y c e => ?_, I.free, I.freeC, fun p hp => ?_, fun b ob e => ?_, by simpa using I.len⟩
  · obtain ⟨sl, q⟩ := I.base.slot b o e n hb hx
    exact ⟨sl, (hs.2 b (far e)).trans q⟩
  · obtain ⟨o', q⟩ := I.base.there b o e hx
    exact ⟨o', (hs.2 b (far e)).trans q⟩
  · have hj : j ≠ i := fun z => by
      subst z
      rw [List.getElem?_set] at e2
      split at e2
      · split at e2 <;> cases e2
      · exact absurd rfl ‹¬ j = j›
    rw [List.getElem?_set_ne (Ne.symm hj)] at e2
    obtain ⟨u', r', q⟩ := hl j y v' e1 e2 e3
    refine ⟨u', r', ?_⟩
    rcases q with ⟨k, q⟩ | ⟨k, c, q, z⟩
    · have hy : y ≠ x := fun z => hj (nodup_ix hN e1 (z ▸ hi))
      exact .inl ⟨k, by simp [hy, q]⟩
    · exact .inr ⟨k, c, q, z.sameBut hs (cne y c q)⟩
  · obtain ⟨w', z⟩ := I.cell y c e
    exact ⟨w', z.sameBut hs (cne y c e)⟩
  · obtain ⟨e, n, ne, nf, d⟩ := I.pin p hp
    exact ⟨(hs.2 p.1 ne).trans e, n, ne, nf, d⟩
  · refine (I.hok b ob e).stay (fun c w' hc q => (hs.2 c ?_).trans q) (fun _ q => q) fun _ _ q => q
    rintro rfl
    rcases hc with rfl | hc
    · rw [I.free] at e; cases e
    · rw [I.free] at hc; cases hc
end
/-- the ends of a suite, the name gone behind it -/
def Ends.without (D : Ends) (i : Nat) : Ends := { nx := fun σ H => D.nx (σ.set i none) H, rt := D.rt, bk := fun σ H => D.bk (σ.set i none) H, ct := fun σ H => D.ct (σ.set i none) H }
/-- what is wanted of an exception in the body: it is caught, and the suite does the rest; it knows no local name but the exception's -/
def exTry (K : Frag) (n i : Nat) (c : Value) (ts : TS) (D : Ends) : XK := fun cls od H' => ∃ C : Addr, cls = .ref C ∧ exmOne K cls c = some true ∧ ∀ ea, H' ea = none → ts (D.without i) ((List.replicate n none).set i (some (.ref ea))) (upd H' ea (isExc ea C od))
def tTry (K : Frag) (n i : Nat) (c : Value) (tb : XK → TS) (ts : TS) : TS := fun D σ H => tb (exTry K n i c ts D) D σ H
section
variable {X : Cx}
theorem ps_try {body : List Stmt} {b0 : Stmt} {suite : List Stmt} {cx n : Str} {c : Addr} {np hpos pos : Pos} {i : Nat} {tb : XK → TS} {ts : TS} (hN : X.N.Nodup) (hi : X.N[i]? = some n) (hx : X.env.scope.names.lookup n = some .local) (hg : Gl X cx) (hm : X.mg cx = some (.ref c))
    (hb : ∀ (Ex : XK) (pn' : List (Addr × Obj)) (xe' : Value → Shared → Prop), Passes (CX1 X.prog X.w) (X.inTry pn' xe') Ex → PSs (X.inTry pn' xe') body (tb Ex)) (hs : ∀ ea : Addr, PSs (X.inSuite ea) (b0 :: suite) ts)
    (hst : X.stack = X.env :: X.outer := by rfl) (hf : X.env.frame = some X.env.locals := by rfl) (hd : (cx == ("__debug__" : Str)) = false := by decide) :
    PS X (.Try body [.ExceptHandler (some (.Name cx np)) (some n) (b0 :: suite) hpos] [] [] pos) (tTry X.K X.N.length i (.ref c) tb ts) := by
  intro pins s σ H D I h
  refine wpAny_Try_except (wpAny_mono (hb _ (X.pn ++ pins) _ ?_ [] s σ H D (I.inTry _) h) (fun f s1 q => ?_) fun _ _ z => z)
  · intro pins2 σ2 H2 s2 e s2' J hcx
    obtain ⟨ea, cls, od, H', rfl, os', bare', un', hok', ⟨a0, T, oe, oT, vs, ts', ⟨f1, f2, f3, f4⟩, he, ⟨hc, hod⟩, hdd, hv1, hTe, hT, hdT, h3⟩, C, rfl, hex, hrd⟩ := hcx
    have J1 : Inv (X.inTry (X.pn ++ pins) _) pins2 σ2 H' s2' := J.call' (ch := []) os' un' hok' bare' fun b z => absurd z (by simp)
    have hfr : X.A.frames = some (X.env :: X.outer) := J.ok.frames.trans (by rw [← hst])
    have hff : s2'.heap.FunFrames X.base X.stack := J1.stack
    let Z := ea :: T :: frs X.stack
    have hB : ∀ b ∈ frs X.stack, (hideL s2'.heap Z).get? b = none := fun b hb => hideL_mem (List.mem_cons_of_mem _ (List.mem_cons_of_mem _ hb))
    have hff2 : s2'.heap.FunFrames (hideL s2'.heap Z) (X.env :: X.outer) := by rw [← hst]; exact frames_hide hff hB
    -- the state while the exception is looked at
    have at_ : ∀ h' : Heap, Heap.FlyingW (hideL s2'.heap Z) (X.env :: X.outer) ea (.ref C) a0 h' → s2'.heap.UpToSlots h' → DK s2'.heap h' → Inv (X.inSuite ea) pins (List.replicate X.N.length none) (upd H' ea (isExc ea C od)) { s2' with heap := h' } := fun h' hfl up dk => by
      have hkeep : ∀ b o, s2'.heap.get? b = some o → b ∉ Z → h'.get? b = some o := fun b o e n => hfl.1 b o (by rw [hideL_ne n]; exact e)
      have hzl : ∀ z ∈ Z, z ∈ frs X.stack ∨ s2.heap.get? z = none := fun z hz => by
        rcases List.mem_cons.mp hz with rfl | hz
        · exact .inr f3
        · rcases List.mem_cons.mp hz with rfl | hz
          · exact .inr f4
          · exact .inl hz
      have hzn : ∀ z ∈ Z, H' z = none := fun z hz => by
        rcases List.mem_cons.mp hz with rfl | hz
        · exact f1
        · rcases List.mem_cons.mp hz with rfl | hz
          · exact f2
          · exact J1.stkFree z hz
      have u2 : Un (frs X.stack) [] H2 H' s2.heap h' := un'.hide hzl hkeep fun b hb o e => by
        obtain ⟨_, o', ho', hnf⟩ := hff.mem hb
        rw [e] at ho'
        cases ho'
        exact up b o e hnf
      have hx2 : ExcAt ea C od h' := by
        obtain ⟨ob, ws, q1, q2, q3, _⟩ := hfl.first
        exact ⟨ob, q1, q2, (dk.at he q1).trans hod, ws, q3⟩
      have J2 : Inv (X.inTry (X.pn ++ pins) _) pins2 σ2 (upd H' ea (isExc ea C od)) { s2' with heap := h' } := J.call' (ch := []) os' (u2.ext f1 f3) ((hok'.hide hzn hkeep).ext f1 hx2) bare' fun b z => absurd z (by simp)
      have J3 : Inv X pins σ2 (upd H' ea (isExc ea C od)) { s2' with heap := h' } := J2.outTry
      exact (J3.weak (σ' := List.replicate X.N.length none) (by rw [List.length_replicate]; exact J3.len.symm) fun j v z => by
        rw [List.getElem?_replicate] at z
        split at z <;> cases z).inSuite ea
    have hX : X.Ok := I.ok
    refine wpAny_dk dc_noteFrame (wpAny_looks_onW (base := hideL s2'.heap Z) hfr hf ⟨hideL_stays, hideL_mem List.mem_cons_self, hff2, ⟨oe, vs, T, oT, ts', he, hc, hdd, hv1, hideL_mem (List.mem_cons_of_mem _ List.mem_cons_self), hTe, hT, hdT, h3⟩⟩ fun h1 held up1 dk1 => ?_)
    refine wpAny_dk dc_setFlight (wpAny_landsW held fun h2 fly2 up2 dk2 => ?_)
    have JS := at_ h2 fly2 (up1.trans up2) (dk1.trans dk2)
    refine wpAny_handleBy_cons (codeAny_handlers_test ?_) (by intro q; cases q)
    refine ld_glob JS hg hm ?_ hd
    have LT : Looks (model X.prog X.w) h2 (typeOf (.ref ea)) (.ref C) := by
      obtain ⟨ob, e1, e2⟩ := fly2.there
      rw [← e2]
      exact (Looks.ld e1).andThen .now
    refine (exm_one JS.kIn LT hex).here ?_
    refine codeAny_handlers_suite_as (wpAny_dk dc_setFlight (lands_againW fly2 fun h3' fly3 up3 dk3 => ?_))
    have JS3 := at_ h3' fly3 ((up1.trans up2).trans up3) ((dk1.trans dk2).trans dk3)
    refine store_ok (X := X.inSuite ea) JS3 hN hi (.inl hx) (v := .ref ea) rfl (fun s4 J4 => ?_) (.inr hx)
    refine wpAny_mono (hs ea pins s4 _ _ _ J4 (hrd ea f1)) (fun f s5 q => ?_) fun _ _ z => False.elim z
    cases f with
    | next =>
      obtain ⟨σ', H'', I', r⟩ := q
      exact unbind_ok (I'.outSuite hX) hN hi hx fun s6 I6 => ⟨_, _, I6, r⟩
    | brk =>
      obtain ⟨σ', H'', I', r⟩ := q
      exact unbind_ok (I'.outSuite hX) hN hi hx fun s6 I6 => ⟨_, _, I6, r⟩
    | cont =>
      obtain ⟨σ', H'', I', r⟩ := q
      exact unbind_ok (I'.outSuite hX) hN hi hx fun s6 I6 => ⟨_, _, I6, r⟩
    | ret u =>
      obtain ⟨v, σ', H'', I', rv, r⟩ := q
      exact unbind_ok (I'.outSuite hX) hN hi hx fun s6 I6 => ⟨v, _, _, I6, rv, r⟩
  · cases f with
    | next =>
      obtain ⟨σ', H', I', r⟩ := q
      exact wpAny_execs_nil ⟨σ', H', I'.outTry, r⟩
    | brk => obtain ⟨σ', H', I', r⟩ := q; exact ⟨σ', H', I'.outTry, r⟩
    | cont => obtain ⟨σ', H', I', r⟩ := q; exact ⟨σ', H', I'.outTry, r⟩
    | ret u => obtain ⟨v, σ', H', I', rv, r⟩ := q; exact ⟨v, σ', H', I'.outTry, rv, r⟩
end
end L2

set_option Elab.async false
set_option linter.all false
set_option maxRecDepth 100000
set_option maxHeartbeats 4000000
namespace HT
open PySem PySem.Spec PyProof.Rows
section
variable {prog : Program} {w : World} {A : Around} {E : Value → Shared → Prop} {s : Shared}
theorem getItem_tuple_all {t sl : Addr} {items : Array Value} {vl vu : Value} {lo hi : Option Int} {Q : Value → Shared → Prop} (ht : IsTup s.heap t items) (hs : s.heap.IsSliceOf sl vl vu .none) (pl : IsPart vl lo) (pu : IsPart vu hi)
    (hw : sIx items.size 0 lo = 0 ∧ sIx items.size items.size hi = items.size) (h : Q (.ref t) s) : wpAny (model prog w) A (getItem (.ref t) (.ref sl)) Q E s := by
  obtain ⟨os, hos, hcs, hds⟩ := id hs
  have hTs : s.TypeIs (.ref sl) "slice" := ⟨os, hos, hcs⟩
  unfold getItem
  try with_reducible refine wpAny_holding ?_
  first | refine wpAny_bind (wpAny_pure ?_) | skip
  refine wpAny_bind (wpAny_sequenceKey ht.typeIs (by decide) ?_)
  refine wpAny_bind (wpAny_callSpecial?_slot (name := Str.ofString "__getitem__") ht.typeIs PyProof.Rows.slot_tuple_getitem
    (wpAny_call_entry PyProof.Rows.slot_tuple_getitem ht.typeIs entry_tuple_getitem ?_ (args_tuple_getitem _ _)))
  show wpAny _ _ (Builtin.Tuple.tupleItemsOf (.ref t) >>= _) _ _ s
  refine wpAny_bind (tupleItemsOf_ ht ?_)
  refine wpAny_bind (wpAny_typeOf hTs ?_)
  rw [if_pos (by decide)]
  refine wpAny_bind (sliceApplied_gen hs pl pu ?_)
  have hyes : (((sIx items.size 0 lo : Nat) : Int) == 0 && (1 : Int) == 1 && (sIx items.size items.size hi - sIx items.size 0 lo) == items.size) = true := by
    rw [hw.1, hw.2]
    simp
  show wpAny _ _ (if (((sIx items.size 0 lo : Nat) : Int) == 0 && (1 : Int) == 1 && (sIx items.size items.size hi - sIx items.size 0 lo) == items.size) = true then _ else _) _ _ s
  rw [if_pos hyes]
  refine wpAny_bind (m := Builtin.Tuple.tupleIsExact (.ref t)) ?_
  unfold Builtin.Tuple.tupleIsExact
  refine wpAny_bind (wpAny_typeOf ht.typeIs (wpAny_pure ?_))
  rw [if_pos (by decide)]
  exact wpAny_bind (wpAny_rule (wpAny_pure ⟨_, rfl, wpAny_pure h⟩))
end
end HT

namespace L2
open PySem PySem.Spec PyProof.Rows PySem.SeqAt
inductive TyA (H : Hp) : V → String → Prop
  | non : TyA H .non "NoneType"
  | int (i : Int) : TyA H (.int i) "int"
  | bl (b : Bool) : TyA H (.bl b) "bool"
  | str (x : Str) : TyA H (.str x) "str"
  | lst {a : Addr} {xs : List V} (e : H a = some (.lst xs)) : TyA H (.ref a) "list"
  | tup {a : Addr} {xs : List V} (e : H a = some (.tup xs)) : TyA H (.ref a) "tuple"
  | dK {a : Addr} {kvs : List (Key × V)} (e : H a = some (.dK kvs)) : TyA H (.ref a) "dict"
section
variable {X : Cx}
/-- t[lo:hi], the whole of it: t itself -/
def rSlA (K : PySem.W.Frag) : V → Option Int → Option Int → Hp → VK → Prop := fun x lo hi H Q => ∃ a xs, x = .ref a ∧ SqT K H a xs ∧ (HT.sIx xs.length 0 lo = 0 ∧ HT.sIx xs.length xs.length hi = xs.length) ∧ Q (.ref a) H
theorem sl_tupA : SlR X (rSlA X.K) := by
  intro pins s σ H x v vl vu lo hi sl Q I rx hs pl pu h
  obtain ⟨a, xs, rfl, hx, hw, q⟩ := h
  cases rx
  obtain ⟨its, r, ht, hz⟩ := I.tuple hx
  have hlen : its.toArray.size = xs.length := by rw [List.size_toArray]; exact r.length.symm
  refine ⟨"tuple", _, PyProof.Rows.slot_tuple_getitem.lookup, ht.typeIs, ?_⟩
  exact HT.getItem_tuple_all ht hs pl pu (by rw [hlen]; exact hw) ⟨.ref a, H, I, rfl, q⟩
end
end L2

set_option Elab.async false
set_option linter.all false
set_option maxRecDepth 100000
set_option maxHeartbeats 4000000
namespace Lv
open PySem L2 PySem.W
/-! ### the text's own exceptions -/
def excTab (K : Frag) (reel C : Addr) (all : List Addr) : Bool := excAll K C && (exmOne K (.ref C) (.ref reel) == some true && (kitOne K (.ref C) (.ref reel) == some true && (kitOne K (.ref C) (.type "ValueError") == some true && all.all fun D => kitOne K (.ref C) (.ref D) == some (D == C))))
structure ExcTab (K : Frag) (reel C : Addr) (all : List Addr) : Prop where
  ok : excAll K C = true
  exm : exmOne K (.ref C) (.ref reel) = some true
  isR : kitOne K (.ref C) (.ref reel) = some true
  isV : kitOne K (.ref C) (.type "ValueError") = some true
  one : ∀ D ∈ all, kitOne K (.ref C) (.ref D) = some (D == C)
theorem ExcTab.of {K : Frag} {reel C : Addr} {all : List Addr} (h : excTab K reel C all = true) : ExcTab K reel C all := by
  simp only [excTab, Bool.and_eq_true, beq_iff_eq, List.all_eq_true] at h
  exact ⟨h.1, h.2.1, h.2.2.1, h.2.2.2.1, h.2.2.2.2⟩
theorem ExcTab.any {K : Frag} {reel C : Addr} {all : List Addr} (h : ExcTab K reel C all) : ∀ {cs : List Addr}, (∀ D ∈ cs, D ∈ all) → kitAny K (.ref C) (cs.map Value.ref) = some (cs.any (· == C))
  | [], _ => rfl
  | D :: cs, hs => by
    have h1 := h.one D (hs D List.mem_cons_self)
    rw [List.map_cons, kitAny, h1, List.any_cons]
    cases e : (D == C) with
    | true => rfl
    | false => exact h.any fun E hE => hs E (List.mem_cons_of_mem _ hE)
/-- the classes: their places and names -/
structure Excs (K : Frag) (mg : Str → Option Value) where
  reel : Addr
  nWays : Addr
  nRoom : Addr
  nLevel : Addr
  nStand : Addr
  tMany : Addr
  tFew : Addr
  nPlace : Addr
  nText : Addr
  nLine : Addr
  nBack : Addr
  nPhase : Addr
  clash : Addr
  mReel : mg "ReelError" = some (.ref reel)
  mWays : mg "NoWays" = some (.ref nWays)
  mRoom : mg "NoRoom" = some (.ref nRoom)
  mLevel : mg "NoLevel" = some (.ref nLevel)
  mStand : mg "NoStanding" = some (.ref nStand)
  mMany : mg "TooMany" = some (.ref tMany)
  mFew : mg "TooFew" = some (.ref tFew)
  mPlace : mg "NoPlace" = some (.ref nPlace)
  mText : mg "NoText" = some (.ref nText)
  mLine : mg "NoLine" = some (.ref nLine)
  mBack : mg "NoBack" = some (.ref nBack)
  mPhase : mg "NoPhase" = some (.ref nPhase)
  mClash : mg "Clash" = some (.ref clash)
  nd : ([nWays, nRoom, nLevel, nStand, tMany, tFew, nPlace, nText, nLine, nBack, nPhase, clash] : List Addr).Nodup
def Excs.all {K : Frag} {mg : Str → Option Value} (X : Excs K mg) : List Addr := [X.nWays, X.nRoom, X.nLevel, X.nStand, X.tMany, X.tFew, X.nPlace, X.nText, X.nLine, X.nBack, X.nPhase, X.clash]
theorem b_ValueError : bootBuiltins "ValueError" = some (.type "ValueError") := by decide +kernel
/-! ### any thing -/
def anT : List String := ["NoneType", "bool", "int", "str", "list", "tuple", "dict"]
theorem kit_an_int {K : PySem.W.Frag} {T : String} (h : T ∈ anT) : PySem.W.kitOne K (.type T) (.type "int") = some (decide (T = "int") || decide (T = "bool")) := by
  simp only [anT, List.mem_cons, List.not_mem_nil, or_false] at h
  rcases h with rfl | rfl | rfl | rfl | rfl | rfl | rfl
  all_goals with_unfolding_all rfl
theorem kit_an_bool {K : PySem.W.Frag} {T : String} (h : T ∈ anT) : PySem.W.kitOne K (.type T) (.type "bool") = some (decide (T = "bool")) := by
  simp only [anT, List.mem_cons, List.not_mem_nil, or_false] at h
  rcases h with rfl | rfl | rfl | rfl | rfl | rfl | rfl
  all_goals with_unfolding_all rfl
/-- a thing and its type -/
structure Thing (K : Frag) (H : Hp) (v : V) (T : String) : Prop where
  ty : TyOf K H v (.type T)
  mem : T ∈ anT
theorem Thing.same {K : Frag} {H H' : Hp} {v : V} {T : String} (h : Thing K H v T) (s : Same H H') : Thing K H' v T := by
  obtain ⟨ty, m⟩ := h
  refine ⟨?_, m⟩
  generalize hv : Value.type T = t at ty
  cases ty with
  | non => exact .non
  | bl x => exact .bl x
  | int i => exact .int i
  | str x => exact .str x
  | flt x => exact .flt x
  | lst e => exact .lst (s _ _ e)
  | frz e => exact .frz (s _ _ e)
  | tup e => exact .tup (s _ _ e)
  | dK e => exact .dK (s _ _ e)
  | dT e => exact .dT (s _ _ e)
  | ins e => cases hv
theorem Thing.int_of {K : Frag} {H : Hp} {v : V} (h : Thing K H v "int") : ∃ i, v = .int i := by
  obtain ⟨ty, m⟩ := h
  generalize hv : Value.type "int" = t at ty
  cases ty with
  | int i => exact ⟨i, rfl⟩
  | _ => simp at hv
/-- True just of whole numbers -/
def spWholeA (K : Frag) : Sp := fun vs H Q _ => ∃ (x : V) (T : String), vs = [x] ∧ Thing K H x T ∧ Q (.bl (decide (T = "int"))) H
/-- no whole number from lo to hi -/
def NotIn (lo hi : Int) (v : V) (T : String) : Prop := T ≠ "int" ∨ ∃ i, v = .int i ∧ ¬ (lo ≤ i ∧ i ≤ hi)
theorem FnOk.or {P : Program} {w : World} {K : Frag} {mg : Str → Option Value} {base : Heap} {CX : CXT} {k : Nat} {f : Addr} {fd : FuncData} {ps : List Str} {sp sp' : Sp} (F : FnOk P w K mg base CX k f fd ps sp) (F' : FnOk P w K mg base CX k f fd ps sp') :
    FnOk P w K mg base CX k f fd ps (fun vs H Q E => sp vs H Q E ∨ sp' vs H Q E) :=
  ⟨fun vs H Q E h => h.elim (F.len vs H Q E) (F'.len vs H Q E), fun A outer s H args us vs Q E hr he hb hv h => h.elim (F.run A outer s H args us vs Q E hr he hb hv) (F'.run A outer s H args us vs Q E hr he hb hv)⟩
end Lv
namespace Lv
open PySem L2 PySem.W
theorem Thing.ty_int {K : Frag} {H : Hp} {i : Int} {T : String} (h : Thing K H (.int i) T) : T = "int" := by
  obtain ⟨ty, m⟩ := h
  cases ty
  rfl
end Lv
namespace Lv
open PySem L2 PySem.W
theorem ExcTab.none {K : Frag} {reel C : Addr} {all cs : List Addr} (h : ExcTab K reel C all) (hs : ∀ D ∈ cs, D ∈ all) (hn : ∀ D ∈ cs, D ≠ C) : kitAny K (.ref C) (cs.map Value.ref) = some false := by
  rw [h.any hs]
  congr 1
  rw [List.any_eq_false]
  intro D hD z
  exact hn D hD (beq_iff_eq.mp z)
theorem ExcTab.no {K : Frag} {reel C D : Addr} {all : List Addr} (h : ExcTab K reel C all) (hs : D ∈ all) (hn : D ≠ C) : kitOne K (.ref C) (.ref D) = some false := by
  rw [h.one D hs]
  congr 1
  exact beq_eq_false_iff_ne.mpr hn
theorem ExcTab.yes {K : Frag} {reel C : Addr} {all : List Addr} (h : ExcTab K reel C all) (hs : C ∈ all) : kitOne K (.ref C) (.ref C) = some true := by
  rw [h.one C hs]
  congr 1
  exact beq_self_eq_true C
/-- all twelve are unlike -/
theorem Excs.far {K : Frag} {mg : Str → Option Value} (X : Excs K mg) : ∀ i j : Nat, i < 12 → j < 12 → i ≠ j → X.all.getD i 0 ≠ X.all.getD j 0 := by
  intro i j hi hj hne z
  have h12 : X.all.length = 12 := rfl
  rw [List.getD_eq_getElem?_getD, List.getD_eq_getElem?_getD, List.getElem?_eq_getElem (by omega), List.getElem?_eq_getElem (by omega)] at z
  have nd : X.all.Nodup := X.nd
  exact hne ((List.getElem_inj nd).mp z)
end Lv
namespace Lv
open PySem L2 PySem.W
/-- a class of the text's own, as a value -/
theorem pe_gcls {X : Cx} {x : Str} {c : Addr} {pos : Pos} (hg : Gl X x) (hm : X.mg x = some (.ref c)) (hd : (x == ("__debug__" : Str)) = false := by decide) : PE X (.Name x pos) (tC (.ref c)) := pe_glob (v := .ref c) hg hm rfl hd
end Lv
namespace L2
open PySem PySem.Spec PyProof.Rows PySem.W
end L2
namespace Lv
open PySem L2 PySem.W
end Lv

set_option Elab.async false
set_option linter.all false
set_option maxRecDepth 100000
set_option maxHeartbeats 4000000
namespace L2
open PySem PySem.Spec PyProof.Rows PySem.W
/-! ### errors with an own __init__ that keeps what it is handed -/
abbrev VB : List Value := [.type "ValueError", .type "Exception", .type "BaseException", .type "object"]
/-- the class at C -/
def excInI (K : Frag) (C : Addr) : Bool := match K.lookup C with
  | some ⟨.type "type", _, .cls cd, sl⟩ => (match cd.mro, sl.toList with
    | .ref D :: bm, [_, _, _, _, some (.builtin n), _] => D == C && (n == "ValueError.__new__" && (!cd.hasDel && (tailIn K VB bm && (nsOkIn K cd.ns && cd.hasDict))))
    | _, _ => false)
  | _ => false
def excAllI (K : Frag) (C fI : Addr) : Bool := excInI K C && (excRest K C && (findIn K (.ref C) "__setattr__" == some (some (.builtin "object.__setattr__")) && (findIn K (.ref C) "at" == some none && (isFn K (.ref fI) && (keepIn K (.ref C) && findIn K (.ref C) "__init__" == some (some (.ref fI)))))))
theorem excI_obj {K : Frag} {h : Heap} {C : Addr} (X : K.In h) (q : excInI K C = true) : ∃ bm N nm qn bs sn sub ab col dd k0 k1 k2 k3 k5 cd,
    h.get? C = some (excClassObj nm qn C N bs bm true sn sub ab col dd k0 k1 k2 k3 k5 "ValueError.__new__") ∧ OwnTail h VB bm ∧ clsIn K C = some cd ∧ cd.hasDict = true ∧ cd.mro = .ref C :: bm := by
  unfold excInI at q
  split at q
  · rename_i dd cd sl lk
    split at q
    · rename_i C1 bm k0 k1 k2 k3 n1 k5 e1 e2
      simp only [Bool.and_eq_true, beq_iff_eq, Bool.not_eq_true'] at q
      obtain ⟨c1, c2, c3, c4, c5, c7⟩ := q
      have hcl : clsIn K C = some cd := by unfold clsIn; rw [lk]
      obtain ⟨nm, bs, mro, ns, qn, hd, sn, sub, ab, col, del⟩ := cd
      obtain ⟨ls⟩ := sl
      dsimp only at e1 e2 c3 c5 c7
      subst c1 c2 c3 e1 e2 c7
      refine ⟨bm, ns, nm, qn, bs, sn, sub, ab, col, dd, k0, k1, k2, k3, k5, _, X _ _ lk, tail_of_in X c4, hcl, rfl, rfl⟩
    · cases q
  · cases q
theorem tail_refuse {h : Heap} {bm : List Value} (T : OwnTail h VB bm) (self : Value) : refuseLoop self "__setattr__" bm = pure () := by
  induction T with
  | base => exact PySem.F.store_ValueError.passes self
  | own _ _ _ _ ih => rw [refuseLoop_ref]; exact ih
section
variable {prog : Program} {w : World} {A : Around} {E : Value → Shared → Prop} {s : Shared} {K : Frag} {x C fI : Addr} {v : Value}
theorem set_exc {ws : Array Value} {sl : Array (Option Value)} {Q : Unit → Shared → Prop} (X : K.In s.heap) (z : excAllI K C fI = true) (he : s.heap.get? x = some ⟨.ref C, none, .fields ws, sl⟩)
    (h : ∀ h', h'.get? x = some ⟨.ref C, some s.heap.objs.size, .fields ws, sl⟩ → h'.Ns1 s.heap.objs.size (fun y => if y = "at" then some v else none) → (∀ b o, b ≠ x → s.heap.get? b = some o → h'.get? b = some o) → Q () { s with heap := h', toks := s.toks + 2 }) :
    wpAny (model prog w) A (setAttr (.ref x) "at" v) Q E s := by
  simp only [excAllI, Bool.and_eq_true, beq_iff_eq] at z
  obtain ⟨z1, z2, z3, z4, z5, z6, hfind⟩ := z
  obtain ⟨bm, N, nm, qn, bs, sn, sub, ab, col, dd, k0, k1, k2, k3, k5, cd, hC, T, hcd, hdi, hmro⟩ := excI_obj X z1
  have J : InstAt s.heap x ⟨.ref C, none, .fields ws, sl⟩ C none := ⟨he, rfl, rfl, True.intro⟩
  refine set_plain X J z3 ?_
  have SF := PySem.F.store_object
  have hob : mroIn K C (.type "object") = some true := by
    simp only [excRest, Bool.and_eq_true, beq_iff_eq] at z2
    exact z2.2.2.2.1
  have sb : Looks (model prog w) s.heap (isInstance (.ref x) (.type "object")) true := J.type.andThen (looks_mroIn X hob)
  refine codeAny_call_builtin SF.slot.plain SF.entry (@check_slot (model prog w) _ _ { s with toks := s.toks + 1 } "object.__setattr__" "object" "__setattr__" (.ref x) [.str "at" s.toks, v] [] _ SF.kind SF.split sb (SF.args (.ref x) (.str "at" s.toks) v) ?_)
  have hm : Looks (model prog w) s.heap (mroOf (.ref C)) cd.mro := (looks_clsIn X hcd).andThen .now
  rw [osa_eq, refuse_eq]
  refine wpAny_bind (wpAny_bind (Looks.here (s := { s with toks := s.toks + 1 }) J.type (wpAny_bind (Looks.here (s := { s with toks := s.toks + 1 }) hm ?_))))
  rw [hmro, refuseLoop_ref, tail_refuse T]
  refine wpAny_pure (wpAny_bind (Looks.here (s := { s with toks := s.toks + 1 }) J.type (wpAny_bind (Looks.here (s := { s with toks := s.toks + 1 }) (looks_findIn X z4) (wpAny_bind (wpAny_pure ?_))))))
  refine wpAny_bind (wpAny_pure (wpAny_bind (wpAny_bind (wpAny_loadPart he (wpAny_bind (Looks.here (s := { s with toks := s.toks + 1 }) (looks_clsIn X hcd) ?_))))))
  rw [hdi]
  have xs : x ≠ s.heap.objs.size := Nat.ne_of_lt (Heap.lt_size he)
  have e1 : (s.heap.push { cls := .type "dict", data := .dict #[] }).get? x = some ⟨.ref C, none, .fields ws, sl⟩ := Heap.get?_push_of_some _ he
  refine wpAny_bind (wpAny_alloc' (wpAny_bind (wpAny_update' e1 (wpAny_pure ?_))))
  let h1 := (s.heap.push { cls := .type "dict", data := .dict #[] }).update x fun o => { cls := o.cls, dict := some s.heap.objs.size, data := o.data, slots := o.slots }
  have gx : h1.get? x = some ⟨.ref C, some s.heap.objs.size, .fields ws, sl⟩ := Heap.get?_update_self _ e1 rfl
  have gd : h1.get? s.heap.objs.size = some { cls := .type "dict", data := .dict #[] } := (Heap.get?_update_ne _ _ _ _ xs.symm).trans (Heap.get?_push_at rfl rfl)
  have nd : h1.Ns s.heap.objs.size (fun _ => none) := ⟨_, #[], _, gd, rfl, fun e he => absurd he (by simp), fun _ => rfl⟩
  show wpAny _ _ (Builtin.ObjectAttr.storeInDict s.heap.objs.size (.str "at" s.toks) "at" v) _ _ _
  unfold Builtin.ObjectAttr.storeInDict Builtin.ObjectAttr.newKeyGuard
  refine wpAny_bind (wpAny_pure (wpAny_bind (wpAny_nsSet1 (Heap.Ns1.of_empty nd) fun h2 n2 b2 => ?_)))
  obtain ⟨oD, esD, epD, hoD, hdD, hcD⟩ := n2.count (Within.cons "at" v Within.nil)
  refine wpAny_bind (wpAny_lookBehind hoD (by rw [hdD]; exact pastItsLine_dict (Nat.le_trans hcD (by rw [List.length_cons, List.length_nil, sizeLine_eq]; omega))) ?_)
  refine wpAny_pure (h h2 ((b2.2 x xs).trans gx) n2 fun b o hb e => ?_)
  exact (b2.2 b (Nat.ne_of_lt (Heap.lt_size e))).trans ((Heap.get?_update_ne _ _ _ _ hb).trans (Heap.get?_push_of_some _ e))
/-- the object that __new__ makes -/
abbrev newExc (C t : Addr) : Obj := { cls := .ref C, data := .fields #[.ref t, .none, .none, .none, .bool false, .none] }
theorem exc_callI {rest : List Value} {Q : Value → Shared → Prop} (X : K.In s.heap) (z : excAllI K C fI = true) (hrest : rest.length ≤ sizeLine)
    (hq : ∀ h' e, Heap.MadeExcOf s.heap h' e (.ref C) rest → wpAny (model prog w) (A.under (.builtin "type.__call__" ⟨.ref C :: rest, []⟩)) (call (.ref fI) (.ref e :: rest)) (fun r s' => r = .none ∧ Q (.ref e) s') E { s with heap := h' }) :
    wpAny (model prog w) A (call (.ref C) rest) Q E s := by
  simp only [excAllI, Bool.and_eq_true, beq_iff_eq] at z
  obtain ⟨z1, z2, z3, z4, z5, z6, hfind⟩ := z
  obtain ⟨bm, N, nm, qn, bs, sn, sub, ab, col, dd, k0, k1, k2, k3, k5, cd, hC, T, hcd, hdi, hmro⟩ := excI_obj X z1
  have FB := PySem.F.excBase_ValueError
  have hfn : typeIn K (.ref fI) = some (.type "function") := beq_iff_eq.mp z5
  obtain ⟨h, g, d, t, os⟩ := s
  dsimp only at X hC T hq
  let h2 := (h.push { cls := .type "tuple", data := .seq rest.toArray }).push (newExc C h.objs.size)
  have kp : ∀ b o, h.get? b = some o → h2.get? b = some o := fun b o e => Heap.get?_push_of_some _ (Heap.get?_push_of_some _ e)
  have X2 : K.In h2 := X.keeps kp
  have ge : h2.get? (h.objs.size + 1) = some (newExc C h.objs.size) := by heap_get
  have hm2 : Heap.MadeExcOf h h2 (h.objs.size + 1) (.ref C) rest := ⟨kp, Heap.get?_none_of_le (Nat.le_succ _), h.objs.size, ge, Heap.get?_none_of_le (Nat.le_refl _), Heap.get?_push_of_some _ (Heap.get?_push_at rfl rfl)⟩
  have hC2 := kp _ _ hC
  have f1 := tc_lookup
  have f2 := tc_bind (.ref C)
  have hT : (⟨h, g, d, t, os⟩ : Shared).TypeIs (.ref C) "type" := ⟨_, hC, rfl⟩
  have hcC : (Value.ref C :: bm).contains (.ref C) = true := by simp
  refine wpAny_call (codeAny_of_tree ?_)
  show wpAny _ _ (callAny (.ref C) _) _ _ _
  repeat (any_goals (first | with_reducible refine wpAny_loadPart_at hC ?_ | assumption | wp_step))
  refine ⟨rfl, codeAny_call_builtin_at (Code.quiet_builtin _ (by decide +kernel)) entry_typeCall (wpAny_check_type_call_sub hC ?_)⟩
  repeat (first | with_reducible refine wpAny_madeBy_exc hC ?_ | with_reducible refine wpAny_loadPart_at hC ?_ | wp_step)
  refine codeAny_call_builtin_code (Code.quiet_builtin _ FB.quiet) (wpAny_check_new_subT FB T hC (codeAny_exc_new_subT FB T hC ?_ hrest))
  show wpAny _ _ _ _ _ _
  unfold isInstance
  repeat (first | with_reducible refine wpAny_loadPart_at ge ?_ | (with_reducible refine wpAny_isSubtype_exc hC2 ?_; rw [hcC]) | wp_step)
  show wpAny _ _ (isSubtype (.ref C) (.ref C)) _ _ _
  refine wpAny_isSubtype_exc hC2 ?_
  rw [hcC]
  have J : InstAt h2 (h.objs.size + 1) (newExc C h.objs.size) C none := ⟨ge, rfl, rfl, True.intro⟩
  refine wpAny_bind (wpAny_holding (special_fn (s := ⟨h2, g, d, t, os⟩) X2 J hfind hfn (wpAny_mono (hq h2 _ hm2) (fun r s' hr => ?_) fun _ _ q => q)))
  obtain ⟨rfl, q⟩ := hr
  exact wpAny_pure q
end
end L2

set_option Elab.async false
set_option linter.all false
set_option maxRecDepth 100000
set_option maxHeartbeats 4000000
namespace L2
open PySem PySem.Spec PyProof.Rows PySem.W
/-! ### the rules: self.at = v in __init__, raise C(v), e.at -/
def isNew (ea C : Addr) : HO := .ext fun h => ∃ t, h.get? ea = some (newExc C t)
def isMade (ea C dx : Addr) : HO := .ext fun h => ∃ t, h.get? ea = some { newExc C t with dict := some dx }
/-- __init__(self, at): self.at = at -/
def spInit (C : Addr) : Sp := fun vs H Q _ => ∃ (ea : Addr) (v : V), vs = [.ref ea, v] ∧ H ea = some (isNew ea C) ∧ ∀ dx, H dx = none → dx ≠ ea → Q .non (upd (upd H dx (.xd [("at", v)])) ea (isMade ea C dx))
def tSetE (K : Frag) (C fI : Addr) (ta tv : TE) : TS := fun D σ H => tv σ H fun y H1 => ta σ H1 fun x H2 => ∃ ea, x = .ref ea ∧ H2 ea = some (isNew ea C) ∧ excAllI K C fI = true ∧ ∀ dx, H2 dx = none → dx ≠ ea → D.nx σ (upd (upd H2 dx (.xd [("at", y)])) ea (isMade ea C dx))
theorem push_back {h : Heap} {o ob : Obj} {b : Addr} (q : (h.push o).get? b = some ob) (hb : b ≠ h.objs.size) : h.get? b = some ob := by
  obtain ⟨e, f⟩ := Heap.get?_some_iff.mp q
  refine Heap.get?_some_iff.mpr ⟨?_, f⟩
  have e : (h.objs.push o)[b]? = some ob := e
  rw [Array.getElem?_push] at e
  split at e
  · exact absurd ‹_› hb
  · exact e
section
variable {X : Cx} {o value : Expr} {pos pos' : Pos} {ta tv : TE} {C fI : Addr}
theorem ps_setE (ha : PE X o ta) (hv : PE X value tv) (hs : swapsWith value (some (.Attribute o "at" pos')) pos.line X.env = pure false) : PS X (.Assign [.Attribute o "at" pos'] value pos) (tSetE X.K C fI ta tv) := by
  intro pins s σ H D I h
  refine plainObj_wpAny_Assign_Attribute (thn (hv pins s σ H _ I h) fun u s1 ⟨y, H1, I1, ry, q⟩ => thn (ha pins s1 σ H1 _ I1 q) fun ov s2 ⟨x, H2, I2, rx, ea, ex, he, hz, k⟩ => ?_) hs
  subst ex
  obtain rfl : ov = Value.ref ea := rx
  obtain ⟨⟨t, ht⟩, _⟩ := (show ObjOk X.prog X.w H2 s2.heap ea (isNew ea C) from I2.hok _ _ he)
  refine set_exc I2.kIn hz ht fun h' e1 n1 k1 => ?_
  let dx := s2.heap.objs.size
  have hdx : H2 dx = none := I2.hok.fresh (Nat.le_refl _)
  have hne : dx ≠ ea := Nat.ne_of_gt (Heap.lt_size ht)
  obtain ⟨od, es, ep, hod, r⟩ := id n1
  have fr : od.isFreed = false := (Heap.get?_some_iff.mp hod).2
  have g1 : (s2.heap.push od).get? dx = some od := Heap.get?_push_at rfl fr
  have I3 : Inv X pins σ (upd H2 dx (.xd [("at", y)])) { s2 with heap := s2.heap.push od, toks := s2.toks } := by
    refine I2.laid (a := dx) (t' := s2.toks) (fun b ob q => Heap.get?_push_of_some _ q) (Nat.le_refl _) ⟨_, ⟨od, es, ep, g1, r⟩, fun f => ?_⟩
    show RelO (List.lookup f [("at", y)]) (if f = "at" then some u else none)
    by_cases hf : f = "at"
    · rw [if_pos hf, hf]
      exact ry
    · rw [if_neg hf]
      have : (f == ("at" : Str)) = false := beq_eq_false_iff_ne.mpr hf
      rw [List.lookup_cons, this]
      exact True.intro
  have h3 : upd H2 dx (.xd [("at", y)]) ea = some (isNew ea C) := by rw [upd_ne hne.symm]; exact he
  refine ⟨σ, _, I3.write (x := ea) (e := ea) (t' := s2.toks + 2) (h' := h') (o := isMade ea C dx) (by rw [h3]; exact True.intro) (.inl rfl) (fun b ob hb q => ?_) ⟨_, e1⟩ ?_, k dx hdx hne⟩
  · by_cases hbd : b = dx
    · subst hbd
      rw [show (s2.heap.push od).get? dx = some od from g1] at q
      cases q
      exact hod
    · exact k1 b ob hb (push_back q hbd)
  · exact ⟨⟨t, e1⟩, ⟨_, e1⟩, fun g1 g2 ⟨t1, z1⟩ kk => ⟨t1, kk _ z1⟩⟩
theorem HOk.track {P : Program} {w : World} {H : Hp} {h : Heap} {a : Addr} {o : HO} (x : HOk P w H h) (h1 : H a = none) (new : ObjOk P w (upd H a o) h a o) : HOk P w (upd H a o) h := fun b u e => by
  by_cases hb : b = a
  · subst hb
    rw [upd_same] at e
    cases e
    exact new
  · rw [upd_ne hb] at e
    exact (x b u e).stay (fun _ _ _ z => z) (fun c z => by rw [upd_ne (ne_of_none z h1)]; exact z) fun c xs z => by rw [upd_ne (ne_of_none z h1)]; exact z
/-- an exception that is there is raised -/
theorem raise_made {M : Model} {A : Around} {E : Value → Shared → Prop} {s : Shared} {env : Env} {x : Sem Value} {K : Frag} {C fI : Addr} {Q : Flow → Shared → Prop} (z : excAllI K C fI = true) (hh : A.handled = none)
    (h : wpAny M A x (fun v s1 => ∃ e t dx, v = .ref e ∧ K.In s1.heap ∧ s1.heap.get? e = some { newExc C t with dict := dx } ∧ E (.ref e) s1) E s) : wpAny M A (raiseStmt env (some x) none) Q E s := by
  simp only [excAllI, Bool.and_eq_true, beq_iff_eq] at z
  obtain ⟨z1, zr, _⟩ := z
  simp only [excRest, Bool.and_eq_true, beq_iff_eq] at zr
  obtain ⟨z2, z3, z4, z5, z6, z7, z8, z9⟩ := zr
  unfold raiseStmt
  refine wpAny_bind (wpAny_mono h (fun v s1 q => ?_) fun _ _ q => q)
  obtain ⟨e, t, dx, rfl, X, he, hE⟩ := q
  have L3 := looks_mroIn (M := M) X z6
  obtain ⟨bm, N, nm, qn, bs, sn, sub, ab, col, dd, k0, k1, k2, k3, k5, cd, hC, _⟩ := excI_obj X z1
  obtain ⟨hp, g, d, tk, os⟩ := s1
  dsimp only at he X L3 hC
  repeat (first | with_reducible refine wpAny_loadPart_at he ?_ | with_reducible refine wpAny_loadPart_at hC ?_ | (show wpAny _ _ (isSubtype (.ref C) (.type "BaseException")) _ _ _; refine Looks.here (s := ⟨hp, g, d, tk, os⟩) L3 ?_) | wp_step)
  exact wpAny_raiseNew_none hh hE
/-- raise C(v) -/
def tRaiseI (C : Addr) (E : XK) (t : TA) : TS := fun _ σ H => t σ H fun vs H1 => ∃ v : V, vs = [v] ∧ ∀ dx, H1 dx = none → E (.ref C) (some dx) (upd H1 dx (.xd [("at", v)]))
theorem ps_raiseI {E : XK} {x : Str} {k : Nat} {fd : FuncData} {e0 : Expr} {t : TA} {np cpos pos : Pos} (hT : Takes X E) (hg : Gl X x) (hm : X.mg x = some (.ref C)) (hz : excAllI X.K C fI = true)
    (F : FnOk X.prog X.w X.K X.mg X.base CX0 k fI fd ["self", "at"] (spInit C)) (hb : Binds X.K fd ["self", "at"] []) (hr : Room (k + 1) X.A) (ha : PA X [e0] t) (hc : X.calm = true := by rfl) (hex : X.ex = [] := by rfl)
    (he : starEach [e0] X.env = (false, eval e0 X.env) :: starEach [] X.env := by rfl) (hd : (x == ("__debug__" : Str)) = false := by decide) :
    PS X (.Raise (some (.Call (.Name x np) [e0] [] cpos)) none pos) (tRaiseI C E t) := by
  intro pins s σ H D I h
  rw [arm_exec_Raise]
  refine wpAny_bind (wpAny_standAt (raise_made (K := X.K) (C := C) (fI := fI) hz (I.ok.hd hc) (wpAny_bind (wpAny_mono (wpAny_Call_ofName (ld_glob I hg hm ?_ hd)) (fun v s₃ h₃ => wpAny_bind (wpAny_standAt (wpAny_pure h₃))) fun _ _ x => x))))
  have hkp : keepIn X.K (.ref C) = true := by
    simp only [excAllI, Bool.and_eq_true] at hz
    exact hz.2.2.2.2.2.1
  refine PySem.W.callWith_K (h₀ := X.base) I.ok.mod.kin hkp (thn (ha cpos pins s σ H _ I h) fun us s1 ⟨vs, H1, I1, r, v, ev, hE⟩ => ⟨I1.kIn, ?_⟩) he rfl
  subst ev
  obtain ⟨u, rfl, ru⟩ : ∃ u, us = [u] ∧ RelV v u := by
    cases r with
    | cons r1 r2 => cases r2; exact ⟨_, rfl, r1⟩
  have hz2 : 1 ≤ sizeLine := by decide
  refine exc_callI I1.kIn hz hz2 fun h' e hm2 => ?_
  obtain ⟨tt, ge, _, _⟩ := hm2.there
  have H1e : H1 e = none := I1.hok.none_of hm2.new
  have hok2 : HOk X.prog X.w (upd H1 e (isNew e C)) h' := (I1.hok.kept hm2.keeps).track H1e ⟨⟨tt, ge⟩, ⟨_, ge⟩, fun g1 g2 ⟨t1, z1⟩ kk => ⟨t1, kk _ z1⟩⟩
  have I2 : Inv X pins σ (upd H1 e (isNew e C)) { s1 with heap := h' } := I1.call' (ch := []) rfl ((Un.kept hm2.keeps).ext H1e hm2.new) hok2 I1.bare fun b z => absurd z (by simp)
  refine wpAny_call (codeAny_mono (F.run _ X.stack _ (upd H1 e (isNew e C)) ⟨[.ref e, u], []⟩ [.ref e, u] [.ref e, v] (fun rv Hn => rv = .non ∧ ∃ dx, upd H1 e (isNew e C) dx = none ∧ dx ≠ e ∧ Hn = upd (upd (upd H1 e (isNew e C)) dx (.xd [("at", v)])) e (isMade e C dx)) E0
    (hr.make C [u] []) (I2.env0.make C [u] []) (hb _ [.ref e, u] I2.kIn rfl) (.cons rfl (.cons ru .nil)) ⟨e, v, rfl, upd_same, fun dx a b => ⟨rfl, dx, a, b, rfl⟩⟩) fun rr s' hq' => ?_)
  cases rr with
  | error er => exact False.elim hq'
  | ok fl =>
    cases fl with
    | next => exact False.elim hq'
    | brk => exact False.elim hq'
    | cont => exact False.elim hq'
    | ret u' =>
      obtain ⟨rv, Hn, os', bare', un, hok', rel, erv, dx, hd1, hd2, eHn⟩ := hq'
      subst erv eHn
      obtain ⟨⟨t3, ge3⟩, _⟩ := (show ObjOk X.prog X.w _ s'.heap e (isMade e C dx) from hok' e _ upd_same)
      have I3 := I2.call' (s' := s') (ch := []) os' un hok' bare' fun b z => absurd z (by simp)
      have H1d : H1 dx = none := by rw [upd_ne hd2] at hd1; exact hd1
      have heq : ∀ b, b ≠ e → upd (upd (upd H1 e (isNew e C)) dx (.xd [("at", v)])) e (isMade e C dx) b = upd H1 dx (.xd [("at", v)]) b := fun b hb => by
        rw [upd_ne hb]
        by_cases hd : b = dx
        · rw [hd, upd_same, upd_same]
        · rw [upd_ne hd, upd_ne hb, upd_ne hd]
      have H4e : upd H1 dx (.xd [("at", v)]) e = none := by rw [upd_ne hd2.symm]; exact H1e
      have nb : ∀ b o, s1.heap.get? b = some o → b ≠ e := fun b o q z => by rw [z, hm2.new] at q; cases q
      have un4 : Un (frs X.stack) [] H1 (upd H1 dx (.xd [("at", v)])) s1.heap s'.heap := {
        keep := fun b o q n hb hx => un.keep b o (hm2.keeps _ _ q) (by rw [upd_ne (nb b o q)]; exact n) hb hx
        slot := fun b o q n hb hx => un.slot b o (hm2.keeps _ _ q) (by rw [upd_ne (nb b o q)]; exact n) hb hx
        free := fun b o q n hx => by
          have z := un.free b o (hm2.keeps _ _ q) (by rw [upd_ne (nb b o q)]; exact n) hx
          rw [heq b (nb b o q)] at z
          exact z
        there := fun b o q hx => un.there b o (hm2.keeps _ _ q) hx
        tups := fun b xs q => by rw [upd_ne (ne_of_none q H1d)]; exact q
        frzs := fun b o xs q => by rw [upd_ne (ne_of_none q H1d)]; exact q
        tbls := fun b ps q => ⟨#[], by rw [upd_ne (ne_of_none q H1d), q]; simp⟩ }
      have hok4 : HOk X.prog X.w (upd H1 dx (.xd [("at", v)])) s'.heap := fun a o q => by
        have hae : a ≠ e := ne_of_none q H4e
        refine (hok' a o (by rw [heq a hae]; exact q)).stay (fun _ _ _ z => z) (fun b z => ?_) fun b xs z => ?_
        · by_cases hb : b = e
          · subst hb
            rw [upd_same] at z
            cases z
          · rw [← heq b hb]; exact z
        · by_cases hb : b = e
          · subst hb
            rw [upd_same] at z
            cases z
          · rw [← heq b hb]; exact z
      have I4 : Inv X pins σ (upd H1 dx (.xd [("at", v)])) s' := I1.call' (ch := []) os' un4 hok4 bare' fun b z => absurd z (by simp)
      refine ⟨rel, e, t3, some dx, rfl, I3.kIn, ge3, ?_⟩
      refine hT pins σ _ s' e _ _ _ I4 H4e ?_ ge3 rfl rfl rfl (hE dx H1d)
      cases q : X.s₀.heap.get? e with
      | none => rfl
      | some o =>
        obtain ⟨o', z⟩ := I1.base.there e o q (by rw [hex]; intro y; cases y)
        rw [hm2.new] at z
        cases z
theorem excAllI.rest {K : Frag} {C fI : Addr} (z : excAllI K C fI = true) : excRest K C = true := by
  simp only [excAllI, Bool.and_eq_true] at z
  exact z.2.1
end
end L2

set_option Elab.async false
set_option linter.all false
set_option maxRecDepth 100000
set_option maxHeartbeats 4000000
namespace Lv
open PySem L2 PySem.W
/-- a class of the text's own errors with an own __init__ -/
def excTabI (K : Frag) (reel C fI : Addr) (all : List Addr) : Bool := excAllI K C fI && (exmOne K (.ref C) (.ref reel) == some true && (exmOne K (.ref C) (.ref C) == some true && (kitOne K (.ref C) (.ref reel) == some true && (kitOne K (.ref C) (.type "ValueError") == some true && all.all fun D => kitOne K (.ref C) (.ref D) == some (D == C)))))
structure ExcTabI (K : Frag) (reel C fI : Addr) (all : List Addr) : Prop where
  ok : excAllI K C fI = true
  exm : exmOne K (.ref C) (.ref reel) = some true
  exmS : exmOne K (.ref C) (.ref C) = some true
  isR : kitOne K (.ref C) (.ref reel) = some true
  isV : kitOne K (.ref C) (.type "ValueError") = some true
  one : ∀ D ∈ all, kitOne K (.ref C) (.ref D) = some (D == C)
theorem ExcTabI.of {K : Frag} {reel C fI : Addr} {all : List Addr} (h : excTabI K reel C fI all = true) : ExcTabI K reel C fI all := by
  simp only [excTabI, Bool.and_eq_true, beq_iff_eq, List.all_eq_true] at h
  exact ⟨h.1, h.2.1, h.2.2.1, h.2.2.2.1, h.2.2.2.2.1, h.2.2.2.2.2⟩
theorem ExcTabI.any {K : Frag} {reel C fI : Addr} {all : List Addr} (h : ExcTabI K reel C fI all) : ∀ {cs : List Addr}, (∀ D ∈ cs, D ∈ all) → kitAny K (.ref C) (cs.map Value.ref) = some (cs.any (· == C))
  | [], _ => rfl
  | D :: cs, hs => by
    have h1 := h.one D (hs D List.mem_cons_self)
    rw [List.map_cons, kitAny, h1, List.any_cons]
    cases e : (D == C) with
    | true => rfl
    | false => exact h.any fun E hE => hs E (List.mem_cons_of_mem _ hE)
theorem ExcTabI.none {K : Frag} {reel C fI : Addr} {all cs : List Addr} (h : ExcTabI K reel C fI all) (hs : ∀ D ∈ cs, D ∈ all) (hn : ∀ D ∈ cs, D ≠ C) : kitAny K (.ref C) (cs.map Value.ref) = some false := by
  rw [h.any hs]
  congr 1
  rw [List.any_eq_false]
  intro D hD z
  exact hn D hD (beq_iff_eq.mp z)
/-- the i-th statement of a class's body -/
def inCls (s : Stmt) (i : Nat) : Stmt := match s with
  | .ClassDef _ _ _ b _ _ _ _ _ _ _ => b.getD i (.Pass ⟨0, 0, 0, 0⟩)
  | s => s
theorem callK_isinstED (K : Frag) {X : Cx} (hK : X.K = K := by rfl) : CallR X (.builtin "isinstance") (fun xs H Q => ∃ (ea C : Addr) (y : V) (c : Value) (b : Bool), xs = [.ref ea, y] ∧ (∃ od, H ea = some (isExc ea C od)) ∧ excRest K C = true ∧ (y = .ty "ValueError" ∧ c = .type "ValueError" ∨ ∃ D, y = .ref D ∧ c = .ref D) ∧ kitOne K (.ref C) c = some b ∧ Q (.bl b) H) := by subst hK; exact call_isinstED
theorem callK_isinstETD (K : Frag) {X : Cx} (hK : X.K = K := by rfl) : CallR X (.builtin "isinstance") (fun xs H Q => ∃ (ea C tp : Addr) (cs : List Addr) (b : Bool), xs = [.ref ea, .ref tp] ∧ (∃ od, H ea = some (isExc ea C od)) ∧ excRest K C = true ∧ H tp = some (.tup (cs.map V.ref)) ∧ kitAny K (.ref C) (cs.map Value.ref) = some b ∧ Q (.bl b) H) := by subst hK; exact call_isinstETD
end Lv

set_option Elab.async false
set_option linter.all false
set_option maxRecDepth 100000
set_option maxHeartbeats 4000000
namespace Lv
open PySem L2
/-- a phase of these counts -/
def PhOk (c : List Int) (out m : Int) : Prop := (0 ≤ out ∧ out < (c.length : Int)) ∧ (c.getD out.toNat 0 ≤ 0 ∧ (1 ≤ m ∧ m ≤ mxl c))
instance (c : List Int) (out m : Int) : Decidable (PhOk c out m) := by unfold PhOk; infer_instance
theorem PhOk.nat {c : List Int} {out m : Int} (h : PhOk c out m) (hnn : ∀ x ∈ c, 0 ≤ x) : ∃ n : Nat, out = n ∧ n < c.length ∧ c[n]? = some 0 := by
  obtain ⟨⟨h1, h2⟩, h3, _⟩ := h
  refine ⟨out.toNat, by omega, by omega, ?_⟩
  have hn : out.toNat < c.length := by omega
  rw [List.getD_eq_getElem?_getD, List.getElem?_eq_getElem hn] at h3
  rw [List.getElem?_eq_getElem hn]
  have := hnn _ (List.getElem_mem hn)
  congr 1
  simp only [Option.getD_some] at h3
  omega
def spPlaceB : Sp := fun vs H Q _ => ∃ i n : Int, vs = [.int i, .int n] ∧ Q (.bl (decide (0 ≤ i ∧ i < n))) H
def spIsPhB : Sp := fun vs H Q _ => ∃ (a q : Addr) (c : List Int) (out m : Int), vs = [.ref a, .ref q] ∧ H a = some (.tup (c.map V.int)) ∧ H q = some (.tup [.int out, .int m]) ∧ c ≠ [] ∧ (∀ x ∈ c, 0 ≤ x) ∧ Q (.bl (decide (PhOk c out m))) H
def spPhDoneI (C : Addr) : Sp := fun vs H Q E => ∃ (a q : Addr) (p : Nat) (c : List Int) (out m : Int), vs = [.ref a, .ref q] ∧ H a = some (.tup (c.map V.int)) ∧ H q = some (.tup [.int out, .int m]) ∧ Stand p c ∧
  (PhOk c out m → ∀ l H', H l = none → H' l = some (.tup ((behindP c out.toNat m).map V.int)) → Same H H' → Q (.ref l) H') ∧ (¬ PhOk c out m → ∀ H1 dx, Same H H1 → H1 dx = none → E (.ref C) (some dx) (upd H1 dx (.xd [("at", .int 0)])))
end Lv

set_option Elab.async false
set_option linter.all false
set_option maxRecDepth 100000
set_option maxHeartbeats 4000000
namespace Lv
open PySem L2
/-! ### plans: lists of pairs of ints -/
def prT (p : Int × Int) : List Int := [p.1, p.2]
/-- the walk -/
def wk : List Int → List (Int × Int) → Nat → Except Nat (List Int)
  | c, [], _ => .ok c
  | c, (o, m) :: r, i => if PhOk c o m then wk (behindP c o.toNat m) r (i + 1) else .error i
def fin (c : List Int) (ps : List (Int × Int)) : Except Nat (List Int) := match wk c ps 0 with
  | .ok d => if 1 < d.sum then .error ps.length else .ok d
  | .error i => .error i
theorem behind_len (c : List Int) (o : Nat) (m : Int) : (behindP c o m).length = c.length := by unfold behindP; rw [List.length_set, List.length_map]
/-- on the way: i phases are done, and c is what they left -/
structure Way (c0 : List Int) (ps : List (Int × Int)) (i : Nat) (c : List Int) : Prop where
  wk : wk c0 ps 0 = wk c (ps.drop i) i
  len : c.length = c0.length
  nn : ∀ x ∈ c, 0 ≤ x
theorem Way.start {c : List Int} {ps : List (Int × Int)} (h : ∀ x ∈ c, 0 ≤ x) : Way c ps 0 c := ⟨rfl, rfl, h⟩
theorem Way.no {c0 c : List Int} {ps : List (Int × Int)} {i : Nat} {o m : Int} (h : Way c0 ps i c) (e : ps[i]? = some (o, m)) (hn : ¬ PhOk c o m) : fin c0 ps = .error i := by
  have hi := (List.getElem?_eq_some_iff.mp e).1
  have e2 : ps.drop i = (o, m) :: ps.drop (i + 1) := by rw [List.drop_eq_getElem_cons hi, (List.getElem?_eq_some_iff.mp e).2]
  unfold fin
  rw [h.wk, e2, Lv.wk, if_neg hn]
theorem Way.yes {c0 c : List Int} {ps : List (Int × Int)} {i : Nat} {o m : Int} (h : Way c0 ps i c) (e : ps[i]? = some (o, m)) (hy : PhOk c o m) : Way c0 ps (i + 1) (behindP c o.toNat m) := by
  have hi := (List.getElem?_eq_some_iff.mp e).1
  have e2 : ps.drop i = (o, m) :: ps.drop (i + 1) := by rw [List.drop_eq_getElem_cons hi, (List.getElem?_eq_some_iff.mp e).2]
  refine ⟨?_, by rw [behind_len]; exact h.len, behind_nn (by have := hy.2.2.1; omega)⟩
  rw [h.wk, e2, Lv.wk, if_pos hy]
theorem Way.done {c0 c : List Int} {ps : List (Int × Int)} (h : Way c0 ps ps.length c) : fin c0 ps = if 1 < c.sum then .error ps.length else .ok c := by
  unfold fin
  rw [h.wk, List.drop_length]
  rfl
theorem TTs.pr {H : Hp} {rs : List Addr} {ps : List (Int × Int)} (h : TTs H rs (ps.map prT)) {i : Nat} {q : Addr} (e : rs[i]? = some q) : ∃ o m, ps[i]? = some (o, m) ∧ H q = some (.tup [.int o, .int m]) := by
  have hl : rs.length = ps.length := by simpa using h.1
  have hi : i < ps.length := by have := (List.getElem?_eq_some_iff.mp e).1; omega
  refine ⟨ps[i].1, ps[i].2, List.getElem?_eq_getElem hi, h.2 i q (prT ps[i]) e ?_⟩
  rw [List.getElem?_map, List.getElem?_eq_getElem hi]
  rfl
def spPlDoneI (K : PySem.W.Frag) (C : Addr) : Sp := fun vs H Q E => ∃ (a b : Addr) (bb : Bool) (p : Nat) (c : List Int) (rs : List Addr) (ps : List (Int × Int)), vs = [.ref a, .ref b] ∧ H a = some (.tup (c.map V.int)) ∧ Stand p c ∧ SqB bb K H b (rs.map V.ref) ∧ TTs H rs (ps.map prT) ∧
  (∀ d, fin c ps = .ok d → ∀ l H', H' l = some (.tup (d.map V.int)) → Same H H' → Q (.ref l) H') ∧ (∀ i : Nat, fin c ps = .error i → ∀ H1 dx, Same H H1 → H1 dx = none → E (.ref C) (some dx) (upd H1 dx (.xd [("at", .int i)])))
/-- counts that a plan leads through -/
structure Cts (p : Nat) (c : List Int) : Prop where
  len : c.length = p + 1
  nn : ∀ x ∈ c, 0 ≤ x
  le : ∀ x ∈ c, x ≤ big
  pos : ∃ x ∈ c, 1 ≤ x
end Lv

set_option Elab.async false
set_option linter.all false
set_option maxRecDepth 100000
set_option maxHeartbeats 4000000
namespace Lv
open PySem L2
/-! ### plans whose pairs are bounded -/
/-! ### what is right -/
def finOk (c : List Int) (ps : List (Int × Int)) : Bool := match fin c ps with
  | .ok _ => true
  | .error _ => false
def barB (p N : Nat) (st : List Int) : Option Int → Bool
  | none => decide (N = 0)
  | some b => decide (N ≠ 0) && (decide (0 ≤ b ∧ b < (p : Int)) && decide ((rk st).getD b.toNat 0 > (cnt p (N - 1)).getD b.toNat 0))
def rightB (p N : Nat) (st : List Int) (nb : Int) (ps : List (Int × Int)) (bo : Option Int) : Bool := decide (nb = N) && (decide (ps.length = N) && (finOk st ps && barB p N st bo))
/-! ### promises -/
def spPlaceN : Sp := fun vs H Q _ => ∃ (bo : Option Int) (n : Int), vs = [ovV bo, .int n] ∧ Q (.bl (match bo with | none => false | some i => decide (0 ≤ i ∧ i < n))) H
def spIsBarN : Sp := fun vs H Q _ => ∃ (b a : Addr) (L st : List Int) (bo : Option Int), vs = [.ref b, .ref a, ovV bo] ∧ H b = some (.tup (L.map V.int)) ∧ H a = some (.tup (st.map V.int)) ∧ L.length ≤ st.length ∧ st.length ≤ 8 ∧ ∀ H', Same H H' → Q (.bl (match bo with | none => false | some i => decide (0 ≤ i ∧ i < (L.length : Int)) && decide ((rk st).getD i.toNat 0 > L.getD i.toNat 0))) H'
def spListedB : Sp := fun vs H Q _ => ∃ (a : Addr) (xs : List V) (bb : Bool), vs = [.ref a] ∧ H a = some (if bb then .lst xs else .tup xs) ∧ ∀ H', Same H H' → Q (.bl true) H'
def spIsPlG (K : PySem.W.Frag) : Sp := fun vs H Q _ => ∃ (a b : Addr) (bb : Bool) (p : Nat) (c : List Int) (rs : List Addr) (ps : List (Int × Int)), vs = [.ref a, .ref b] ∧ H a = some (.tup (c.map V.int)) ∧ Stand p c ∧ SqB bb K H b (rs.map V.ref) ∧ TTs H rs (ps.map prT) ∧ ∀ H', Same H H' → Q (.bl (finOk c ps)) H'
def spPhRG (K : PySem.W.Frag) : Sp := fun vs H Q _ => ∃ (a t l : Addr) (bb : Bool) (p N : Nat) (st : List Int) (rs : List Addr) (ps : List (Int × Int)) (nb : Int) (bo : Option Int), vs = [.ref a, .ref t] ∧ H a = some (.tup (st.map V.int)) ∧ Stand p st ∧ Lvl p (rk st) N ∧ H t = some (.tup [.int nb, .ref l, ovV bo]) ∧ H l = some (if bb then .lst (rs.map V.ref) else .tup (rs.map V.ref)) ∧ TTs H rs (ps.map prT) ∧ ∀ H', Same H H' → Q (.bl (rightB p N st nb ps bo)) H'
end Lv

set_option Elab.async false
set_option linter.all false
set_option maxRecDepth 100000
set_option maxHeartbeats 4000000
namespace L2
open PySem PySem.Spec PyProof.Rows PySem.W
/-! ### try: .. except C: .. (the exception has no name) -/
def exTry0 (K : Frag) (n : Nat) (c : Value) (ts : TS) (D : Ends) : XK := fun cls od H' => ∃ C : Addr, cls = .ref C ∧ exmOne K cls c = some true ∧ ∀ ea, H' ea = none → ts D (List.replicate n none) (upd H' ea (isExc ea C od))
def tTry0 (K : Frag) (n : Nat) (c : Value) (tb : XK → TS) (ts : TS) : TS := fun D σ H => tb (exTry0 K n c ts D) D σ H
section
variable {X : Cx}
theorem ps_try0 {body : List Stmt} {b0 : Stmt} {suite : List Stmt} {cx : Str} {c : Addr} {np hpos pos : Pos} {tb : XK → TS} {ts : TS} (hg : Gl X cx) (hm : X.mg cx = some (.ref c))
    (hb : ∀ (Ex : XK) (pn' : List (Addr × Obj)) (xe' : Value → Shared → Prop), Passes (CX1 X.prog X.w) (X.inTry pn' xe') Ex → PSs (X.inTry pn' xe') body (tb Ex)) (hs : ∀ ea : Addr, PSs (X.inSuite ea) (b0 :: suite) ts)
    (hst : X.stack = X.env :: X.outer := by rfl) (hf : X.env.frame = some X.env.locals := by rfl) (hd : (cx == ("__debug__" : Str)) = false := by decide) :
    PS X (.Try body [.ExceptHandler (some (.Name cx np)) none (b0 :: suite) hpos] [] [] pos) (tTry0 X.K X.N.length (.ref c) tb ts) := by
  intro pins s σ H D I h
  refine wpAny_Try_except (wpAny_mono (hb _ (X.pn ++ pins) _ ?_ [] s σ H D (I.inTry _) h) (fun f s1 q => ?_) fun _ _ z => z)
  · intro pins2 σ2 H2 s2 e s2' J hcx
    obtain ⟨ea, cls, od, H', rfl, os', bare', un', hok', ⟨a0, T, oe, oT, vs, ts', ⟨f1, f2, f3, f4⟩, he, ⟨hc, hod⟩, hdd, hv1, hTe, hT, hdT, h3⟩, C, rfl, hex, hrd⟩ := hcx
    have J1 : Inv (X.inTry (X.pn ++ pins) _) pins2 σ2 H' s2' := J.call' (ch := []) os' un' hok' bare' fun b z => absurd z (by simp)
    have hfr : X.A.frames = some (X.env :: X.outer) := J.ok.frames.trans (by rw [← hst])
    have hff : s2'.heap.FunFrames X.base X.stack := J1.stack
    let Z := ea :: T :: frs X.stack
    have hB : ∀ b ∈ frs X.stack, (hideL s2'.heap Z).get? b = none := fun b hb => hideL_mem (List.mem_cons_of_mem _ (List.mem_cons_of_mem _ hb))
    have hff2 : s2'.heap.FunFrames (hideL s2'.heap Z) (X.env :: X.outer) := by rw [← hst]; exact frames_hide hff hB
    -- the state while the exception is looked at
    have at_ : ∀ h' : Heap, Heap.FlyingW (hideL s2'.heap Z) (X.env :: X.outer) ea (.ref C) a0 h' → s2'.heap.UpToSlots h' → DK s2'.heap h' → Inv (X.inSuite ea) pins (List.replicate X.N.length none) (upd H' ea (isExc ea C od)) { s2' with heap := h' } := fun h' hfl up dk => by
      have hkeep : ∀ b o, s2'.heap.get? b = some o → b ∉ Z → h'.get? b = some o := fun b o e n => hfl.1 b o (by rw [hideL_ne n]; exact e)
      have hzl : ∀ z ∈ Z, z ∈ frs X.stack ∨ s2.heap.get? z = none := fun z hz => by
        rcases List.mem_cons.mp hz with rfl | hz
        · exact .inr f3
        · rcases List.mem_cons.mp hz with rfl | hz
          · exact .inr f4
          · exact .inl hz
      have hzn : ∀ z ∈ Z, H' z = none := fun z hz => by
        rcases List.mem_cons.mp hz with rfl | hz
        · exact f1
        · rcases List.mem_cons.mp hz with rfl | hz
          · exact f2
          · exact J1.stkFree z hz
      have u2 : Un (frs X.stack) [] H2 H' s2.heap h' := un'.hide hzl hkeep fun b hb o e => by
        obtain ⟨_, o', ho', hnf⟩ := hff.mem hb
        rw [e] at ho'
        cases ho'
        exact up b o e hnf
      have hx2 : ExcAt ea C od h' := by
        obtain ⟨ob, ws, q1, q2, q3, _⟩ := hfl.first
        exact ⟨ob, q1, q2, (dk.at he q1).trans hod, ws, q3⟩
      have J2 : Inv (X.inTry (X.pn ++ pins) _) pins2 σ2 (upd H' ea (isExc ea C od)) { s2' with heap := h' } := J.call' (ch := []) os' (u2.ext f1 f3) ((hok'.hide hzn hkeep).ext f1 hx2) bare' fun b z => absurd z (by simp)
      have J3 : Inv X pins σ2 (upd H' ea (isExc ea C od)) { s2' with heap := h' } := J2.outTry
      exact (J3.weak (σ' := List.replicate X.N.length none) (by rw [List.length_replicate]; exact J3.len.symm) fun j v z => by
        rw [List.getElem?_replicate] at z
        split at z <;> cases z).inSuite ea
    have hX : X.Ok := I.ok
    refine wpAny_dk dc_noteFrame (wpAny_looks_onW (base := hideL s2'.heap Z) hfr hf ⟨hideL_stays, hideL_mem List.mem_cons_self, hff2, ⟨oe, vs, T, oT, ts', he, hc, hdd, hv1, hideL_mem (List.mem_cons_of_mem _ List.mem_cons_self), hTe, hT, hdT, h3⟩⟩ fun h1 held up1 dk1 => ?_)
    refine wpAny_dk dc_setFlight (wpAny_landsW held fun h2 fly2 up2 dk2 => ?_)
    have JS := at_ h2 fly2 (up1.trans up2) (dk1.trans dk2)
    refine wpAny_handleBy_cons (codeAny_handlers_test ?_) (by intro q; cases q)
    refine ld_glob JS hg hm ?_ hd
    have LT : Looks (model X.prog X.w) h2 (typeOf (.ref ea)) (.ref C) := by
      obtain ⟨ob, e1, e2⟩ := fly2.there
      rw [← e2]
      exact (Looks.ld e1).andThen .now
    refine (exm_one JS.kIn LT hex).here ?_
    refine codeAny_handlers_suite (wpAny_dk dc_setFlight (lands_againW fly2 fun h3' fly3 up3 dk3 => ?_))
    have JS3 := at_ h3' fly3 ((up1.trans up2).trans up3) ((dk1.trans dk2).trans dk3)
    refine wpAny_mono (hs ea pins { s2' with heap := h3' } _ _ _ JS3 (hrd ea f1)) (fun f s5 q => ?_) fun _ _ z => False.elim z
    cases f with
    | next =>
      obtain ⟨σ', H'', I', r⟩ := q
      exact ⟨σ', H'', I'.outSuite hX, r⟩
    | brk =>
      obtain ⟨σ', H'', I', r⟩ := q
      exact ⟨σ', H'', I'.outSuite hX, r⟩
    | cont =>
      obtain ⟨σ', H'', I', r⟩ := q
      exact ⟨σ', H'', I'.outSuite hX, r⟩
    | ret u =>
      obtain ⟨v, σ', H'', I', rv, r⟩ := q
      exact ⟨v, σ', H'', I'.outSuite hX, rv, r⟩
  · cases f with
    | next =>
      obtain ⟨σ', H', I', r⟩ := q
      exact wpAny_execs_nil ⟨σ', H', I'.outTry, r⟩
    | brk => obtain ⟨σ', H', I', r⟩ := q; exact ⟨σ', H', I'.outTry, r⟩
    | cont => obtain ⟨σ', H', I', r⟩ := q; exact ⟨σ', H', I'.outTry, r⟩
    | ret u => obtain ⟨v, σ', H', I', rv, r⟩ := q; exact ⟨v, σ', H', I'.outTry, rv, r⟩
end
end L2

set_option Elab.async false
set_option linter.all false
set_option maxRecDepth 100000
set_option maxHeartbeats 4000000
namespace L2
open PySem PySem.Spec PyProof.Rows
/-! ### closed words: what lies in them is not opened while a term is put together -/
def notStarW : Expr → Bool
  | .Starred .. => false
  | _ => true
theorem star_consW {e : Expr} {es : List Expr} {env : Env} (h : notStarW e = true) : starEach (e :: es) env = (false, eval e env) :: starEach es env := by
  cases e <;> first | rfl | (cases h)
structure WA (X : Cx) (es : List Expr) (t : TA) : Prop where
  out : PA X es t
structure WS (X : Cx) (st : Stmt) (t : TS) : Prop where
  out : PS X st t
structure WSs (X : Cx) (sts : List Stmt) (t : TS) : Prop where
  out : PSs X sts t
section
variable {X : Cx} {st : Stmt} {rest a b : List Stmt} {t u : TS} {c e : Expr} {tc : TT} {pos : Pos} {es : List Expr} {te : TE} {ta : TA}
theorem wss_cons (h1 : WS X st t) (h2 : WSs X rest u) : WSs X (st :: rest) (tSeq t u) := ⟨pss_cons h1.out h2.out⟩
theorem wss_one (h : WS X st t) : WSs X [st] t := ⟨pss_one h.out⟩
theorem wss_nil : WSs X [] tNext := ⟨pss_nil⟩
theorem wss {sts : List Stmt} (h : PSs X sts t) : WSs X sts t := ⟨h⟩
theorem ws_if (hc : PT X c tc) (ha : WSs X a t) (hb : WSs X b u) : WS X (.If c a b pos) (tIfS tc t u) := ⟨ps_if hc ha.out hb.out⟩
theorem ws (h : PS X st t) : WS X st t := ⟨h⟩
theorem wa_nil : WA X [] tNil := ⟨pa_nil⟩
theorem wa_cons (hn : notStarW e = true) (ha : PE X e te) (hr : WA X es ta) : WA X (e :: es) (tCons te ta) := ⟨pa_cons ha hr.out (star_consW hn)⟩
end
section
variable {P : Program} {w : World} {K : PySem.W.Frag} {mg : Str → Option Value} {base : Heap}
theorem okW {x qual : Str} {st : Stmt} {f : Addr} {fd : FuncData} {N ps : List Str} {k : Nat} {sp : Sp} (F : Fun K x qual st f fd) (S : FnScope N ps (defScope st)) (len : ∀ vs H Q E, sp vs H Q E → vs.length = ps.length)
    (hbody : ∀ (cdv : Value) (A : Around) (outer : List Env) (s : Shared) (H : Hp) (vs : List V) (Q : VK) (E : XK), Room k (A.deeper (envOfC qual (defScope st) s.heap.objs.size f cdv)) → sp vs H Q E →
      ∃ t, WSs (cxOf CX0 P w K mg base N qual (defScope st) f cdv A outer s H E).nox (defBody st) t ∧ t { nx := fun _ H' => Q .non H', rt := Q } (start N vs) H) : FnOk P w K mg base CX0 (k + 1) f fd ps sp :=
  F.ok S len fun cdv A outer s H vs Q E hr hsp => by
    obtain ⟨t, h, q⟩ := hbody cdv A outer s H vs Q E hr hsp
    exact ⟨t, h.out, q⟩
end
end L2

set_option Elab.async false
set_option linter.all false
set_option maxRecDepth 100000
set_option maxHeartbeats 4000000
namespace L2
open PySem PySem.Spec PyProof.Rows PySem.SeqAt
/-! ### a dict while a loop walks it -/
section
variable {X : Cx} {pins : List (Addr × Obj)} {σ : St} {H : Hp} {s : Shared} {a : Addr} {u v : HO} {kvs : List (Key × V)}
end
section
variable {X : Cx}
end
/-! ### d.items() -/
section
variable {X : Cx}
end
/-! ### the forms one uses -/
/-! ### dict comprehensions -/
section
variable {prog : Program} {w : World} {A : Around} {R : Result → Shared → Prop} {s : Shared}
end
section
variable {X : Cx} {pins : List (Addr × Obj)} {σ : St} {H H' : Hp} {s s' : Shared} {scope : Scope} {own : List Str} {js : List Nat} {C : Addr} {fp : List Addr}
end
section
variable {X : Cx} {scope : Scope} {own : List Str} {js : List Nat} {kx vx iter target : Expr} {ifs : List Expr} {wi : TI} {g : TG} {tt : TT} {tk tv : TE} {pos : Pos}
end
end L2

set_option Elab.async false
set_option linter.all false
set_option maxRecDepth 100000
set_option maxHeartbeats 4000000
namespace L2
open PySem PyProof.Rows
/-! ### sorting any number of things: runs and merges -/
/-- an order with the key of each thing -/
structure KO extends KeyOrd where
  ky : Keyed → α
namespace KO
variable {O : KO} {x y z : Keyed}
def le (O : KO) (x y : Keyed) : Prop := O.blt (O.ky y) (O.ky x) = false
abbrev Srt (O : KO) (l : List Keyed) : Prop := l.Pairwise O.le
end KO
section
variable {prog : Program} {w : World} {A : Around} {E : Value → Shared → Prop} {s : Shared} {O : KO} {knd : SortKind} {ok : Keyed → Prop} {st : SortSt}
/-- the comparison tells the order, and changes nothing -/
def Asks (prog : Program) (w : World) (A : Around) (s : Shared) (O : KO) (knd : SortKind) (ok : Keyed → Prop) : Prop :=
  ∀ x y, ok x → ok y → ∀ (E : Value → Shared → Prop) (Q : Bool → Shared → Prop), Q (O.blt (O.ky x) (O.ky y)) s → wpAny (model prog w) A (keyLt' knd x.1 y.1) Q E s
end
section
variable {O : KO} {a b out : List Keyed} {ia ib : Nat} {x : Keyed}
/-- what stands of a merge from the front: out is taken, a from ia on and b from ib on are left -/
structure MI (O : KO) (a b out : List Keyed) (ia ib : Nat) : Prop where
  perm : (out ++ (a.drop ia ++ b.drop ib)).Perm (a ++ b)
  srt : O.Srt out
  le : ∀ x ∈ out, ∀ y ∈ a.drop ia ++ b.drop ib, O.le x y
end
section
variable {prog : Program} {w : World} {A : Around} {E : Value → Shared → Prop} {s : Shared} {O : KO} {knd : SortKind} {ok : Keyed → Prop} {st : SortSt}
end
section
variable {O : KO} {a b out : List Keyed} {na nb : Nat} {x : Keyed}
/-- what stands of a merge from the end -/
structure MH (O : KO) (a b out : List Keyed) (na nb : Nat) : Prop where
  perm : (a.take na ++ b.take nb ++ out.reverse).Perm (a ++ b)
  srt : O.Srt out.reverse
  le : ∀ x ∈ a.take na ++ b.take nb, ∀ y ∈ out, O.le x y
end
section
variable {prog : Program} {w : World} {A : Around} {E : Value → Shared → Prop} {s : Shared} {O : KO} {knd : SortKind} {ok : Keyed → Prop} {st : SortSt}
/-! ### runs, wherever they begin -/
/-- the things are those of b₀, and below lo they stand as there -/
structure FB (knd : SortKind) (b₀ : Array Keyed) (p₀ : Array (Nat × Nat × Nat)) (lo : Nat) (st : SortSt) : Prop where
  perm : (arrOf st).Perm b₀
  keep : ∀ i, i < lo → (arrOf st)[i]? = b₀[i]?
  kind : kindOf st = knd
  failed : failedOf st = none
  pend : pendingOf st = p₀
section
variable {b₀ : Array Keyed} {p₀ : Array (Nat × Nat × Nat)} {lo : Nat}
end
end
end L2

set_option Elab.async false
set_option linter.all false
set_option maxRecDepth 100000
set_option maxHeartbeats 4000000
namespace L2
open PySem PyProof.Rows
section
variable {prog : Program} {w : World} {A : Around} {E : Value → Shared → Prop} {s : Shared} {O : KO} {knd : SortKind} {ok : Keyed → Prop} {st : SortSt} {b₀ : Array Keyed} {p₀ : Array (Nat × Nat × Nat)} {lo : Nat}
/-! ### the runs that wait -/
def pos : Nat → List (List Keyed) → List (Nat × Nat)
  | _, [] => []
  | o, r :: rs => (o, r.length) :: pos (o + r.length) rs
def pr (p : Nat × Nat × Nat) : Nat × Nat := (p.1, p.2.1)
/-- runs that stand one behind the other, each sorted, and the rest -/
structure RI (O : KO) (knd : SortKind) (a₀ : List Keyed) (runs : List (List Keyed)) (rest : List Keyed) (st : SortSt) : Prop where
  arr : (arrOf st).toList = runs.flatten ++ rest
  perm : (arrOf st).toList.Perm a₀
  srt : ∀ r ∈ runs, O.Srt r
  ne : ∀ r ∈ runs, 1 ≤ r.length
  kind : kindOf st = knd
  failed : failedOf st = none
  pend : (pendingOf st).toList.map pr = pos 0 runs
end
end L2

set_option Elab.async false
set_option linter.all false
set_option maxRecDepth 100000
set_option maxHeartbeats 4000000
namespace L2
open PySem PyProof.Rows
section
variable {prog : Program} {w : World} {A : Around} {E : Value → Shared → Prop} {s : Shared} {O : KO} {knd : SortKind} {ok : Keyed → Prop} {st τ : SortSt}
end
end L2

set_option Elab.async false
set_option linter.all false
set_option maxRecDepth 100000
set_option maxHeartbeats 4000000
namespace L2
open PySem PyProof.Rows
section
variable {prog : Program} {w : World} {A : Around} {E : Value → Shared → Prop} {s : Shared} {O : KO} {knd : SortKind} {ok : Keyed → Prop}
/-- what sorted asks of its items, in any heap that has all that is here -/
structure Sortable (prog : Program) (w : World) (s : Shared) (O : KO) (vs : List Value) : Prop where
  ex : ∃ (knd : SortKind) (ok : Keyed → Prop), (∀ v ∈ vs, ok (v, v)) ∧ (∀ A h', (∀ b o, s.heap.get? b = some o → h'.get? b = some o) → Asks prog w A { s with heap := h' } O knd ok) ∧
    ∀ (A : Around) (E : Value → Shared → Prop) h', (∀ b o, s.heap.get? b = some o → h'.get? b = some o) → 2 ≤ vs.length → ∀ Q : SortKind → Shared → Prop, Q knd { s with heap := h' } → wpAny (model prog w) A (keyKind' vs.toArray) Q E { s with heap := h' }
/-! ### ints -/
/-! ### tuples of ints -/
end
end L2

set_option Elab.async false
set_option linter.all false
set_option maxRecDepth 100000
set_option maxHeartbeats 4000000
namespace L2
open PySem PySem.Spec PyProof.Rows PySem.SeqAt
section
variable {X : Cx}
end
end L2

set_option Elab.async false
set_option linter.all false
set_option maxRecDepth 100000
set_option maxHeartbeats 4000000
namespace L2
open PySem PySem.Spec PyProof.Rows PySem.SeqAt
section
variable {prog : Program} {w : World} {A : Around} {E : Value → Shared → Prop} {s : Shared} {O : KO}
end
section
variable {X : Cx} {pins : List (Addr × Obj)} {σ : St} {H : Hp} {s : Shared} {h' : Heap}
end
/-- a dict of ints by ints -/
abbrev dI (ps : List (Int × Int)) : HO := .dK (ps.map fun q => (Sum.inl q.1, V.int q.2))
section
variable {X : Cx}
end
end L2

set_option Elab.async false
set_option linter.all false
set_option maxRecDepth 100000
set_option maxHeartbeats 4000000
namespace L2
open PySem PySem.Spec PyProof.Rows
/-! ### a closed word for expressions -/
structure WE (X : Cx) (e : Expr) (t : TE) : Prop where
  out : PE X e t
section
variable {X : Cx} {a b e k v : Expr} {ta tb te tk tv : TE} {pos : Pos} {es : List Expr} {t : TA}
theorem we (h : PE X e te) : WE X e te := ⟨h⟩
theorem we_ix {r : R2} (hr : IxR X r) (ha : WE X a ta) (hb : WE X b tb) (hs : PlainIx b) : WE X (.Subscript a b pos) (tOp r ta tb) := ⟨pe_ix hr ha.out hb.out hs⟩
theorem we_lst (h : WA X es t) : WE X (.List es pos) (tLst t) := ⟨pe_lst h.out⟩
theorem we_tup {x1} (h : WA X es t) : WE X (.Tuple es x1 pos) (tTup t) := ⟨pe_tup h.out⟩
theorem ws_ret (he : WE X e te) : WS X (.Return (some e) pos) (tRet te) := ⟨ps_ret he.out⟩
theorem ws_set {i : Nat} {x : Str} {pos' : Pos} (hN : X.N.Nodup) (hi : X.N[i]? = some x) (hx : Loc X.env.scope x) (he : WE X e te) (hs : swapsWith e (some (.Name x pos')) pos.line X.env = pure false := by rfl) (hf : X.fn x = true ∨ X.env.scope.names.lookup x = some .local := by first | exact .inl rfl | exact .inr rfl | assumption) :
    WS X (.Assign [.Name x pos'] e pos) (tAsg te (gName i)) := ⟨ps_set hN hi hx he.out hs hf⟩
end
end L2

set_option Elab.async false
set_option linter.all false
set_option maxRecDepth 100000
set_option maxHeartbeats 4000000
namespace L2
open PySem PySem.Spec PyProof.Rows
/-! ### a list comprehension of two clauses -/
abbrev two (elt t1 i1 : Expr) (f1 : List Expr) (t2 i2 : Expr) (f2 : List Expr) (scope : Scope) (pos : Pos) : Expr := .ListComp elt [⟨t1, i1, f1, 0⟩, ⟨t2, i2, f2, 0⟩] scope pos
section
variable {prog : Program} {w : World} {A : Around} {R : Result → Shared → Prop} {s : Shared} {elt t1 i1 : Expr} {f1 : List Expr} {t2 i2 : Expr} {f2 : List Expr} {scope : Scope} {pos : Pos} {it acc : Value} {env : Env}
end
end L2

set_option Elab.async false
set_option linter.all false
set_option maxRecDepth 100000
set_option maxHeartbeats 4000000
namespace L2
open PySem PySem.Spec PyProof.Rows
section
variable {X : Cx} {scope : Scope} {own : List Str} {js fr : List Nat} {elt t1 i1 : Expr} {f1 : List Expr} {t2 i2 : Expr} {f2 : List Expr} {wi wi2 : TI} {g1 g2 : TG} {tt1 tt2 : TT} {te : TE} {pos : Pos}
end
end L2

set_option Elab.async false
set_option linter.all false
set_option maxRecDepth 100000
set_option maxHeartbeats 4000000
namespace L2
open PySem PySem.Spec PyProof.Rows
/-! ### what a thing reads as: leaves, lists and tuples -/
mutual
inductive RdN (H : Hp) : V → PyData → Prop
  | non : RdN H .non .none
  | bl (b : Bool) : RdN H (.bl b) (.bool b)
  | int (i : Int) : RdN H (.int i) (.int i)
  | str (x : Str) : RdN H (.str x) (.str x)
  | lst {a : Addr} {xs : List V} {ds : List PyData} : H a = some (.lst xs) → RdL H xs ds → RdN H (.ref a) (.list ds)
  | tup {a : Addr} {xs : List V} {ds : List PyData} : H a = some (.tup xs) → RdL H xs ds → RdN H (.ref a) (.tuple ds)
inductive RdL (H : Hp) : List V → List PyData → Prop
  | nil : RdL H [] []
  | cons {x : V} {xs : List V} {d : PyData} {ds : List PyData} : RdN H x d → RdL H xs ds → RdL H (x :: xs) (d :: ds)
end
section
variable {P : Program} {w : World} {H : Hp} {h : Heap}
end
section
variable {X : Cx}
end
end L2

set_option Elab.async false
set_option linter.all false
set_option maxRecDepth 100000
set_option maxHeartbeats 4000000
namespace L2
open PySem PySem.Spec PyProof.Rows PySem.SeqAt
/-! ### walking a list or a tuple, whichever it is -/
def ItlB (b : Bool) (K : PySem.W.Frag) (a : Addr) : It := match b with | true => Itl K a | false => Itt K a
def iSeqB (K : PySem.W.Frag) (tl : TE) : TI := fun σ H R => tl σ H fun x H1 => ∃ a b, x = .ref a ∧ (∃ xs, SqB b K H1 a xs) ∧ R (ItlB b K a) H1
theorem piK_seqB (K : PySem.W.Frag) {X : Cx} {tg l : Expr} {tl : TE} (hl : PE X l tl) (hK : X.K = K := by rfl) : PI X tg l (iSeqB K tl) := by
  subst hK
  intro pins s σ H R I h
  refine thn (hl pins s σ H _ I h) fun v s1 ⟨x, H1, I1, r1, q1⟩ => ?_
  obtain ⟨a, b, e, ⟨xs, hq⟩, q⟩ := q1
  subst e
  cases r1
  have fp : ∀ b ∈ [s1.heap.objs.size], FpOk X pins H1 b := fun b hb => by
    have e : b = s1.heap.objs.size := by simpa using hb
    subst e
    exact I1.fpOk (Nat.le_refl _) (I1.hok.fresh (Nat.le_refl _))
  cases b with
  | true =>
    obtain ⟨its, rv, p, hz⟩ := I1.list hq
    exact wpAny_pyIter_list p.isList ⟨s1.heap.objs.size, [s1.heap.objs.size], _, _, H1, rfl, I1.kept (t' := s1.toks) fun b o e => Heap.get?_push_of_some _ e, turn_list a _, ⟨_, Heap.get?_push_size _ rfl, rfl, rfl⟩, fp, q⟩
  | false =>
    obtain ⟨its, rv, p, hz⟩ := I1.tuple hq
    exact wpAny_pyIter_tuple (show s1.heap.IsTuple a its.toArray from p) ⟨s1.heap.objs.size, [s1.heap.objs.size], _, _, H1, rfl, I1.kept (t' := s1.toks) fun b o e => Heap.get?_push_of_some _ e, turn_tuple a _, ⟨_, Heap.get?_push_size _ rfl, rfl, rfl⟩, fp, q⟩
theorem pi_seqB {X : Cx} {tg l : Expr} {tl : TE} (hl : PE X l tl) : PI X tg l (iSeqB X.K tl) := piK_seqB X.K hl
theorem itlB_go {b : Bool} {K : PySem.W.Frag} {H : Hp} {a : Addr} {xs : List V} {i : Nat} (q : SqB b K H a xs) (hi : i < xs.length) : (ItlB b K a).go i H := by
  cases b <;> exact ⟨xs, xs[i], q, List.getElem?_eq_getElem hi⟩
theorem itlB_yld {b : Bool} {K : PySem.W.Frag} {H H' : Hp} {a : Addr} {xs : List V} {i : Nat} {x : V} (q : SqB b K H a xs) (y : (ItlB b K a).yld i H x H') : H' = H ∧ xs[i]? = some x := by
  cases b <;> exact ⟨y.1, y.2 xs q⟩
theorem itlB_stop {b : Bool} {K : PySem.W.Frag} {H : Hp} {a : Addr} {xs : List V} {i : Nat} (q : SqB b K H a xs) (hi : xs.length ≤ i) : (ItlB b K a).stop i H := by
  cases b <;> exact ⟨xs, q, hi⟩
section
variable {b : Bool} {K : PySem.W.Frag} {own : List Str} {js : List Nat} {g1 g2 g : TG} {tt1 tt2 tt : TT} {wi2 : TI} {te : TE} {σ τ : St} {H1 H6 : Hp} {Q : VK} {a acc : Addr} {xs : List V}
theorem comp_seqB (Pv : Addr → Nat → Hp → Prop) (h0 : ∀ acc, H1 acc = none → Pv acc 0 (upd H1 acc (.lst []))) (hl : ∀ acc i H, H1 acc = none → i ≤ xs.length → Pv acc i H → SqB b K H a xs)
    (hs : ∀ acc i x H, H1 acc = none → xs[i]? = some x → Pv acc i H → g x (blkσ own js σ) H fun τ H4 => tt τ H4 fun c H5 =>
      if c = true then te τ H5 fun y H6 => ∃ ys, H6 acc = some (.lst ys) ∧ ys.length < sizeLine ∧ (i + 1 ≤ xs.length ∧ Pv acc (i + 1) (upd H6 acc (.lst (ys ++ [y])))) else (i + 1 ≤ xs.length ∧ Pv acc (i + 1) H5))
    (hd : ∀ acc H, H1 acc = none → Pv acc xs.length H → Q (.ref acc) H) : tCompW own js g tt te σ (ItlB b K a) H1 Q := by
  intro acc hacc
  refine ⟨fun i H => i ≤ xs.length ∧ Pv acc i H, xs.length, ⟨Nat.zero_le _, h0 acc hacc⟩, ?_⟩
  rintro i H ⟨hi, p⟩
  have q := hl acc i H hacc hi p
  rcases Nat.lt_or_ge i xs.length with hlt | hge
  · refine .inr ⟨hlt, itlB_go q hlt, fun x H' y => ?_⟩
    obtain ⟨rfl, hx⟩ := itlB_yld q y
    exact hs acc i x _ hacc hx p
  · obtain rfl : i = xs.length := by omega
    exact .inl ⟨itlB_stop q (Nat.le_refl _), hd acc H hacc p⟩
end
end L2

set_option Elab.async false
set_option linter.all false
set_option maxRecDepth 100000
set_option maxHeartbeats 4000000
namespace L2
open PySem PySem.Spec PyProof.Rows PySem.SeqAt
/-! ### things that read alike are alike -/
section
variable {P : Program} {w : World} {H : Hp} {s : Shared}
end
section
variable {X : Cx}
end
end L2

set_option Elab.async false
set_option linter.all false
set_option maxRecDepth 100000
set_option maxHeartbeats 4000000
namespace L2
open PySem PySem.Spec PyProof.Rows PySem.SeqAt
section
variable {X : Cx}
end
end L2

set_option Elab.async false
set_option linter.all false
namespace L2
open PySem PySem.Spec PyProof.Rows PySem.SeqAt
/-- a method in a suite or a comprehension: the fragment named -/
theorem pe_bmK (K : PySem.W.Frag) {X : Cx} {o e : Expr} {es : List Expr} {to : TE} {t : TA} {name : Str} {apos cpos : Pos} {T id : String} {r : V → List V → Hp → VK → Prop} (pa : PlainAttrs T) (slot : Slot T name id) (hty : typeOf (.builtin id) = pure (.type "method_descriptor")) (hm : MtR X id r) (ho : PE X o to) (ha : PA X (e :: es) t) (hK : X.K = K := by rfl)
    (hbase : attributeBase o name X.env (eval o X.env) = eval o X.env := by rfl)
    (hfew : ((backTo cpos (starEach (e :: es) X.env)).all (fun x => !x.1) && (backToKw cpos (keywordEach [] X.env)).all (fun x => x.1.isSome)
      && decide ((e :: es).length + ([] : List Keyword).length + (if ([] : List Keyword).isEmpty then 0 else 1) < 30)) = true := by rfl)
    (hline : (apos.endLine == cpos.line) = true := by rfl) (hs : starEach (e :: es) X.env = (false, eval e X.env) :: starEach es X.env := by rfl) (hplain : (backTo cpos (starEach es X.env)).any (·.1) = false := by rfl) :
    PE X (.Call (.Attribute o name apos) (e :: es) [] cpos) (tBM K T r to t) := by
  subst hK
  exact pe_bm pa slot hty hm ho ha hbase hfew hline hs hplain
end L2

set_option Elab.async false
set_option linter.all false
set_option maxRecDepth 100000
set_option maxHeartbeats 4000000
namespace L2
open PySem PySem.Spec PyProof.Rows PySem.W
/-! ### defs that may be called in the suite of an except: nothing is known of what is handled -/
structure RoomS (k : Nat) (A : Around) : Prop where
  dp : A.depth + 3 * k + 5 < recursionLimit
  un : A.units + 16 * k + 200 < cLine
  gd : A.guards = some []
structure FnOkS (P : Program) (w : World) (K : PySem.W.Frag) (mg : Str → Option Value) (base : Heap) (CX : CXT) (k : Nat) (f : Addr) (fd : FuncData) (ps : List Str) (sp : Sp) : Prop where
  len : ∀ vs H Q E, sp vs H Q E → vs.length = ps.length
  run : ∀ (A : Around) (outer : List Env) (s : Shared) (H : Hp) (args : Args) (us : List Value) (vs : List V) (Q : VK) (E : XK), RoomS k A → Env0 P w K mg base A outer s H → BindsTo s fd args (ps.zip us) → Vals vs us → sp vs H Q E →
    codeAny (model P w) A (.call (.ref f) args) (CR CX outer P w H s Q E) s
section
variable {P : Program} {w : World} {K : PySem.W.Frag} {mg : Str → Option Value} {base : Heap}
end
/-- a def of the text called by its name, in a suite too -/
structure CalS (P : Program) (w : World) (K : PySem.W.Frag) (mg : Str → Option Value) (base : Heap) (k : Nat) (x : Str) (ps : List Str) (sp : Sp) (f : Addr) (fd : FuncData) : Prop where
  ok : FnOkS P w K mg base CX0 k f fd ps sp
  mg : mg x = some (.ref f)
  kp : PySem.W.keepIn K (.ref f) = true
  bd : Binds K fd ps []
section
variable {X : Cx}
end
end L2

set_option Elab.async false
set_option linter.all false
set_option maxRecDepth 100000
set_option maxHeartbeats 4000000
namespace L2
open PySem PySem.Spec PyProof.Rows
section
variable {X : Cx}
end
end L2

set_option Elab.async false
set_option linter.all false
set_option maxRecDepth 100000
set_option maxHeartbeats 4000000
namespace L2
open PySem PySem.Spec PyProof.Rows PySem.SeqAt
/-! ### xs[::-1] of a list -/
section
variable {X : Cx} {e st : Expr} {te : TE} {ts : TO} {pos p2 : Pos}
end
end L2

set_option Elab.async false
set_option linter.all false
set_option maxRecDepth 100000
set_option maxHeartbeats 4000000
namespace Lv
open PySem L2 PySem.Spec PyProof.Rows
/-! ### the script's numbers are of 2 ** 20 bits at most -/
end Lv

set_option Elab.async false
set_option linter.all false
set_option maxRecDepth 100000
set_option maxHeartbeats 4000000
namespace Lv
open PySem L2
/-! ### pots of three, of which so many have been taken -/
def big61 : Int := 10000000000000000000000000000000000000000000000000000000000000
/-! ### things that are told by their kinds -/
def elT : List String := ["NoneType", "bool", "int", "str", "list", "tuple"]
inductive El (H : Hp) : V → Prop
  | int {z : Int} (h1 : -big61 - 2 < z) (h2 : z < big61 + 2) : El H (.int z)
  | bl (b : Bool) : El H (.bl b)
  | non : El H .non
  | str {x : Str} (h : x.length ≤ 400) (hc : ∀ c ∈ x.cps.toList, c < 16 ^ 8) : El H (.str x)
  | lst {a : Addr} {zs : List Int} (e : H a = some (.lst (zs.map V.int))) (hl : zs.length ≤ 3) (hb : ∀ z ∈ zs, -big61 - 2 < z ∧ z < big61 + 2) : El H (.ref a)
  | tup {a : Addr} {zs : List Int} (e : H a = some (.tup (zs.map V.int))) (hl : zs.length ≤ 3) (hb : ∀ z ∈ zs, -big61 - 2 < z ∧ z < big61 + 2) : El H (.ref a)
/-- no list and no tuple -/
inductive Lf (H : Hp) : V → Prop
  | non : Lf H .non
  | int (i : Int) (h : i = 7) : Lf H (.int i)
  | bl (b : Bool) : Lf H (.bl b)
  | str (x : Str) : Lf H (.str x)
  | d0 {a : Addr} (e : H a = some (.dK [])) : Lf H (.ref a)
  | d1 {a : Addr} (e : H a = some (.dK [(.inl 1, .int 2)])) : Lf H (.ref a)
def spWholeV (K : PySem.W.Frag) : Sp := fun vs H Q _ => ∃ (x : V) (T : String), vs = [x] ∧ TyOf K H x (.type T) ∧ T ∈ elT ∧ Q (.bl (decide (T = "int"))) H
/-! ### texts of things -/
/-- small enough to be shown -/
structure Sh (d : PyData) (n : Nat) : Prop where
  ok : d.showable = true
  nd : d.hasDict = false
  dp : d.depth ≤ 1
  sz : d.shown.length ≤ n
/-! ### rows, told by reckoning -/
end Lv

set_option Elab.async false
set_option linter.all false
set_option maxRecDepth 100000
set_option maxHeartbeats 4000000
namespace L2
open PySem PySem.Spec PyProof.Rows PySem.SeqAt Lv
/-- t[lo:hi], whether or not it is the whole of t -/
def rSlB (K : PySem.W.Frag) : V → Option Int → Option Int → Hp → VK → Prop := fun x lo hi H Q => ∃ a xs, x = .ref a ∧ H a = some (.tup xs) ∧ ∀ a' H', Same H H' → H' a' = some (.tup (cutV xs lo hi)) → Q (.ref a') H'
theorem sl_tupB {X : Cx} : SlR X (rSlB X.K) := by
  intro pins s σ H x v vl vu lo hi sl Q I rx hs pl pu h
  obtain ⟨a, xs, rfl, hx, q⟩ := h
  by_cases hw : HT.sIx xs.length 0 lo = 0 ∧ HT.sIx xs.length xs.length hi = xs.length
  · have ec : cutV xs lo hi = xs := by
      unfold cutV
      rw [hw.1, hw.2, List.drop_zero, Nat.sub_zero, List.take_length]
    exact sl_tupA pins s σ H _ v vl vu lo hi sl Q I rx hs pl pu ⟨a, xs, rfl, SqT.of hx, hw, q a H (Same.refl _) (by rw [ec]; exact hx)⟩
  · exact sl_tup pins s σ H _ v vl vu lo hi sl Q I rx hs pl pu ⟨a, xs, rfl, SqT.of hx, hw, fun p hp => q p _ (Same.new hp) upd_same⟩
end L2

set_option Elab.async false
set_option linter.all false
set_option maxRecDepth 100000
set_option maxHeartbeats 4000000
namespace L2
open PySem PySem.Spec PyProof.Rows PySem.SeqAt
theorem mul_tup0 (l : Addr) (items : Array Value) (n : Nat) (dct : Option Addr) (sl : Array (Option Value)) (u : Tok) (h1 : ¬ (items.isEmpty || ((0 : Int) == 1)) = true) :
    Meets (Builtin.«tuple.__mul__» ⟨[.ref l, .int 0 u], []⟩) (fun _ R s => s.heap.get? l = some { cls := .type "tuple", dict := dct, data := .seq items n, slots := sl } ∧
      R (.ok (.ret (.ref s.heap.objs.size))) { s with heap := s.heap.push { cls := .type "tuple", data := .seq #[] } }) :=
  .of_wp fun prog w A R s h => by
    obtain ⟨hp, g, d, tk, os⟩ := s
    obtain ⟨hl, h⟩ := h
    unfold Builtin.«tuple.__mul__»
    wp_walk
    rw [if_neg h1]
    wp_walk
    exact ⟨_, rfl, h⟩
section
variable {X : Cx}
/-- a tuple that isn't empty times an int from 0: 1 gives the tuple itself -/
def rRepE (K : PySem.W.Frag) : R2 := fun x y H Q => ∃ (l : Addr) (k : Int) (xs : List V), x = .ref l ∧ y = .int k ∧ SqT K H l xs ∧ xs ≠ [] ∧ 0 ≤ k ∧ xs.length * k.toNat ≤ 100000 ∧ (k = 1 → Q (.ref l) H) ∧ (k ≠ 1 → ∀ p, H p = none → Q (.ref p) (upd H p (.tup (List.replicate k.toNat xs).flatten)))
theorem op_repE : OpR X (binaryOp .Mult) (rRepE X.K) := by
  intro pins s σ H x y v u Q I rx ry h
  obtain ⟨l, k, xs, rfl, rfl, hH, hne, k1, hz, q1, q2⟩ := h
  cases rx
  obtain ⟨t, rfl⟩ := ry
  obtain ⟨its, r, p, _⟩ := I.tuple hH
  obtain ⟨⟨c, dct, dt, sl⟩, hl, hc, n, hd⟩ := (show s.heap.IsTuple l its.toArray from p)
  replace hc : c = .type "tuple" := hc
  replace hd : dt = .seq its.toArray n := hd
  subst hc hd
  have hlen := r.length
  have hpos : 0 < its.length := by rw [← hlen]; exact List.length_pos_iff.mpr hne
  have hne' : its.toArray.isEmpty = false := by
    cases its with
    | nil => simp at hpos
    | cons => rfl
  refine wpAny_binaryOp_repeat_ref (T := "tuple") (U := "int") (by decide) ⟨_, hl, rfl⟩ (fun s' => typeIs_int s' k t) noFill_tup_mul F.fills_int_mul F.slot_int_rmul rep_tup F.slot_int_index.lookup
    (call_meets F.slot_int_rmul (typeIs_int s k t) F.entry_int_rmul (F.args_int_rmul_2 _ _) (rmul_int_tup k t l its.toArray n dct sl) ⟨hl, rfl, ⟨_, hl, rfl⟩, ?_⟩)
  by_cases e : k = 1
  · subst e
    exact call_meets F.slot_tuple_mul ⟨_, hl, rfl⟩ F.entry_tuple_mul (F.args_tuple_mul_2 _ _) (mul_tup1 l its.toArray n dct sl t) ⟨hl, ⟨.ref l, H, I, rfl, q1 rfl⟩⟩
  by_cases e0 : k = 0
  · subst e0
    refine call_meets F.slot_tuple_mul ⟨_, hl, rfl⟩ F.entry_tuple_mul (F.args_tuple_mul_2 _ _) (mul_tup0 l its.toArray n dct sl t (by rw [hne']; decide)) ⟨hl, ?_⟩
    refine ⟨.ref s.heap.objs.size, _, I.laid (t' := s.toks) (o := .tup []) (fun b ob q => Heap.get?_push_of_some _ q) (Nat.le_refl _) ?_, rfl, q2 e _ (I.hok.fresh (Nat.le_refl _))⟩
    exact ⟨Nat.zero_le _, [], .nil, IsTupD.new _ _⟩
  · have hm : (its.toArray.size : Int) * k ≤ 100000 := by
      rw [List.size_toArray, ← hlen]
      have : ((xs.length * k.toNat : Nat) : Int) ≤ 100000 := by omega
      rw [Int.natCast_mul, Int.toNat_of_nonneg (by omega)] at this
      exact this
    have hk5 : k ≤ 100000 := by
      rw [List.size_toArray] at hm
      have := Int.mul_le_mul_of_nonneg_right (show (1 : Int) ≤ its.length by omega) k1
      omega
    have f0 : List.foldl (fun x1 x2 => x1 ++ x2) #[] (List.replicate k.toNat its.toArray) = (List.replicate k.toNat its).flatten.toArray := by
      have := foldl_rep its k.toNat []
      rw [List.nil_append] at this
      exact this
    have hsl : (100000 : Nat) ≤ sizeLine := by rw [sizeLine_eq]; decide
    refine call_meets F.slot_tuple_mul ⟨_, hl, rfl⟩ F.entry_tuple_mul (F.args_tuple_mul_2 _ _) (mul_tupN l its.toArray n dct sl k t ?_ ?_ ?_ ?_ ?_ ?_) ⟨hl, ?_⟩
    · simp; omega
    · rw [hne']; simp; exact e
    · rw [hne']; simp; omega
    · omega
    · unfold Builtin.Tuple.tupleTooMany
      rw [decide_eq_true_iff, sizeLine_eq]
      omega
    · rw [f0, List.size_toArray, len_rep, Nat.mul_comm, ← hlen]
      exact Nat.not_lt.mpr (Nat.le_trans hz hsl)
    · rw [f0]
      refine ⟨.ref s.heap.objs.size, _, I.laid (t' := s.toks) (o := .tup (List.replicate k.toNat xs).flatten) (fun b ob q => Heap.get?_push_of_some _ q) (Nat.le_refl _) ?_, rfl, q2 e _ (I.hok.fresh (Nat.le_refl _))⟩
      exact ⟨by rw [len_rep, Nat.mul_comm]; exact Nat.le_trans hz hsl, _, r.rep k.toNat, IsTupD.new _ _⟩
/-- t + u, any -/
def rCatE (K : PySem.W.Frag) : R2 := fun x y H Q => ∃ a b xs ys, x = .ref a ∧ y = .ref b ∧ SqT K H a xs ∧ SqT K H b ys ∧ xs.length + ys.length ≤ sizeLine ∧
  (xs = [] → Q (.ref b) H) ∧ (xs ≠ [] → ys = [] → Q (.ref a) H) ∧ (xs ≠ [] → ys ≠ [] → ∀ p, H p = none → Q (.ref p) (upd H p (.tup (xs ++ ys))))
theorem op_catE : OpR X (binaryOp .Add) (rCatE X.K) := by
  intro pins s σ H x y v u Q I rx ry h
  obtain ⟨a, b, xs, ys, rfl, rfl, ha, hb, hz, q0, q1, q2⟩ := h
  by_cases hx : xs = []
  · cases rx
    cases ry
    obtain ⟨its, r1, p1, _⟩ := I.tuple ha
    obtain ⟨its2, r2, p2, _⟩ := I.tuple hb
    obtain ⟨⟨cls, dd, data, sl⟩, ho, hc, n, hd⟩ := id p1
    obtain ⟨⟨cls2, dd2, data2, sl2⟩, ho2, hc2, n2, hd2⟩ := id p2
    simp only at hc hd hc2 hd2
    subst hc hd hc2 hd2
    have hv : its = [] := r1.nil_iff.mpr hx
    exact concat_meets ⟨_, ho, rfl⟩ ⟨_, ho2, rfl⟩ noFill_tuple_add seq_tuple_add PySem.F.slot_tuple_add PySem.F.entry_tuple_add (PySem.F.args_tuple_add_2 _ _)
      (PyProof.Rows.tuple_addW0 a b its.toArray its2.toArray n n2 dd dd2 sl sl2 (by simp [hv])) ⟨ho, ho2, ⟨.ref b, H, I, rfl, q0 hx⟩⟩
  · exact op_catT pins s σ H _ _ v u Q I rx ry ⟨a, b, xs, ys, rfl, rfl, ha, hb, hx, hz, q1 hx, q2 hx⟩
end
end L2

set_option Elab.async false
set_option linter.all false
set_option maxRecDepth 100000
set_option maxHeartbeats 4000000
namespace L2
open PySem PySem.Spec PyProof.Rows PySem.SeqAt
end L2
namespace Lv
open PySem L2
theorem Same.sqB {b : Bool} {K : PySem.W.Frag} {H H' : Hp} {a : Addr} {xs : List V} (e : Same H H') (h : SqB b K H a xs) : SqB b K H' a xs := by
  cases b with
  | true => exact e.seq h
  | false => exact e.tup h
/-- a comprehension whose things are told, and leave all as it was -/
theorem comp_mapB {b : Bool} {K : PySem.W.Frag} {own : List Str} {js : List Nat} {g : TG} {te : TE} {σ : St} {H1 : Hp} {Q : VK} {a : Addr} {xs : List V} (ys : List V) (hq : SqB b K H1 a xs) (hl : xs.length = ys.length) (hlen : xs.length ≤ 20000)
    (hs : ∀ (i : Nat) x y, xs[i]? = some x → ys[i]? = some y → ∀ H, Same H1 H → ∀ R : VK, (∀ H', Same H H' → R y H') → g x (blkσ own js σ) H fun τ H4 => te τ H4 R)
    (hd : ∀ acc H, H1 acc = none → Same H1 H → H acc = some (.lst ys) → Q (.ref acc) H) : tCompW own js g tTrue te σ (ItlB b K a) H1 Q := by
  refine comp_seqB (b := b) (K := K) (a := a) (xs := xs) (fun acc i H => Same H1 H ∧ H acc = some (.lst (ys.take i))) (fun acc h0 => ⟨Same.new h0, upd_same⟩) (fun acc i H h0 _ z => ?_) ?_ ?_
  · exact Same.sqB z.1 hq
  · rintro acc i x H h0 hx ⟨s1, hacc⟩
    have hi := (List.getElem?_eq_some_iff.mp hx).1
    have hy := List.getElem?_eq_getElem (l := ys) (i := i) (by omega)
    refine (cast ?_ (hs i x _ hx hy H s1 (fun y H6 => ∃ zs, H6 acc = some (.lst zs) ∧ zs.length < sizeLine ∧ (i + 1 ≤ xs.length ∧ (Same H1 (upd H6 acc (.lst (zs ++ [y]))) ∧ upd H6 acc (.lst (zs ++ [y])) acc = some (.lst (ys.take (i + 1)))))) fun H' s' => ?_))
    · unfold tTrue
      simp only [if_true]
    · refine ⟨_, s' _ _ hacc, ?_, hi, (s1.trans s').put h0, ?_⟩
      · rw [sizeLine_eq, List.length_take]
        omega
      · rw [upd_same, List.take_add_one, hy]
        simp
  · rintro acc H h0 ⟨s1, hacc⟩
    rw [hl, List.take_length] at hacc
    exact hd acc H h0 s1 hacc
theorem map2_get {α : Type} {l : List α} {f g : α → V} {i : Nat} {x y : V} (hx : (l.map f)[i]? = some x) (hy : (l.map g)[i]? = some y) : ∃ c, l[i]? = some c ∧ x = f c ∧ y = g c := by
  rw [List.getElem?_map] at hx hy
  cases e : l[i]? with
  | none => rw [e] at hx; cases hx
  | some c =>
    rw [e] at hx hy
    exact ⟨c, rfl, (Option.some.inj hx).symm, (Option.some.inj hy).symm⟩
end Lv

set_option Elab.async false
set_option linter.all false
set_option maxRecDepth 100000
set_option maxHeartbeats 4000000
namespace Fi18
open PySem L2 Lv
def top (i : Nat) : Stmt := PySem.Challenge.pw_fewreels_k18_standings_refused.main.body.getD i (.Pass ⟨0, 0, 0, 0⟩)
abbrev sWhole : Stmt := top 15
abbrev sPlace : Stmt := top 16
abbrev sListed : Stmt := top 17
abbrev sTupOf : Stmt := top 18
abbrev sFirst : Stmt := top 23
abbrev sNext : Stmt := top 24
abbrev sIsSt : Stmt := top 26
abbrev sChkSt : Stmt := top 27
abbrev sIsPh : Stmt := top 28
abbrev sBeh : Stmt := top 29
abbrev sPhDone : Stmt := top 30
abbrev sPlDone : Stmt := top 31
abbrev sRk : Stmt := top 33
abbrev sCovers : Stmt := top 34
abbrev sLvTo : Stmt := top 35
abbrev sPlan : Stmt := top 36
abbrev sIsBar : Stmt := top 37
abbrev sBar : Stmt := top 38
abbrev sFew : Stmt := top 39
abbrev sIsPl : Stmt := top 40
abbrev sPhR : Stmt := top 41
abbrev sPool : Stmt := top 43
abbrev sTake : Stmt := top 44
abbrev sLCounts : Stmt := top 45
abbrev sGreat : Stmt := top 48
abbrev sStand : Stmt := top 49
abbrev sKind18 : Stmt := top 50
abbrev sOdd18 : Stmt := top 51
abbrev sLaw : Stmt := top 52
abbrev sInit : Stmt := inCls (top 12) 0
end Fi18

set_option Elab.async false
set_option linter.all false
set_option maxRecDepth 100000
set_option maxHeartbeats 4000000
namespace Fi18
open PySem L2 Lv
section
variable {P : Program} {w : World} {K : PySem.W.Frag} {mg : Str → Option Value} {base : Heap}
theorem scPhR : FnScope ["standing", "told", "phases", "plan", "bar", "fewer"] ["standing", "told"] (defScope sPhR) := ⟨rfl, rfl, rfl, by decide +kernel, rfl, by decide +kernel, by decide +kernel⟩
theorem ok_phrG {f f1 f2 f3 f4 f5 f6 f7 : Addr} {fd d1 d2 d3 d4 d5 d6 d7 : FuncData} (F : Fun K "phases_right" "phases_right" sPhR f fd) (T : Txt mg) (CS : Cal P w K mg base 3 "check_standing" ["standing"] (spChkSt K) f1 d1) (CT : Cal P w K mg base 1 "is_tuple_of" ["thing", "many"] spTupOf f2 d2) (CL : Cal P w K mg base 2 "levels_to" ["standing"] spLvTo f3 d3) (CW : Cal P w K mg base 1 "is_whole" ["thing"] spWhole f4 d4) (CI : Cal P w K mg base 1 "is_listed" ["thing"] spListedB f5 d5) (CP : Cal P w K mg base 5 "is_plan" ["standing", "plan"] (spIsPlG K) f6 d6) (CB : Cal P w K mg base 3 "is_bar" ["level", "standing", "bar"] spIsBarN f7 d7) : FnOk P w K mg base CX0 6 f fd ["standing", "told"] (spPhRG K) := by
  refine F.ok scPhR (fun vs H Q E h => ?_) (fun cdv A outer s H vs Q E hr h => ?_)
  · obtain ⟨a, t, l, bb, p, N, st, rs, ps, nb, bo, rfl, _⟩ := h
    rfl
  · obtain ⟨a, t, l, bb, p, N, st, rs, ps, nb, bo, rfl, hA, S, hL, ht, hl, hT, k⟩ := h
    have hr1 : Room 1 _ := hr.mono (by decide)
    have hr2 : Room 2 _ := hr.mono (by decide)
    have hr3 : Room 3 _ := hr.mono (by decide)
    refine ⟨_, pss_cons (ps_expr (pe_cal CS hr3 rfl (pa_cons (pv 0) pa_nil)))
      (pss_cons (ps_if (pt_not (pt_val (pe_cal CT hr1 rfl (pa_cons (pv 1) (pa_cons pe_int pa_nil))))) pss_never pss_nil)
      (pss_cons (ps_asg (pv 1) (pg_tup rfl (pgs_cons (pg_name (i := 2) scPhR.nd rfl (Or.inl rfl)) (pgs_cons (pg_name (i := 3) scPhR.nd rfl (Or.inl rfl)) (pgs_cons (pg_name (i := 4) scPhR.nd rfl (Or.inl rfl)) pgs_nil)))))
      (pss_cons (ps_set (i := 5) scPhR.nd rfl (Or.inl rfl) (pe_slice sl_list (pe_cal CL hr2 rfl (pa_cons (pv 0) pa_nil)) po_none (po_some (pe_un un_neg pe_int))))
      (pss_cons (ps_if (PW.pt (pw_or (pt_not (pt_val (pe_cal CW hr1 rfl (pa_cons (pv 2) pa_nil)))) (pw_or1 (pt_cmpR op_ne (pv 2) (pe_callB call_len_seq rfl T.len PySem.boot_len (pa_cons (pv 5) pa_nil)) (nomark _))))) (pss_one (ps_ret pe_bl)) pss_nil)
      (pss_cons (ps_if (PW.pt (pw_or (pt_not (pt_val (pe_cal CI hr1 rfl (pa_cons (pv 3) pa_nil)))) (pw_or (pt_cmpR op_ne (pe_callB call_len_seq rfl T.len PySem.boot_len (pa_cons (pv 3) pa_nil)) (pv 2) (nomark _)) (pw_or1 (pt_not (pt_val (pe_cal CP hr rfl (pa_cons (pv 0) (pa_cons (pv 3) pa_nil))))))))) (pss_one (ps_ret pe_bl)) pss_nil)
      (pss_one (ps_ret (pe_ifExp (pt_truth (pv 5) (fun _ => rfl)) (pe_cal CB hr3 rfl (pa_cons (pe_ix ix_list (pv 5) (pe_un un_neg pe_int) (fun _ _ => rfl)) (pa_cons (pv 0) (pa_cons (pv 4) pa_nil)))) (pe_cmpR op_isN (pv 4) pe_non (nomark _)))))))))), ?_⟩
    have hlen := S.len
    have p2 := S.p2
    have p7 := S.p7
    have kk : ∀ {H' : Hp} (b : Bool), rightB p N st nb ps bo = b → Same H H' → Q (.bl b) H' := fun b e s => by
      have := k _ s
      rw [e] at this
      exact this
    clear k
    refine ⟨_, rfl, a, p, st, rfl, hA, S, fun H1 s1 => ?_⟩
    refine ⟨_, rfl, t, _, 3, rfl, s1 t _ ht, rfl, true, rfl, iteF ?_⟩
    refine ⟨_, rfl, t, _, rfl, SqT.of (s1 t _ ht), rfl, _, _, rfl, _, _, rfl, _, _, rfl, rfl, ?_⟩
    refine ⟨_, rfl, a, p, st, rfl, s1 a _ hA, S, fun N' fl qs H2 hN' _ hl0 hl2 ht2 s2 => ?_⟩
    have eN := hL.uniq hN'
    subst eN
    obtain ⟨qs', q, rfl, htt, hq⟩ := Lv.TTs.last ht2
    rw [List.map_append] at hl2
    refine ⟨1, rfl, -1, rfl, fl, _, rfl, SqL.of hl2, fun fw hfw => ?_⟩
    have ec : cutV (qs'.map V.ref ++ [q].map V.ref) none (some (-1)) = qs'.map V.ref := cut_last _ _
    rw [ec]
    have s3 := (s1.trans s2).trans (Same.new (o := .lst (qs'.map V.ref)) hfw)
    have hfw3 : (upd H2 fw (.lst (qs'.map V.ref))) fw = some (.lst (qs'.map V.ref)) := upd_same
    have ht3 := htt.same (Same.new (o := .lst (qs'.map V.ref)) hfw)
    generalize upd H2 fw (.lst (qs'.map V.ref)) = H3 at s3 hfw3 ht3 ⊢
    have hql : qs'.length = N := by rw [htt.1, lvls_len]
    have hrl : rs.length = ps.length := by simpa using hT.1
    refine ⟨_, rfl, nb, rfl, true, rfl, iteF ?_⟩
    by_cases hnb : nb = (N : Int)
    rotate_left
    · refine ⟨_, rfl, _, rfl, fw, _, rfl, .inl (SqL.of hfw3), rfl, true, ?_, iteT ?_⟩
      · rw [List.length_map, hql]
        simp [hnb]
      · exact kk false (by unfold rightB; rw [decide_eq_false hnb, Bool.false_and]) s3
    subst hnb
    refine ⟨_, rfl, _, rfl, fw, _, rfl, .inl (SqL.of hfw3), rfl, false, ?_, iteF ?_⟩
    · rw [List.length_map, hql]
      simp
    refine ⟨_, rfl, l, _, bb, rfl, s3 l _ hl, fun H4 s4 => ⟨true, rfl, iteF ?_⟩⟩
    have s04 := s3.trans s4
    have hsq : SqB bb K H4 l (rs.map V.ref) := by
      have e := s04 l _ hl
      cases bb
      · exact SqT.of e
      · exact SqL.of e
    have hsq' : SqL K H4 l (rs.map V.ref) ∨ SqT K H4 l (rs.map V.ref) := by
      cases bb
      · exact .inr hsq
      · exact .inl hsq
    by_cases hpl : ps.length = N
    rotate_left
    · refine ⟨_, rfl, l, rs.map V.ref, rfl, hsq', _, rfl, rfl, true, ?_, iteT ?_⟩
      · rw [List.length_map, hrl]
        simp
        omega
      · exact kk false (by unfold rightB; rw [decide_eq_false hpl, Bool.false_and, Bool.and_false]) s04
    refine ⟨_, rfl, l, rs.map V.ref, rfl, hsq', _, rfl, rfl, false, ?_, iteF ?_⟩
    · rw [List.length_map, hrl, hpl]
      simp
    refine ⟨_, rfl, _, rfl, a, l, bb, p, st, rs, ps, rfl, s04 a _ hA, S, hsq, TTs.same hT s04, fun H5 s5 => ?_⟩
    have s05 := s04.trans s5
    have hfw5 := s5 fw _ (s4 fw _ hfw3)
    cases hfin : finOk st ps with
    | false => exact ⟨false, rfl, iteT (kk false (by unfold rightB; rw [hfin, Bool.false_and, Bool.and_false, Bool.and_false]) s05)⟩
    | true =>
      refine ⟨true, rfl, iteF ?_⟩
      have hrb : ∀ b : Bool, barB p N st bo = b → rightB p N st N ps bo = b := fun b e => by
        unfold rightB
        rw [decide_eq_true rfl, decide_eq_true hpl, hfin, e, Bool.true_and, Bool.true_and, Bool.true_and]
      have hemp : (!(qs'.map V.ref).isEmpty) = decide (N ≠ 0) := by
        rw [← hql]
        cases qs' <;> simp
      refine ⟨_, rfl, _, .inl ⟨_, SqL.of hfw5, rfl⟩, ?_⟩
      rw [hemp]
      by_cases hz : N = 0
      · rw [decide_eq_false (by simpa using hz)]
        refine iteF ⟨_, rfl, rfl, kk _ (hrb _ ?_) s05⟩
        cases bo with
        | none => exact decide_eq_true hz
        | some b =>
          show (decide (N ≠ 0) && _) = decide (V.int b = V.non)
          rw [decide_eq_false (by simpa using hz), Bool.false_and]
          exact (decide_eq_false (by intro z; cases z)).symm
      · rw [decide_eq_true hz]
        obtain ⟨n, rfl⟩ : ∃ n, N = n + 1 := ⟨N - 1, by omega⟩
        have ht5 := (ht3.same s4).same s5
        obtain ⟨qs2, q2, rfl, ht6, hq6⟩ := Lv.TTs.last ht5
        have hclen := cnt_len (p := p) (by omega) n
        refine iteT ⟨_, rfl, 1, rfl, fw, _, -1, .ref q2, rfl, rfl, SqL.of hfw5, ?_, ?_⟩
        · rw [List.map_append]
          exact atI_last _ _
        refine ⟨_, rfl, _, rfl, q2, a, cnt p n, st, bo, rfl, hq6, s05 a _ hA, by omega, by omega, fun H6 s6 => kk _ (hrb _ ?_) (s05.trans s6)⟩
        cases bo with
        | none => exact decide_eq_false (by omega)
        | some b =>
          show (decide (n + 1 ≠ 0) && (decide (0 ≤ b ∧ b < (p : Int)) && decide ((rk st).getD b.toNat 0 > (cnt p n).getD b.toNat 0))) = (decide (0 ≤ b ∧ b < ((cnt p n).length : Int)) && decide ((rk st).getD b.toNat 0 > (cnt p n).getD b.toNat 0))
          rw [hclen, decide_eq_true (show n + 1 ≠ 0 by omega), Bool.true_and]

end
end Fi18

set_option Elab.async false
set_option linter.all false
set_option maxRecDepth 100000
set_option maxHeartbeats 4000000
namespace Fi18
open PySem L2 Lv
section
variable {P : Program} {w : World} {K : PySem.W.Frag} {mg : Str → Option Value} {base : Heap}
/-! ### is_whole -/
theorem scWhole : FnScope ["thing"] ["thing"] (defScope sWhole) := ⟨rfl, rfl, rfl, by decide +kernel, rfl, by decide +kernel, by decide +kernel⟩
/-! ### is_tuple_of -/
theorem scTupOf : FnScope ["thing", "many"] ["thing", "many"] (defScope sTupOf) := ⟨rfl, rfl, rfl, by decide +kernel, rfl, by decide +kernel, by decide +kernel⟩
theorem ok_tupof {f : Addr} {fd : FuncData} (F : Fun K "is_tuple_of" "is_tuple_of" sTupOf f fd) (T : Txt mg) : FnOk P w K mg base CX0 1 f fd ["thing", "many"] spTupOf := by
  refine F.ok scTupOf (fun vs H Q E h => ?_) (fun cdv A outer s H vs Q E hr h => ?_)
  · obtain ⟨a, xs, n, rfl, _⟩ := h
    rfl
  · obtain ⟨a, xs, n, rfl, hA, hn, k⟩ := h
    refine ⟨_, pss_one (ps_ret (pe_and (pe_callB call_isinst rfl T.isinstance b_isinstance (pa_cons (pv 0) (pa_cons (pe_ty rfl T.tuple b_tuple) pa_nil))) (pe_one (pe_cmpR op_eq (pe_callB call_len_seq rfl T.len PySem.boot_len (pa_cons (pv 0) pa_nil)) (pv 1) (nomark _))))), ?_⟩
    refine ⟨_, rfl, .ref a, "tuple", _, true, rfl, .tup hA, kit_tuple_tuple, true, rfl, iteT ⟨_, rfl, a, _, rfl, .inr (SqT.of hA), _, rfl, rfl, ?_⟩⟩
    rw [hn]
    simpa using k
/-! ### first_counts -/
theorem scFirst : FnScope ["p"] ["p"] (defScope sFirst) := ⟨rfl, rfl, rfl, by decide +kernel, rfl, by decide +kernel, by decide +kernel⟩
theorem ok_first {f : Addr} {fd : FuncData} (F : Fun K "first_counts" "first_counts" sFirst f fd) (T : Txt mg) : FnOk P w K mg base CX0 1 f fd ["p"] spFirst := by
  refine F.ok scFirst (fun vs H Q E h => ?_) (fun cdv A outer s H vs Q E hr h => ?_)
  · obtain ⟨p, rfl, _⟩ := h
    rfl
  · obtain ⟨p, rfl, h1, h2, k⟩ := h
    refine ⟨_, pss_one (ps_ret (pe_callTy call_tuple_of rfl T.tuple b_tuple (pa_cons (pe_op op_cat (pe_lst (pa_cons pe_int pa_nil)) (pe_op op_rep (pe_lst (pa_cons pe_int pa_nil)) (pe_op op_sub (pv 0) pe_int))) pa_nil))), ?_⟩
    refine ⟨(by show 1 ≤ sizeLine; decide), fun p1 e1 => ⟨(by show 1 ≤ sizeLine; decide), fun p2 e2 => ⟨_, rfl, _, _, rfl, rfl, ?_⟩⟩⟩
    have z2 : (upd (upd H p1 (.lst [.int 1])) p2 (.lst [.int 0])) p1 = some (.lst [.int 1]) := by rw [upd_ne (ne_of_none upd_same e2)]; exact upd_same
    refine ⟨p2, (p : Int) - 1, _, rfl, rfl, upd_same, by (clear h2 h1; omega), by (clear h1; omega), ?_, fun p3 e3 => ?_⟩
    · exact Nat.le_of_lt (small1000 (by show 1 * ((p : Int) - 1).toNat ≤ 1000; (clear h1; omega)))
    have z3 := (Same.new (o := .lst (List.replicate ((p : Int) - 1).toNat [V.int 0]).flatten) e3) p1 _ z2
    have ez : (List.replicate ((p : Int) - 1).toNat [V.int 0]).flatten = List.replicate (p - 1) (V.int 0) := by
      rw [show ((p : Int) - 1).toNat = p - 1 by (clear h2 h1; omega)]
      exact List.flatten_replicate_singleton
    rw [ez] at z3 ⊢
    refine ⟨p1, p3, _, _, rfl, rfl, z3, upd_same, ?_, fun p4 e4 => ?_⟩
    · exact Nat.le_of_lt (small1000 (by rw [List.length_replicate]; show 1 + (p - 1) ≤ 1000; (clear h1; omega)))
    refine ⟨p4, _, rfl, .inl ⟨SqL.of upd_same, fun l hl => ?_⟩⟩
    have s4 := (((Same.new (o := .lst [.int 1]) e1).trans (Same.new (o := .lst [.int 0]) e2)).trans (Same.new (o := .lst (List.replicate (p - 1) (V.int 0))) e3)).trans (Same.new (o := .lst ([.int 1] ++ List.replicate (p - 1) (V.int 0))) e4)
    refine k l _ (s4.free hl) ?_ (s4.trans (Same.new hl))
    rw [upd_same]
    simp [firstC]
/-! ### next_counts -/
theorem scNext : FnScope ["counts", "first"] ["counts"] (defScope sNext) := ⟨rfl, rfl, rfl, by decide +kernel, rfl, by decide +kernel, by decide +kernel⟩
theorem ok_next {f : Addr} {fd : FuncData} (F : Fun K "next_counts" "next_counts" sNext f fd) (T : Txt mg) : FnOk P w K mg base CX0 1 f fd ["counts"] (spNext K) := by
  refine F.ok scNext (fun vs H Q E h => ?_) (fun cdv A outer s H vs Q E hr h => ?_)
  · obtain ⟨a, c, rfl, _⟩ := h
    rfl
  · obtain ⟨a, c, rfl, hA, h1, h2, k⟩ := h
    refine ⟨_, pss_cons (ps_set (i := 1) scNext.nd rfl (Or.inr rfl) (pe_ix ix_tup (pv 0) pe_int (fun _ _ => rfl)))
      (pss_one (ps_ret (pe_callTy call_tuple_of rfl T.tuple b_tuple (pa_cons (pe_op op_cat
        (pe_comp (own := ["count"]) (js := [1]) (CompOk.by (sc := defScope sNext) (N := ["counts", "first"]) rfl rfl (by decide +kernel)) rfl (pi_tup (pe_slice sl_tup (pv 0) (po_some pe_int) po_none)) gkeep_name
          (fun _ _ _ _ _ => pg_name (i := 0) (by show (["count", "first"] : List Str).Nodup; decide +kernel) rfl (Or.inl rfl) (.inr rfl)) (fun _ _ _ _ _ => pts_nil) (fun _ _ _ _ _ => pe_op op_add (pv 1) (pv 0)))
        (pe_lst (pa_cons (pv 1) pa_nil))) pa_nil)))), ?_⟩
    obtain ⟨c0, cr, rfl⟩ : ∃ c0 cr, c = c0 :: cr := by
      cases c with
      | nil => simp at h1
      | cons x y => exact ⟨x, y, rfl⟩
    have hcr : cr.length ≤ 6 := by simpa using h2
    refine ⟨_, rfl, a, _, 0, .int c0, rfl, rfl, hA, atI_head, ?_⟩
    refine ⟨_, rfl, 1, rfl, a, _, rfl, hA, ?_, fun p1 e1 => ⟨p1, rfl, ⟨_, SqT.of upd_same⟩, ?_⟩⟩
    · rintro ⟨z, _⟩
      have : HT.sIx ((c0 :: cr).map V.int).length 0 (some ((1 : Nat) : Int)) = 0 := z
      rw [HT.sIx_nat] at this
      simp at this
    have ecut : cutV ((c0 :: cr).map V.int) (some 1) none = cr.map V.int := by
      unfold cutV
      show (((c0 :: cr).map V.int).drop (HT.sIx ((c0 :: cr).map V.int).length 0 (some ((1 : Nat) : Int)))).take (HT.sIx ((c0 :: cr).map V.int).length ((c0 :: cr).map V.int).length none - HT.sIx ((c0 :: cr).map V.int).length 0 (some ((1 : Nat) : Int))) = _
      rw [HT.sIx_nat]
      rw [show min 1 ((c0 :: cr).map V.int).length = 1 by simp]
      show (cr.map V.int).take (((c0 :: cr).map V.int).length - 1) = _
      rw [List.take_of_length_le (by simp)]
    rw [ecut]
    refine comp_tup (xs := cr.map V.int) (fun acc i H2 => Same (upd H p1 (.tup (cr.map V.int))) H2 ∧ H2 acc = some (.lst (((cr.take i).map (c0 + ·)).map V.int))) (fun acc h0 => ⟨Same.new h0, upd_same⟩) (fun acc i H2 h0 _ p => p.1.tup (SqT.of upd_same)) ?_ ?_
    · rintro acc i x H2 h0 hx ⟨s2, hacc⟩
      obtain ⟨z, hz, rfl⟩ := map_get hx
      have hi := (List.getElem?_eq_some_iff.mp hz).1
      refine ⟨_, rfl, _, rfl, _, _, rfl, rfl, _, hacc, ?_, by rw [List.length_map]; exact hi, s2.put h0, ?_⟩
      · exact small1000 (by simp; (clear hi h2 h1; omega))
      · rw [upd_same, List.take_add_one, hz]
        simp
    · rintro acc H2 h0 ⟨s2, hacc⟩
      rw [List.length_map, List.take_length] at hacc
      refine ⟨_, rfl, (by show 1 ≤ sizeLine; decide), fun p2 e2 => ?_⟩
      refine ⟨acc, p2, _, _, rfl, rfl, (Same.new e2) acc _ hacc, upd_same, ?_, fun p3 e3 => ⟨p3, _, rfl, .inl ⟨SqL.of upd_same, fun l hl => ?_⟩⟩⟩
      · exact Nat.le_of_lt (small1000 (by simp; (clear h2 h1; omega)))
      have s3 := (((Same.new (o := .tup (cr.map V.int)) e1).trans s2).trans (Same.new (o := .lst [.int c0]) e2)).trans (Same.new (o := .lst (((cr.map (c0 + ·)).map V.int) ++ [.int c0])) e3)
      refine k l _ (s3.free hl) ?_ (s3.trans (Same.new hl))
      rw [upd_same]
      simp [nextC]
/-! ### is_standing -/
theorem scIsSt : FnScope ["thing"] ["thing"] (defScope sIsSt) := ⟨rfl, rfl, rfl, by decide +kernel, rfl, by decide +kernel, by decide +kernel⟩
theorem ok_isst {f fW : Addr} {fd dW : FuncData} {t2 t7 tR : Tok} (F : Fun K "is_standing" "is_standing" sIsSt f fd) (T : Txt mg) (hL : mg "LEAST_WAYS" = some (.int 2 t2)) (hM : mg "MOST_WAYS" = some (.int 7 t7)) (hR : mg "MOST_ROWS" = some (.int 1000000000000000000000000000000000000000000000000000000000000 tR)) (CW : Cal P w K mg base 1 "is_whole" ["thing"] spWhole fW dW) : FnOk P w K mg base CX0 2 f fd ["thing"] (spIsSt K) := by
  refine F.ok scIsSt (fun vs H Q E h => ?_) (fun cdv A outer s H vs Q E hr h => ?_)
  · obtain ⟨a, p, st, rfl, _⟩ := h
    rfl
  · obtain ⟨a, p, st, rfl, hA, S, k⟩ := h
    refine ⟨_, pss_cons (ps_if (PW.pt (pw_or (pt_not (pt_val (pe_callB call_isinst rfl T.isinstance b_isinstance (pa_cons (pv 0) (pa_cons (pe_ty rfl T.tuple b_tuple) pa_nil)))))
        (pw_or1 (pt_not (pt_chain op_lt op_le (pe_gint rfl hL) (pe_callB call_len_seq rfl T.len PySem.boot_len (pa_cons (pv 0) pa_nil)) (pe_op op_add (pe_gint rfl hM) pe_int)))))) pss_never pss_nil)
      (pss_cons (ps_if (pt_not (pt_val (pe_callB (call_all rfl) rfl T.all b_all (pa_cons (pe_comp (own := ["count"]) (js := []) (CompOk.bare (by decide +kernel)) rfl (pi_tup (pv 0)) gkeep_name
          (fun _ _ _ _ _ => pg_name (i := 0) (by show (["count"] : List Str).Nodup; decide +kernel) rfl (Or.inl rfl) (.inr rfl)) (fun _ _ _ _ _ => pts_nil) (fun _ _ _ _ _ => pe_and (pe_cal CW hr rfl (pa_cons (pv 0) pa_nil)) (pe_one (pe_chain op_le op_le pe_int (pv 0) (pe_gint rfl hR))))) pa_nil)))) pss_never pss_nil)
      (pss_one (ps_ret (pe_and (pe_cmpR op_eq (pe_callB (call_minB rfl) rfl T.min b_min (pa_cons (pv 0) pa_nil)) pe_int (nomark _)) (pe_one (pe_cmpR op_gt (pe_callB (call_maxB rfl) rfl T.max b_max (pa_cons (pv 0) pa_nil)) pe_int (nomark _))))))), ?_⟩
    have hlen := S.len
    have p2 := S.p2
    have p7 := S.p7
    refine ⟨_, rfl, .ref a, "tuple", _, true, rfl, (.tup hA), kit_tuple_tuple, true, rfl, iteF ?_⟩
    refine ⟨_, rfl, a, _, rfl, .inr (SqT.of hA), 2, _, rfl, rfl, true, ?_, iteT ?_⟩
    · rw [List.length_map, hlen]
      exact congrArg V.bl (decide_eq_true (by (clear p7 hlen; omega)))
    refine ⟨7, 1, rfl, rfl, _, _, rfl, rfl, true, ?_, iteF ?_⟩
    · rw [List.length_map, hlen]
      exact congrArg V.bl (decide_eq_true (by (clear p2 hlen; omega)))
    refine ⟨_, rfl, a, rfl, ⟨_, SqT.of hA⟩, ?_⟩
    refine comp_tup (xs := st.map V.int) (fun acc i H2 => Same H H2 ∧ H2 acc = some (.lst ((List.replicate i true).map V.bl))) (fun acc h0 => ⟨Same.new h0, upd_same⟩) (fun acc i H2 h0 _ p => p.1.tup (SqT.of hA)) ?_ ?_
    · rintro acc i x H2 h0 hx ⟨s2, hacc⟩
      obtain ⟨z, hz, rfl⟩ := map_get hx
      have hi := (List.getElem?_eq_some_iff.mp hz).1
      have hm := List.mem_of_getElem? hz
      refine ⟨_, rfl, z, rfl, true, rfl, iteT ⟨_, rfl, 0, z, rfl, rfl, true, congrArg V.bl (decide_eq_true (S.nn z hm)), iteT ⟨z, _, rfl, rfl, ?_⟩⟩⟩
      have hb : z ≤ 1000000000000000000000000000000000000000000000000000000000000 := S.le z hm
      dsimp only
      rw [decide_eq_true hb]
      refine ⟨_, hacc, small1000 (by simp; (clear hb p2; omega)), by rw [List.length_map]; exact hi, s2.put h0, ?_⟩
      rw [upd_same, List.replicate_succ', List.map_append]
      rfl
    · rintro acc H2 h0 ⟨s2, hacc⟩
      have hA2 := s2 a _ hA
      have hne : st ≠ [] := by intro z; rw [z] at hlen; simp at hlen
      refine ⟨acc, _, rfl, SqL.of hacc, true, congrArg V.bl (all_true _), iteF ?_⟩
      refine ⟨_, rfl, false, a, st, rfl, SqT.of hA2, hne, fun m hm hle => ?_⟩
      have m0 : m = 0 := by
        have h1 := hle 0 S.zero
        have h2 := S.nn m hm
        (clear p7 p2 hlen; omega)
      subst m0
      refine ⟨rfl, true, by simp, iteT ?_⟩
      refine ⟨_, rfl, false, a, st, rfl, SqT.of hA2, hne, fun m hm hle => ⟨m, 0, rfl, rfl, ?_⟩⟩
      obtain ⟨x, hx, x1⟩ := S.pos
      have h1 := hle x hx
      show Q (.bl (decide (0 < m))) H2
      rw [decide_eq_true (by (clear p7 p2 hlen; omega))]
      exact k H2 s2
/-! ### check_standing -/
theorem scChkSt : FnScope ["standing"] ["standing"] (defScope sChkSt) := ⟨rfl, rfl, rfl, by decide +kernel, rfl, by decide +kernel, by decide +kernel⟩
theorem ok_chkst {f fW : Addr} {fd dW : FuncData} (F : Fun K "check_standing" "check_standing" sChkSt f fd) (T : Txt mg) (CW : Cal P w K mg base 2 "is_standing" ["thing"] (spIsSt K) fW dW) : FnOk P w K mg base CX0 3 f fd ["standing"] (spChkSt K) := by
  refine F.ok scChkSt (fun vs H Q E h => ?_) (fun cdv A outer s H vs Q E hr h => ?_)
  · obtain ⟨a, p, st, rfl, _⟩ := h
    rfl
  · obtain ⟨a, p, st, rfl, hA, S, k⟩ := h
    refine ⟨_, pss_one (ps_if (pt_not (pt_val (pe_cal CW hr rfl (pa_cons (pv 0) pa_nil)))) pss_never pss_nil), ?_⟩
    exact ⟨_, rfl, a, p, st, rfl, hA, S, fun H1 s1 => ⟨true, rfl, iteF (k H1 s1)⟩⟩
/-! ### counts_behind -/
theorem scBeh : FnScope ["counts", "phase", "out", "many", "behind"] ["counts", "phase"] (defScope sBeh) := ⟨rfl, rfl, rfl, by decide +kernel, rfl, by decide +kernel, by decide +kernel⟩
theorem ok_beh {f : Addr} {fd : FuncData} (F : Fun K "counts_behind" "counts_behind" sBeh f fd) (T : Txt mg) : FnOk P w K mg base CX0 1 f fd ["counts", "phase"] spBeh := by
  refine F.ok scBeh (fun vs H Q E h => ?_) (fun cdv A outer s H vs Q E hr h => ?_)
  · obtain ⟨a, q, c, out, m, rfl, _⟩ := h
    rfl
  · obtain ⟨a, q, c, out, m, rfl, hA, hq, hlen, ho, ho0, m1, m2, hnn, k⟩ := h
    refine ⟨_, pss_cons (ps_asg (pv 1) (pg_tup rfl (pgs_cons (pg_name (i := 2) scBeh.nd rfl (Or.inl rfl)) (pgs_cons (pg_name (i := 3) scBeh.nd rfl (Or.inr rfl)) pgs_nil))))
      (pss_cons (ps_comp (i := 4) scBeh.nd rfl rfl (own := ["count"]) (js := [3]) (CompOk.by (sc := defScope sBeh) (N := ["counts", "phase", "out", "many", "behind"]) rfl rfl (by decide +kernel)) rfl (pi_tup (pv 0)) gkeep_name
        (fun _ _ _ _ _ => pg_name (i := 0) (by show (["count", "many"] : List Str).Nodup; decide +kernel) rfl (Or.inl rfl) (.inr rfl)) (fun _ _ _ _ _ => pts_nil) (fun _ _ _ _ _ => pe_callB (call_max2 rfl) rfl T.max b_max (pa_cons (pe_op op_sub (pv 0) (pv 1)) (pa_cons pe_int pa_nil))))
      (pss_cons (ps_asg (pv 3) (pg_sub (pv 4) (pv 2) set_list))
      (pss_one (ps_ret (pe_callTy call_tuple_of rfl T.tuple b_tuple (pa_cons (pv 4) pa_nil)))))), ?_⟩
    refine ⟨_, rfl, q, _, rfl, SqT.of hq, rfl, _, _, rfl, _, _, rfl, rfl, ?_⟩
    refine ⟨_, rfl, a, rfl, ⟨_, SqT.of hA⟩, ?_⟩
    refine comp_tup (xs := c.map V.int) (fun acc i H2 => Same H H2 ∧ H2 acc = some (.lst (((c.take i).map (les m)).map V.int))) (fun acc h0 => ⟨Same.new h0, upd_same⟩) (fun acc i H2 h0 _ p => p.1.tup (SqT.of hA)) ?_ ?_
    · rintro acc i x H2 h0 hx ⟨s2, hacc⟩
      obtain ⟨z, hz, rfl⟩ := map_get hx
      have hi := (List.getElem?_eq_some_iff.mp hz).1
      refine ⟨_, rfl, _, rfl, _, _, rfl, rfl, _, _, rfl, _, hacc, small1000 (by simp; (clear hi m2 m1 ho; omega)), by rw [List.length_map]; exact hi, s2.put h0, ?_⟩
      rw [upd_same, List.take_add_one, hz, les_a]
      simp
    · rintro acc H2 h0 ⟨s2, hacc⟩
      rw [List.length_map, List.take_length] at hacc
      refine ⟨_, rfl, _, rfl, _, rfl, acc, _, out, out, rfl, rfl, hacc, ?_, ?_⟩
      · rw [List.length_map, List.length_map, ixN_of (by (clear m2 m1 ho hlen; omega)) (by (clear m2 m1 hlen; omega))]
        rfl
      refine ⟨_, rfl, acc, _, rfl, .inl ⟨SqL.of upd_same, fun l hl => ?_⟩⟩
      have s3 : Same H (upd H2 acc (.lst (((c.map (les m)).map V.int).set out (.int m)))) := s2.put h0
      refine k l _ (s3.free hl) ?_ (s3.trans (Same.new hl))
      rw [upd_same, map_set]
/-! ### ranked -/
theorem scRk : FnScope ["standing"] ["standing"] (defScope sRk) := ⟨rfl, rfl, rfl, by decide +kernel, rfl, by decide +kernel, by decide +kernel⟩
theorem ok_rk {f : Addr} {fd : FuncData} (F : Fun K "ranked" "ranked" sRk f fd) (T : Txt mg) : FnOk P w K mg base CX0 1 f fd ["standing"] spRk := by
  refine F.ok scRk (fun vs H Q E h => ?_) (fun cdv A outer s H vs Q E hr h => ?_)
  · obtain ⟨a, st, rfl, _⟩ := h
    rfl
  · obtain ⟨a, st, rfl, hA, hlen, k⟩ := h
    refine ⟨_, pss_one (ps_ret (pe_callBK call_sortedR rfl T.sorted b_sorted (pa_cons (pv 0) pa_nil) (pk_cons pe_bl pk_nil))), ?_⟩
    refine ⟨_, rfl, a, st, rfl, rfl, SqT.of hA, by omega, fun l ms hl hp hd => ?_⟩
    have e := rk_uniq hp hd
    subst e
    exact k l _ hl upd_same (Same.new hl)
/-! ### covers -/
theorem scCovers : FnScope ["level", "counts"] ["level", "counts"] (defScope sCovers) := ⟨rfl, rfl, rfl, by decide +kernel, rfl, by decide +kernel, by decide +kernel⟩
theorem ok_covers {f : Addr} {fd : FuncData} (F : Fun K "covers" "covers" sCovers f fd) (T : Txt mg) : FnOk P w K mg base CX0 1 f fd ["level", "counts"] spCovers := by
  refine F.ok scCovers (fun vs H Q E h => ?_) (fun cdv A outer s H vs Q E hr h => ?_)
  · obtain ⟨a, b, L, r, rfl, _⟩ := h
    rfl
  · obtain ⟨a, b, L, r, rfl, hA, hB, hlen, h8, k⟩ := h
    refine ⟨_, pss_one (ps_ret (pe_callB (call_all rfl) rfl T.all b_all (pa_cons (pe_comp (own := ["count", "most"]) (js := []) (CompOk.bare (by decide +kernel)) rfl (pi_zipB rfl T.zip (pa_cons (pv 1) (pa_cons (pv 0) pa_nil))) (gkeep_two (K := K))
        (fun _ _ _ _ _ => pgK_tup K rfl (pgs_cons (pg_name (i := 0) (by show (["count", "most"] : List Str).Nodup; decide +kernel) rfl (Or.inl rfl) (.inr rfl)) (pgs_cons (pg_name (i := 1) (by show (["count", "most"] : List Str).Nodup; decide +kernel) rfl (Or.inl rfl) (.inr rfl)) pgs_nil))) (fun _ _ _ _ _ => pts_nil) (fun _ _ _ _ _ => pe_cmpR op_le (pv 0) (pv 1) (nomark _))) pa_nil))), ?_⟩
    refine ⟨_, rfl, _, rfl, true, false, b, a, rfl, ⟨_, SqL.of hB⟩, ⟨_, SqT.of hA⟩, ?_⟩
    refine comp_zipR (xs := r.map V.int) (ys := L.map V.int) (by simpa using hlen) (fun acc i H2 => Same H H2 ∧ H2 acc = some (.lst (((List.range i).map fun j => decide (r.getD j 0 ≤ L.getD j 0)).map V.bl))) (fun acc h0 => ⟨Same.new h0, upd_same⟩) (fun acc i H2 h0 _ p => ⟨SqL.of (p.1 b _ hB), p.1.tup (SqT.of hA)⟩) ?_ ?_
    · rintro acc i x y q H2 h0 hx hy ⟨s2, hacc⟩ hq
      obtain ⟨z, hz, rfl⟩ := map_get hx
      obtain ⟨z', hz', rfl⟩ := map_get hy
      have hi := (List.getElem?_eq_some_iff.mp hz').1
      have hnq : acc ≠ q := ne_of_none hacc hq
      refine ⟨q, _, rfl, SqT.of upd_same, rfl, _, _, rfl, _, _, rfl, rfl, _, rfl, _, rfl, z, z', rfl, rfl, _, by rw [upd_ne hnq]; exact hacc, small1000 (by simp; (clear hnq; omega)), by rw [List.length_map]; exact hi, (s2.trans (Same.new hq)).put h0, ?_⟩
      rw [upd_same, List.range_succ, List.map_append, List.map_append]
      simp [List.getD_eq_getElem?_getD, hz, hz']
    · rintro acc H2 h0 ⟨s2, hacc⟩
      refine ⟨acc, _, rfl, SqL.of hacc, ?_⟩
      have e : ((List.range (L.map V.int).length).map fun j => decide (r.getD j 0 ≤ L.getD j 0)).all id = decide (CovL L r) := by
        rw [Bool.eq_iff_iff, List.all_eq_true]
        simp [CovL]
      rw [e]
      exact k H2 s2
/-! ### levels_to -/
theorem scLvTo : FnScope ["standing", "levels"] ["standing"] (defScope sLvTo) := ⟨rfl, rfl, rfl, by decide +kernel, rfl, by decide +kernel, by decide +kernel⟩
theorem ok_lvto {f fA fB fC fD : Addr} {fd dA dB dC dD : FuncData} (F : Fun K "levels_to" "levels_to" sLvTo f fd) (T : Txt mg) (CF : Cal P w K mg base 1 "first_counts" ["p"] spFirst fA dA) (CN : Cal P w K mg base 1 "next_counts" ["counts"] (spNext K) fB dB) (CR : Cal P w K mg base 1 "ranked" ["standing"] spRk fC dC) (CC : Cal P w K mg base 1 "covers" ["level", "counts"] spCovers fD dD) : FnOk P w K mg base CX0 2 f fd ["standing"] spLvTo := by
  refine F.ok scLvTo (fun vs H Q E h => ?_) (fun cdv A outer s H vs Q E hr h => ?_)
  · obtain ⟨a, p, st, rfl, _⟩ := h
    rfl
  · obtain ⟨a, p, st, rfl, hA, S, k⟩ := h
    refine ⟨_, pss_cons (ps_set (i := 1) scLvTo.nd rfl (Or.inl rfl) (pe_lst (pa_cons (pe_cal CF hr rfl (pa_cons (pe_op op_sub (pe_callB call_len_seq rfl T.len PySem.boot_len (pa_cons (pv 0) pa_nil)) pe_int) pa_nil)) pa_nil)))
      (pss_cons (ps_while PassesOwn.never (pt_not (pt_val (pe_cal CC hr rfl (pa_cons (pe_ix ix_list (pv 1) (pe_un un_neg pe_int) (fun _ _ => rfl)) (pa_cons (pe_cal CR hr rfl (pa_cons (pv 0) pa_nil)) pa_nil)))))
        (pss_one (ps_expr (pe_bm PySem.F.plainAttrs_list PySem.F.slot_list_append PySem.F.type_list_append mt_append (pv 1) (pa_cons (pe_cal CN hr rfl (pa_cons (pe_ix ix_list (pv 1) (pe_un un_neg pe_int) (fun _ _ => rfl)) pa_nil)) pa_nil)))))
      (pss_one (ps_ret (pv 1)))), ?_⟩
    have hlen := S.len
    have p2 := S.p2
    have p7 := S.p7
    refine ⟨_, rfl, a, _, rfl, .inr (SqT.of hA), _, _, rfl, rfl, p, ?_, p2, p7, fun q H1 hq0 hq s1 => ?_⟩
    · rw [List.length_map, hlen]
      exact congrArg (fun z => [V.int z]) (by (clear p7 p2 hlen; omega))
    refine ⟨(by show 1 ≤ sizeLine; decide), fun l hl => ?_⟩
    have hrle : ∀ x ∈ rk st, x ≤ big := fun x hx => S.le x ((rk_perm st).subset hx)
    refine ⟨fun m σ H3 => ∃ (n : Nat) (l : Addr) (qs : List Addr) (q : Addr), n ≤ 401 ∧ (∀ k, k < n → ¬ CovL (cnt p k) (rk st)) ∧ m = 401 - n ∧ σ = [some (.ref a), some (.ref l)] ∧ H l = none ∧ H3 l = some (.lst ((qs ++ [q]).map V.ref)) ∧ TTs H3 qs (lvls p n) ∧ H3 q = some (.tup ((cnt p n).map V.int)) ∧ Same H H3,
      ⟨_, 0, l, [], q, by decide, fun k hk => absurd hk (Nat.not_lt_zero _), rfl, rfl, s1.free hl, upd_same, ⟨rfl, fun j r xs ha => by simp at ha⟩, (Same.new hl) q _ hq, s1.trans (Same.new hl)⟩, ?_⟩
    rintro m σ H3 ⟨n, l, qs, q, hn, hno, rfl, rfl, hl0, hl3, ht3, hq3, s3⟩
    have hclen := cnt_len (p := p) (by (clear hn p7 hlen; omega)) n
    refine ⟨_, rfl, 1, rfl, l, _, -1, .ref q, rfl, rfl, SqL.of hl3, ?_, ?_⟩
    · rw [List.map_append]
      exact atI_last _ _
    refine ⟨_, rfl, a, st, rfl, s3 a _ hA, by (clear hclen hn p2; omega), fun lr H4 hr0 hr4 s4 => ?_⟩
    refine ⟨q, lr, cnt p n, rk st, rfl, s4 q _ hq3, hr4, by rw [hclen, rk_len]; (clear hclen hn p7 p2; omega), by rw [rk_len]; (clear hclen hn p2; omega), fun H5 s5 => ?_⟩
    refine ⟨_, rfl, ?_⟩
    have s45 := s4.trans s5
    by_cases hcov : CovL (cnt p n) (rk st)
    · rw [decide_eq_true hcov]
      refine iteF ⟨_, rfl, ?_⟩
      have ht5 : TTs H5 (qs ++ [q]) (lvls p (n + 1)) := by
        rw [lvls_succ]
        exact (ht3.same s45).snoc (s45 q _ hq3)
      exact k n l _ H5 ⟨hcov, hno⟩ hn hl0 (s45 l _ hl3) ht5 (s3.trans s45)
    · rw [decide_eq_false hcov]
      refine iteT ⟨fun σ' H' => ∃ m', m' < 401 - n ∧ ∃ (n : Nat) (l : Addr) (qs : List Addr) (q : Addr), n ≤ 401 ∧ (∀ k, k < n → ¬ CovL (cnt p k) (rk st)) ∧ m' = 401 - n ∧ σ' = [some (.ref a), some (.ref l)] ∧ H l = none ∧ H' l = some (.lst ((qs ++ [q]).map V.ref)) ∧ TTs H' qs (lvls p n) ∧ H' q = some (.tup ((cnt p n).map V.int)) ∧ Same H H', fun _ _ h => h, ?_⟩
      have hlt : n < 401 := by
        rcases Nat.lt_or_ge n 401 with z | z
        · exact z
        · have : n = 401 := by (clear hcov hclen p7 p2 hlen; omega)
          subst this
          exact absurd (cov_401 p2 hrle) hcov
      have hl5 := s45 l _ hl3
      have hq5 := s45 q _ hq3
      refine ⟨_, rfl, .inl ⟨rfl, _, SqL.of hl5⟩, ?_⟩
      refine ⟨_, rfl, 1, rfl, l, _, -1, .ref q, rfl, rfl, SqL.of hl5, ?_, ?_⟩
      · rw [List.map_append]
        exact atI_last _ _
      refine ⟨q, cnt p n, rfl, SqT.of hq5, by (clear hlt hcov hn p7 hlen; omega), by (clear hlt hcov hn p2 hlen; omega), fun q6 H6 h60 h6 s6 => ?_⟩
      have hl6 := s6 l _ hl5
      refine ⟨l, _, _, rfl, rfl, hl6, ?_, ?_⟩
      · have := ht3.1
        rw [lvls_len] at this
        exact small1000 (by simp; (clear hlt hcov hclen p7 p2 hlen; omega))
      refine ⟨401 - (n + 1), by (clear hcov hclen hn p7 p2 hlen; omega), n + 1, l, qs ++ [q], q6, by (clear hcov hclen hn p7 p2 hlen; omega), ?_, rfl, rfl, hl0, ?_, ?_, ?_, ?_⟩
      · intro k hk
        by_cases e : k = n
        · subst e; exact hcov
        · exact hno k (by (clear hlt hcov hclen hn p7 p2 hlen; omega))
      · rw [upd_same]
        simp
      · rw [lvls_succ]
        exact (((ht3.same s45).snoc hq5).same s6).lst hl6
      · rw [upd_ne (by intro z; subst z; rw [hl6] at h6; cases h6)]
        exact h6
      · exact ((s3.trans s45).trans s6).put hl0
/-! ### plan_by -/
theorem scPlan : FnScope ["levels", "standing", "counts", "plan", "level", "phase"] ["levels", "standing"] (defScope sPlan) := ⟨rfl, rfl, rfl, by decide +kernel, rfl, by decide +kernel, by decide +kernel⟩
theorem ok_plan {f fA : Addr} {fd dA : FuncData} (F : Fun K "plan_by" "plan_by" sPlan f fd) (T : Txt mg) (zr : mg "reversed" = none) (CB : Cal P w K mg base 1 "counts_behind" ["counts", "phase"] spBeh fA dA) : FnOk P w K mg base CX0 2 f fd ["levels", "standing"] spPlan := by
  refine F.ok scPlan (fun vs H Q E h => ?_) (fun cdv A outer s H vs Q E hr h => ?_)
  · obtain ⟨b, a, p, N, st, qs, rfl, _⟩ := h
    rfl
  · obtain ⟨b, a, p, N, st, qs, rfl, hB, hT, hA, p2, p7, hN, hO, k⟩ := h
    refine ⟨_, pss_cons (ps_set (i := 2) scPlan.nd rfl (Or.inl rfl) (pv 1))
      (pss_cons (ps_set (i := 3) scPlan.nd rfl (Or.inl rfl) (pe_lst pa_nil))
      (pss_cons (ps_for PassesOwn.never rfl (pi_rev rfl zr (pa_cons (pv 0) pa_nil)) (pg_name (i := 4) scPlan.nd rfl (Or.inl rfl))
        (pss_cons (ps_set (i := 5) scPlan.nd rfl (Or.inl rfl) (pe_tup (pa_cons (pe_bmT PySem.F.slot_tuple_index PySem.F.type_tuple_index mt_indexT (pv 2) (pa_cons pe_int pa_nil))
          (pa_cons (pe_callB (call_min2 rfl) rfl T.min b_min (pa_cons (pe_ix ix_tup (pv 4) pe_int (fun _ _ => rfl)) (pa_cons (pe_callB (call_maxB rfl) rfl T.max b_max (pa_cons (pv 2) pa_nil)) pa_nil))) pa_nil))))
        (pss_cons (ps_expr (pe_bm PySem.F.plainAttrs_list PySem.F.slot_list_append PySem.F.type_list_append mt_append (pv 3) (pa_cons (pv 5) pa_nil)))
        (pss_one (ps_set (i := 2) scPlan.nd rfl (Or.inl rfl) (pe_cal CB hr rfl (pa_cons (pv 2) (pa_cons (pv 5) pa_nil))))))))
      (pss_one (ps_ret (pv 3))))), ?_⟩
    have hql : qs.length = N := by rw [hT.1, lvls_len]
    refine ⟨_, rfl, (by show 0 ≤ sizeLine; decide), fun pl hpl => ?_⟩
    refine ⟨_, rfl, b, _, rfl, SqL.of ((Same.new hpl) b _ hB), for_rev (fun i σ H2 => ∃ (ca : Addr) (c : List Int) (rs : List Addr) (phs : List (List Int)) (o4 o5 : Option V), σ = [some (.ref b), some (.ref a), some (.ref ca), some (.ref pl), o4, o5] ∧ H2 ca = some (.tup (c.map V.int)) ∧ On p c (N - i) ∧ H2 pl = some (.lst (rs.map V.ref)) ∧ TTs H2 rs phs ∧ phs.length = i ∧ planF p st N = phs ++ planF p c (N - i) ∧ Same H H2)
      ⟨a, st, [], [], none, none, rfl, (Same.new hpl) a _ hA, hO, upd_same, ⟨rfl, fun j r xs ha => by simp at ha⟩, rfl, rfl, Same.new hpl⟩ ?_ ?_ ?_⟩
    · rintro i σ H2 hi ⟨ca, c, rs, phs, o4, o5, rfl, hc, hOn, hp2, ht2, hpn, hpf, s2⟩
      exact SqL.of (s2 b _ hB)
    · rintro i x σ H2 hi hx ⟨ca, c, rs, phs, o4, o5, rfl, hc, hOn, hp2, ht2, hpn, hpf, s2⟩
      rw [List.length_map] at hi hx
      rw [List.getElem?_map] at hx
      obtain ⟨q, hq, rfl⟩ := Option.map_eq_some_iff.mp hx
      have hqL : H2 q = some (.tup ((cnt p (N - i - 1)).map V.int)) := by
        refine s2 q _ (hT.2 _ q _ hq ?_)
        rw [hql, show N - 1 - i = N - i - 1 by (clear hpn hi hql hN p7 p2; omega)]
        exact lvls_at (by (clear hpn hN p7 p2; omega))
      obtain ⟨n, hn⟩ : ∃ n, N - i = n + 1 := ⟨N - i - 1, by (clear hpn hN p7 p2; omega)⟩
      rw [hn] at hOn hpf hqL
      rw [show n + 1 - 1 = n by (clear hn hpn hi hql hN p7 p2; omega)] at hqL
      obtain ⟨o1, o2⟩ := hOn.out
      obtain ⟨m1, m2⟩ := hOn.ph p2 (k := n)
      have hcl := hOn.len
      have hclen := cnt_len (p := p) (by (clear hcl m2 m1 o1 hn hpn hi hql hN p7; omega)) n
      refine ⟨_, rfl, ⟨ca, _, rfl, hc⟩, ca, c, 0, rfl, rfl, hc, hOn.idx, ?_⟩
      refine ⟨_, rfl, q, _, 0, .int (hd p n), rfl, rfl, SqT.of hqL, ?_, ?_⟩
      · rw [atI_int (by decide) (by rw [hclen]; (clear hclen hcl m2 m1 o1 hn hpn hi hql hN p7; omega))]
        rfl
      refine ⟨_, rfl, false, ca, c, rfl, SqT.of hc, (by intro z; rw [z] at hcl; simp at hcl), fun m hm hg => ?_⟩
      have em := mxl_eq hOn.nn hm hg
      subst em
      refine ⟨_, _, rfl, (by show 2 ≤ sizeLine; decide), fun t ht => ?_⟩
      have hp3 := (Same.new (o := .tup [.int ((c.idxOf 0 : Nat) : Int), .int (if mxl c < hd p n then mxl c else hd p n)]) ht) pl _ hp2
      refine ⟨_, rfl, .inl ⟨rfl, _, SqL.of hp3⟩, _, rfl, pl, _, _, rfl, rfl, hp3, ?_, ?_⟩
      · have := ht2.1
        exact small1000 (by simp; (clear hclen hcl m2 m1 o1 hn p7 p2; omega))
      have hnt : t ≠ pl := by intro z; subst z; rw [hp2] at ht; cases ht
      have hnc : ca ≠ pl := by intro z; subst z; rw [hp2] at hc; cases hc
      have hnt2 : ca ≠ t := ne_of_none hc ht
      refine ⟨_, rfl, _, rfl, ca, t, c, c.idxOf 0, ph p c n, rfl, ?_, ?_, by (clear hnt2 hnc hnt hclen m2 m1 o1 hn hpn hi hql hN p2; omega), o1, o2, m1, m2, hOn.nn, fun l H4 hl0 hl4 s4 => ?_⟩
      · rw [upd_ne hnc, upd_ne hnt2]
        exact hc
      · rw [upd_ne hnt, upd_same]
        rfl
      have hput : Same H2 (upd H2 t (.tup [.int ((c.idxOf 0 : Nat) : Int), .int (if mxl c < hd p n then mxl c else hd p n)])) := Same.new ht
      refine ⟨l, nxt p c n, rs ++ [t], phs ++ [[((c.idxOf 0 : Nat) : Int), ph p c n]], _, _, rfl, hl4, ?_, ?_, ?_, by simp [hpn], ?_, ?_⟩
      · rw [show N - (i + 1) = n by (clear hnt2 hnc hnt hclen hcl m2 m1 o1 hpn hi hql hN p7 p2; omega)]
        exact hOn.step p2
      · rw [s4 pl _ upd_same]
        simp
      · refine TTs.snoc (((ht2.same hput).lst hp3).same s4) (s4 t _ ?_)
        rw [upd_ne hnt, upd_same]
        rfl
      · rw [hpf, show N - (i + 1) = n by (clear hnt2 hnc hnt hclen hcl m2 m1 o1 hpn hi hql hN p7 p2; omega)]
        simp [planF]
      · exact ((s2.trans hput).put hpl).trans s4
    · rintro σ H2 ⟨ca, c, rs, phs, o4, o5, rfl, hc, hOn, hp2, ht2, hpn, hpf, s2⟩
      rw [List.length_map, hql, Nat.sub_self] at hpf
      refine ⟨_, rfl, k pl rs H2 hpl hp2 ?_ s2⟩
      rw [hpf]
      simpa [planF] using ht2
/-! ### is_place -/
theorem scPlace : FnScope ["thing", "many"] ["thing", "many"] (defScope sPlace) := ⟨rfl, rfl, rfl, by decide +kernel, rfl, by decide +kernel, by decide +kernel⟩
/-! ### first_bar -/
theorem scBar : FnScope ["level", "standing"] ["level", "standing"] (defScope sBar) := ⟨rfl, rfl, rfl, by decide +kernel, rfl, by decide +kernel, by decide +kernel⟩
theorem ok_bar {f fA : Addr} {fd dA : FuncData} (F : Fun K "first_bar" "first_bar" sBar f fd) (T : Txt mg) (CB : Cal P w K mg base 3 "is_bar" ["level", "standing", "bar"] spIsBar fA dA) : FnOk P w K mg base CX0 4 f fd ["level", "standing"] spBar := by
  refine F.ok scBar (fun vs H Q E h => ?_) (fun cdv A outer s H vs Q E hr h => ?_)
  · obtain ⟨b, a, L, st, rfl, _⟩ := h
    rfl
  · obtain ⟨b, a, L, st, rfl, hB, hA, hle, h8, hno, k⟩ := h
    refine ⟨_, pss_one (ps_ret (pe_ix ix_list (pe_comp (own := ["place"]) (js := [0, 1]) (CompOk.by (sc := defScope sBar) (N := ["level", "standing"]) rfl rfl (by decide +kernel)) rfl (pi_range1 rfl T.range (pa_cons (pe_callB call_len_seq rfl T.len PySem.boot_len (pa_cons (pv 0) pa_nil)) pa_nil)) gkeep_name
      (fun _ _ _ _ _ => pg_name (i := 0) (by show (["place", "level", "standing"] : List Str).Nodup; decide +kernel) rfl (Or.inl rfl) (.inr rfl)) (fun _ _ _ _ _ => pts_one (pt_val (pe_cal CB hr rfl (pa_cons (pv 1) (pa_cons (pv 2) (pa_cons (pv 0) pa_nil)))))) (fun _ _ _ _ _ => pv 0)) pe_int (fun _ _ => rfl))), ?_⟩
    refine ⟨_, rfl, b, _, rfl, .inr (SqT.of hB), _, rfl, by (clear hno h8 hle; omega), by rw [List.length_map]; (clear hno; omega), ?_⟩
    rw [List.length_map, show ((L.length : Nat) : Int).toNat = L.length by (clear hno h8 hle; omega)]
    refine comp_range (fun acc j H3 => Same H H3 ∧ H3 acc = some (.lst (((List.range j).filter fun j => decide ((rk st).getD j 0 > L.getD j 0)).map fun j : Nat => V.int j))) (fun acc h0 => ⟨Same.new h0, upd_same⟩) ?_ ?_
    · rintro acc j H3 h0 hj ⟨s3, hacc⟩
      refine ⟨_, rfl, _, rfl, _, rfl, b, a, L, st, j, ?_, s3 b _ hB, s3 a _ hA, hj, hle, h8, fun H4 s4 => ⟨_, rfl, ?_⟩⟩
      · simp
      have hacc4 := s4 acc _ hacc
      by_cases hc : (rk st).getD j 0 > L.getD j 0
      · rw [decide_eq_true hc]
        refine iteT ⟨_, rfl, _, hacc4, ?_, hj, (s3.trans s4).put h0, ?_⟩
        · refine small1000 ?_
          rw [List.length_map]
          have := List.length_filter_le (fun j => decide ((rk st).getD j 0 > L.getD j 0)) (List.range j)
          rw [List.length_range] at this
          (clear hc hno; omega)
        · have e1 : List.filter (fun j => decide ((rk st).getD j 0 > L.getD j 0)) [j] = [j] := List.filter_cons_of_pos (decide_eq_true hc)
          rw [upd_same, List.range_succ, List.filter_append, List.map_append, e1]
          simp
      · rw [decide_eq_false hc]
        refine iteF ⟨hj, s3.trans s4, ?_⟩
        have e1 : List.filter (fun j => decide ((rk st).getD j 0 > L.getD j 0)) [j] = [] := List.filter_cons_of_neg (by rw [decide_eq_false hc]; simp)
        rw [hacc4, List.range_succ, List.filter_append, List.map_append, e1]
        simp
    · rintro acc H3 h0 ⟨s3, hacc⟩
      obtain ⟨rest, e, _, _⟩ := fb_ok hno
      rw [e] at hacc
      exact ⟨acc, _, 0, .int (fb L (rk st)), rfl, rfl, SqL.of hacc, atI_nat (j := 0) rfl, k H3 s3⟩
/-! ### fewest_phases -/
theorem scFew : FnScope ["standing", "fewer", "bar"] ["standing"] (defScope sFew) := ⟨rfl, rfl, rfl, by decide +kernel, rfl, by decide +kernel, by decide +kernel⟩
theorem ok_few {f fA fB fC fD : Addr} {fd dA dB dC dD : FuncData} (F : Fun K "fewest_phases" "fewest_phases" sFew f fd) (T : Txt mg) (CA : Cal P w K mg base 3 "check_standing" ["standing"] (spChkSt K) fA dA) (CB : Cal P w K mg base 2 "levels_to" ["standing"] spLvTo fB dB) (CC : Cal P w K mg base 4 "first_bar" ["level", "standing"] spBar fC dC) (CD : Cal P w K mg base 2 "plan_by" ["levels", "standing"] spPlan fD dD) : FnOk P w K mg base CX0 5 f fd ["standing"] spFew := by
  refine F.ok scFew (fun vs H Q E h => ?_) (fun cdv A outer s H vs Q E hr h => ?_)
  · obtain ⟨a, p, st, rfl, _⟩ := h
    rfl
  · obtain ⟨a, p, st, rfl, hA, S, k⟩ := h
    have hr3 : Room 3 _ := hr.mono (by decide)
    have hr2 : Room 2 _ := hr.mono (by decide)
    refine ⟨_, pss_cons (ps_expr (pe_cal CA hr3 rfl (pa_cons (pv 0) pa_nil)))
      (pss_cons (ps_set (i := 1) scFew.nd rfl (Or.inl rfl) (pe_slice sl_list (pe_cal CB hr2 rfl (pa_cons (pv 0) pa_nil)) po_none (po_some (pe_un un_neg pe_int))))
      (pss_cons (ps_set (i := 2) scFew.nd rfl (Or.inl rfl) (pe_ifExp (pt_truth (pv 1) (fun _ => rfl)) (pe_cal CC hr rfl (pa_cons (pe_ix ix_list (pv 1) (pe_un un_neg pe_int) (fun _ _ => rfl)) (pa_cons (pv 0) pa_nil))) pe_non))
      (pss_one (ps_ret (pe_tup (pa_cons (pe_callB call_len_seq rfl T.len PySem.boot_len (pa_cons (pv 1) pa_nil)) (pa_cons (pe_cal CD hr2 rfl (pa_cons (pv 1) (pa_cons (pv 0) pa_nil))) (pa_cons (pv 2) pa_nil)))))))), ?_⟩
    have hlen := S.len
    have p2 := S.p2
    have p7 := S.p7
    refine ⟨_, rfl, a, p, st, rfl, hA, S, fun H1 s1 => ?_⟩
    refine ⟨_, rfl, a, p, st, rfl, s1 a _ hA, S, fun N l qs H2 hN hN4 hl0 hl2 ht2 s2 => ?_⟩
    obtain ⟨qs', q, rfl, ht, hq⟩ := Lv.TTs.last ht2
    rw [List.map_append] at hl2
    refine ⟨1, rfl, -1, rfl, l, _, rfl, SqL.of hl2, fun fw hfw => ?_⟩
    have ec : cutV (qs'.map V.ref ++ [q].map V.ref) none (some (-1)) = qs'.map V.ref := cut_last _ _
    rw [ec]
    have s3 := (s1.trans s2).trans (Same.new (o := .lst (qs'.map V.ref)) hfw)
    have hfw3 : (upd H2 fw (.lst (qs'.map V.ref))) fw = some (.lst (qs'.map V.ref)) := upd_same
    have ht3 := ht.same (Same.new (o := .lst (qs'.map V.ref)) hfw)
    generalize upd H2 fw (.lst (qs'.map V.ref)) = H3 at s3 hfw3 ht3 ⊢
    have hql : qs'.length = N := by rw [ht.1, lvls_len]
    dsimp only
    refine cut1 (fun σ' H' => σ' = [some (.ref a), some (.ref fw), some (ovV (barF p st N))] ∧ Same H3 H') (fun R hR => ?_) ?_
    · have hemp : (!(qs'.map V.ref).isEmpty) = decide (N ≠ 0) := by
        rw [← hql]
        cases qs' <;> simp
      refine ⟨_, rfl, _, .inl ⟨_, SqL.of hfw3, rfl⟩, ?_⟩
      rw [hemp]
      by_cases hz : N = 0
      · rw [decide_eq_false (by simpa using hz)]
        refine iteF (hR _ _ ⟨?_, Same.refl _⟩)
        unfold barF
        rw [if_pos hz]
        rfl
      · rw [decide_eq_true hz]
        obtain ⟨n, rfl⟩ : ∃ n, N = n + 1 := ⟨N - 1, by (clear hql hN4 p7 p2 hlen; omega)⟩
        obtain ⟨qs2, q2, rfl, ht4, hq4⟩ := Lv.TTs.last ht3
        refine iteT ⟨_, rfl, 1, rfl, fw, _, -1, .ref q2, rfl, rfl, SqL.of hfw3, ?_, ?_⟩
        · rw [List.map_append]
          exact atI_last _ _
        have hclen := cnt_len (p := p) (by (clear hql hz hN4 p7 hlen; omega)) n
        refine ⟨_, rfl, q2, a, cnt p n, st, rfl, hq4, s3 a _ hA, by (clear hql hz hN4 p7 p2; omega), by (clear hclen hql hz hN4 p2; omega), hN.2 n (by (clear hclen hql hz hN4 p7 p2 hlen; omega)), fun H4 s4 => ?_⟩
        exact hR _ _ ⟨rfl, s4⟩
    · rintro σ' H' ⟨rfl, s4⟩
      have hfw4 := s4 fw _ hfw3
      refine ⟨_, rfl, fw, _, rfl, .inl (SqL.of hfw4), _, rfl, _, rfl, fw, a, p, N, st, qs', rfl, hfw4, ht3.same s4, (s3.trans s4) a _ hA, p2, p7, hN4, S.on hN, fun pl rs H5 hpl0 hpl ht5 s5 => ?_⟩
      refine ⟨_, rfl, (by show 3 ≤ sizeLine; decide), fun t htt => ?_⟩
      have sA := (s3.trans s4).trans s5
      refine k N t pl rs _ hN hN4 (sA.free htt) ((s3.trans s4).free hpl0) ?_ ?_ ?_ ?_ (sA.trans (Same.new htt))
      · exact Ne.symm (ne_of_none hpl htt)
      · rw [upd_same, List.length_map, hql]
      · exact (Same.new htt) pl _ hpl
      · exact ht5.same (Same.new htt)
/-! ### _law_pool -/
theorem scPool : FnScope ["script", "k", "cell", "own", "wide", "number", "found", "turn"] ["script", "k"] (defScope sPool) := ⟨rfl, rfl, rfl, by decide +kernel, rfl, by decide +kernel, by decide +kernel⟩
theorem ok_pool {f : Addr} {fd : FuncData} (F : Fun K "_law_pool" "_law_pool" sPool f fd) (T : Txt mg) : FnOk P w K mg base CX0 1 f fd ["script", "k"] (spPool K) := by
  refine F.ok scPool (fun vs H Q E h => ?_) (fun cdv A outer s H vs Q E hr h => ?_)
  · obtain ⟨a, ns, i, rfl, _⟩ := h
    rfl
  · obtain ⟨a, ns, i, rfl, hS, i0, i1, k⟩ := h
    refine ⟨_, pss_cons (ps_set (i := 2) scPool.nd rfl (Or.inl rfl) pe_int)
      (pss_cons (ps_if (pt_cmpR op_lt (pv 1) (pe_callB call_len_seq rfl T.len PySem.boot_len (pa_cons (pv 0) pa_nil)) (nomark _)) (pss_one (ps_set (i := 2) scPool.nd rfl (Or.inl rfl) (pe_ix ix_list (pv 0) (pv 1) (fun _ _ => rfl)))) pss_nil)
      (pss_cons (ps_set (i := 3) scPool.nd rfl (Or.inl rfl) pe_int)
      (pss_cons (ps_if (pt_cmpR op_ge (pv 2) (pe_op op_pow pe_int pe_int) (nomark _))
        (pss_cons (ps_set (i := 4) scPool.nd rfl (Or.inl rfl) (pe_op op_mulB (pe_op op_mulB (pe_op op_pow pe_int pe_int) (pe_op op_pow pe_int pe_int)) (pe_op op_pow pe_int pe_int)))
        (pss_one (ps_set (i := 3) scPool.nd rfl (Or.inl rfl) (pe_op op_mod (pv 2) (pe_op op_mulB (pv 4) (pv 4)))))) pss_nil)
      (pss_cons (ps_set (i := 5) scPool.nd rfl (Or.inl rfl) (pe_op op_mod (pe_op op_add (pe_op op_add (pe_op op_add (pv 2) (pe_op op_mul (pe_op op_mul pe_int (pv 1)) (pv 1))) (pe_op op_mul pe_int (pv 1))) pe_int) pe_int))
      (pss_cons (ps_set (i := 6) scPool.nd rfl (Or.inl rfl) pe_int)
      (pss_cons (ps_for PassesOwn.never rfl (pi_range1 rfl T.range (pa_cons pe_int pa_nil)) (pg_name (i := 7) scPool.nd rfl (Or.inl rfl))
        (pss_cons (ps_set (i := 5) scPool.nd rfl (Or.inl rfl) (pe_op op_mod (pe_op op_add (pe_op op_add (pe_op op_mul (pv 5) pe_int) (pe_op op_mul pe_int (pv 7))) pe_int) pe_int))
        (pss_cons (ps_set (i := 5) scPool.nd rfl (Or.inl rfl) (pe_op op_mod (pe_op op_mul (pv 5) (pv 5)) pe_int))
        (pss_one (ps_set (i := 6) scPool.nd rfl (Or.inl rfl) (pe_op op_add (pe_op op_mul (pv 6) pe_int) (pe_op op_mod (pe_op op_add (pe_op op_mul (pv 5) pe_int) (pv 1)) pe_int)))))))
      (pss_one (ps_ret (pe_lst (pa_cons (pv 3) (pa_cons (pv 6) pa_nil)))))))))))
      , ?_⟩
    refine cut4 (fun σ' H' => ∃ (c ow : Int) (wd : Option V), σ' = [some (.ref a), some (.int i), some (.int c), some (.int ow), wd, none, none, none] ∧ H' = H) (fun R hR => ?_) ?_
    · refine cut2 (fun σ' H' => ∃ c : Int, σ' = [some (.ref a), some (.int i), some (.int c), none, none, none, none, none] ∧ H' = H) (fun R2 hR2 => ?_) ?_
      · refine ⟨_, rfl, _, rfl, a, _, rfl, .inl hS, _, _, rfl, rfl, _, rfl, ?_⟩
        refine ite2 (fun hc => ?_) (fun hc => hR2 _ _ ⟨_, rfl, rfl⟩)
        have hc' : i < (ns.length : Int) := by have := of_decide_eq_true hc; rwa [List.length_map] at this
        exact ⟨_, rfl, _, rfl, a, _, i, _, rfl, rfl, hS, atI_int i0 hc', hR2 _ _ ⟨_, rfl, rfl⟩⟩
      · rintro σ' H' ⟨c, rfl, rfl⟩
        refine ⟨_, rfl, 10, 18, rfl, rfl, ⟨by decide, by decide, by decide⟩, _, _, rfl, rfl, _, rfl, ?_⟩
        refine ite2 (fun hc => ?_) (fun hc => hR _ _ ⟨_, _, _, rfl, rfl⟩)
        obtain ⟨b1, b2, b3, b4⟩ := wide_bits
        refine ⟨10, 60, rfl, rfl, ⟨by decide, by decide, by decide⟩, 10, 60, rfl, rfl, ⟨by decide, by decide, by decide⟩, _, _, rfl, rfl, ⟨1000, 1000, b1, b1, by decide⟩, 10, 60, rfl, rfl, ⟨by decide, by decide, by decide⟩, _, _, rfl, rfl, ⟨1000, 1000, b2, b1, by decide⟩, ?_⟩
        refine ⟨_, rfl, _, rfl, _, rfl, _, _, rfl, rfl, ⟨1000, 1000, b3, b3, by decide⟩, _, _, rfl, rfl, b4, ?_⟩
        exact hR _ _ ⟨_, _, _, rfl, rfl⟩
    · rintro σ' H' ⟨c, ow, wd, rfl, rfl⟩
      refine ⟨_, rfl, _, rfl, 104729, i, rfl, rfl, .inl ⟨by decide, by decide⟩, _, rfl, _, i, rfl, rfl, .inr ⟨by (clear i1; omega), by (clear i0; omega)⟩, _, _, rfl, rfl, _, rfl, 7, i, rfl, rfl, .inl ⟨by decide, by decide⟩, _, _, rfl, rfl, _, 11, rfl, rfl, _, _, rfl, rfl, (by show (0 : Int) < 2147483647; decide), ?_⟩
      refine ⟨40, rfl, by decide, by decide, for_range (fun j σ H2 => ∃ (num fo : Int) (tn : Option V), σ = [some (.ref a), some (.int i), some (.int c), some (.int ow), wd, some (.int num), some (.int fo), tn] ∧ H2 = H') ⟨_, 0, none, rfl, rfl⟩ ?_ ?_⟩
      · rintro j σ H2 hj ⟨num, fo, tn, rfl, rfl⟩
        refine ⟨_, rfl, num, 48271, rfl, rfl, .inr ⟨by decide, by decide⟩, _, rfl, 7919, _, rfl, rfl, .inl ⟨by decide, by decide⟩, _, _, rfl, rfl, _, 3, rfl, rfl, _, _, rfl, rfl, (by show (0 : Int) < 2147483629; decide), ?_⟩
        have m0 := Int.emod_nonneg (num * 48271 + 7919 * (0 + (j : Int)) + 3) (show (2147483629 : Int) ≠ 0 by decide)
        have m1 := Int.emod_lt_of_pos (num * 48271 + 7919 * (0 + (j : Int)) + 3) (show (0 : Int) < 2147483629 by decide)
        refine ⟨_, rfl, _, rfl, _, _, rfl, rfl, .inl ⟨by (clear m1 m0 hj i1 i0; omega), by (clear m1 m0 hj i1 i0; omega)⟩, _, _, rfl, rfl, (by show (0 : Int) < 2147483587; decide), ?_⟩
        refine ⟨_, rfl, fo, _, rfl, rfl, .inr ⟨by decide, by decide⟩, _, rfl, _, 69621, rfl, rfl, .inr ⟨by decide, by decide⟩, _, rfl, _, i, rfl, rfl, _, _, rfl, rfl, (by show (0 : Int) < 2147483587; decide), _, _, rfl, rfl, ?_⟩
        exact ⟨_, _, _, rfl, rfl⟩
      · rintro σ H2 ⟨num, fo, tn, rfl, rfl⟩
        refine ⟨_, rfl, _, rfl, (by show 2 ≤ sizeLine; decide), fun l hl => ?_⟩
        exact k l _ hl ⟨_, _, upd_same⟩ (Same.new hl)
/-! ### _law_take -/
theorem scTake : FnScope ["pool", "many", "at", "digit"] ["pool", "many"] (defScope sTake) := ⟨rfl, rfl, rfl, by decide +kernel, rfl, by decide +kernel, by decide +kernel⟩
theorem ok_take {f : Addr} {fd : FuncData} (F : Fun K "_law_take" "_law_take" sTake f fd) (T : Txt mg) : FnOk P w K mg base CX0 1 f fd ["pool", "many"] spTake := by
  refine F.ok scTake (fun vs H Q E h => ?_) (fun cdv A outer s H vs Q E hr h => ?_)
  · obtain ⟨p, m, rfl, _⟩ := h
    rfl
  · obtain ⟨p, m, rfl, ⟨a, b, hp⟩, h0, h1, k⟩ := h
    refine ⟨_, pss_cons (ps_set (i := 2) scTake.nd rfl (Or.inl rfl) (pe_callTy call_int1 rfl T.int b_int (pa_cons (pe_cmpR op_eq (pe_ix ix_list (pv 0) pe_int (fun _ _ => rfl)) pe_int (nomark _)) pa_nil)))
      (pss_cons (ps_set (i := 3) scTake.nd rfl (Or.inl rfl) (pe_op op_mod (pe_ix ix_list (pv 0) (pv 2) (fun _ _ => rfl)) (pv 1)))
      (pss_cons (ps_asg (pe_op op_fdivB (pe_ix ix_list (pv 0) (pv 2) (fun _ _ => rfl)) (pv 1)) (pg_sub (pv 0) (pv 2) set_list))
      (pss_one (ps_ret (pv 3))))), ?_⟩
    refine ⟨_, rfl, p, _, 0, .int a, rfl, rfl, SqL.of hp, rfl, rfl, .inr ⟨_, rfl, ?_⟩⟩
    cases decide (V.int a = V.int 0) with
    | false =>
      refine ⟨_, rfl, _, rfl, p, _, 0, .int a, rfl, rfl, SqL.of hp, rfl, _, rfl, a, m, rfl, rfl, h0, ?_⟩
      refine ⟨_, rfl, _, rfl, p, _, 0, .int a, rfl, rfl, SqL.of hp, rfl, _, rfl, a, m, rfl, rfl, ⟨h0, h1⟩, _, rfl, _, rfl, p, _, 0, 0, rfl, rfl, hp, rfl, _, rfl, ?_⟩
      exact k _ _ (Int.emod_nonneg _ (by (clear h1; omega))) (Int.emod_lt_of_pos _ h0) ⟨_, _, upd_same⟩ Sm.put
    | true =>
      refine ⟨_, rfl, _, rfl, p, _, 1, .int b, rfl, rfl, SqL.of hp, rfl, _, rfl, b, m, rfl, rfl, h0, ?_⟩
      refine ⟨_, rfl, _, rfl, p, _, 1, .int b, rfl, rfl, SqL.of hp, rfl, _, rfl, b, m, rfl, rfl, ⟨h0, h1⟩, _, rfl, _, rfl, p, _, 1, 1, rfl, rfl, hp, rfl, _, rfl, ?_⟩
      exact k _ _ (Int.emod_nonneg _ (by (clear h1; omega))) (Int.emod_lt_of_pos _ h0) ⟨_, _, upd_same⟩ Sm.put
/-! ### _law_counts -/
theorem scLCounts : FnScope ["p", "n", "found", "level"] ["p", "n"] (defScope sLCounts) := ⟨rfl, rfl, rfl, by decide +kernel, rfl, by decide +kernel, by decide +kernel⟩
theorem ok_lcounts {f : Addr} {fd : FuncData} (F : Fun K "_law_counts" "_law_counts" sLCounts f fd) (T : Txt mg) : FnOk P w K mg base CX0 1 f fd ["p", "n"] spLCounts := by
  refine F.ok scLCounts (fun vs H Q E h => ?_) (fun cdv A outer s H vs Q E hr h => ?_)
  · obtain ⟨p, n, rfl, _⟩ := h
    rfl
  · obtain ⟨p, n, rfl, h1, h2, h3, k⟩ := h
    refine ⟨_, pss_cons (ps_set (i := 2) scLCounts.nd rfl (Or.inr rfl) (pe_op op_cat (pe_lst (pa_cons pe_int pa_nil)) (pe_op op_rep (pe_lst (pa_cons pe_int pa_nil)) (pe_op op_sub (pv 0) pe_int))))
      (pss_cons (ps_for PassesOwn.never rfl (pi_range1 rfl T.range (pa_cons (pv 1) pa_nil)) (pg_name (i := 3) scLCounts.nd rfl (Or.inl rfl))
        (pss_one (ps_set (i := 2) scLCounts.nd rfl (Or.inr rfl) (pe_op op_cat
          (pe_comp (own := ["k"]) (js := [2]) (CompOk.by (sc := defScope sLCounts) (N := ["p", "n", "found", "level"]) rfl rfl (by decide +kernel)) rfl (pi_range2 rfl T.range (pa_cons pe_int (pa_cons (pv 0) pa_nil))) gkeep_name
            (fun _ _ _ _ _ => pg_name (i := 0) (by show (["k", "found"] : List Str).Nodup; decide +kernel) rfl (Or.inl rfl) (.inr rfl)) (fun _ _ _ _ _ => pts_nil) (fun _ _ _ _ _ => pe_op op_add (pe_ix (ixK_list K) (pv 1) pe_int (fun _ _ => rfl)) (pe_ix (ixK_list K) (pv 1) (pv 0) (fun _ _ => rfl))))
          (pe_lst (pa_cons (pe_ix ix_list (pv 2) pe_int (fun _ _ => rfl)) pa_nil))))))
      (pss_one (ps_ret (pv 2)))), ?_⟩
    refine ⟨(by show 1 ≤ sizeLine; decide), fun p1 e1 => ⟨(by show 1 ≤ sizeLine; decide), fun p2 e2 => ⟨_, rfl, _, _, rfl, rfl, ?_⟩⟩⟩
    have z2 : (upd (upd H p1 (.lst [.int 1])) p2 (.lst [.int 0])) p1 = some (.lst [.int 1]) := by rw [upd_ne (ne_of_none upd_same e2)]; exact upd_same
    refine ⟨p2, (p : Int) - 1, _, rfl, rfl, upd_same, by (clear h3 h2 h1; omega), by (clear h3 h1; omega), ?_, fun p3 e3 => ?_⟩
    · exact Nat.le_of_lt (small1000 (by show 1 * ((p : Int) - 1).toNat ≤ 1000; (clear h3 h1; omega)))
    have z3 := (Same.new (o := .lst (List.replicate ((p : Int) - 1).toNat [V.int 0]).flatten) e3) p1 _ z2
    have ez : (List.replicate ((p : Int) - 1).toNat [V.int 0]).flatten = List.replicate (p - 1) (V.int 0) := by
      rw [show ((p : Int) - 1).toNat = p - 1 by (clear h3 h2 h1; omega)]
      exact List.flatten_replicate_singleton
    rw [ez] at z3 ⊢
    refine ⟨p1, p3, _, _, rfl, rfl, z3, upd_same, ?_, fun p4 e4 => ?_⟩
    · exact Nat.le_of_lt (small1000 (by rw [List.length_replicate]; show 1 + (p - 1) ≤ 1000; (clear h3 h1; omega)))
    have s4 := (((Same.new (o := .lst [.int 1]) e1).trans (Same.new (o := .lst [.int 0]) e2)).trans (Same.new (o := .lst (List.replicate (p - 1) (V.int 0))) e3)).trans (Same.new (o := .lst ([.int 1] ++ List.replicate (p - 1) (V.int 0))) e4)
    have n4 : H p4 = none := (((Same.new (o := .lst [.int 1]) e1).trans (Same.new (o := .lst [.int 0]) e2)).trans (Same.new (o := .lst (List.replicate (p - 1) (V.int 0))) e3)).free e4
    refine ⟨_, rfl, n, rfl, by (clear h3 h2 h1; omega), by (clear h2 h1; omega), for_range (fun i σ H2 => ∃ (l : Addr) (o : Option V), σ = [some (.int p), some (.int n), some (.ref l), o] ∧ H l = none ∧ H2 l = some (.lst ((cnt p i).map V.int)) ∧ Same H H2)
      ⟨p4, none, rfl, n4, by rw [upd_same]; simp [cnt, firstC], s4⟩ ?_ ?_⟩
    · rintro i σ H2 hi ⟨l, o, rfl, hl0, hl2, s2⟩
      have hlen := cnt_len (p := p) (by (clear hi h3 h2; omega)) i
      have ex : cnt p (i + 1) = nextC (cnt p i) := rfl
      rw [ex]
      generalize cnt p i = c at *
      obtain ⟨c0, cr, rfl⟩ : ∃ c0 cr, c = c0 :: cr := by
        cases c with
        | nil => simp at hlen; (clear hi h3 h2; omega)
        | cons x y => exact ⟨x, y, rfl⟩
      have hcr : cr.length = p - 1 := by simp at hlen; (clear hi h3 h2 h1; omega)
      refine ⟨_, rfl, 1, p, rfl, ⟨by (clear hcr hlen hi h3 h2 h1; omega), by (clear hcr hlen hi h3 h2 h1; omega), by (clear hcr hlen hi h3 h2 h1; omega), by (clear hcr hlen hi h3 h1; omega)⟩, ?_⟩
      rw [show ((p : Int) - 1).toNat = cr.length by (clear hlen hi h3 h2 h1; omega)]
      refine comp_range (fun acc j H3 => Same H2 H3 ∧ H3 acc = some (.lst (((cr.take j).map (c0 + ·)).map V.int))) (fun acc h0 => ⟨Same.new h0, upd_same⟩) ?_ ?_
      · rintro acc j H3 h0 hj ⟨s3, hacc⟩
        have hl3 := s3 l _ hl2
        refine ⟨_, rfl, l, _, 0, .int c0, rfl, rfl, SqL.of hl3, atI_head, _, rfl, _, rfl, l, _, _, .int cr[j], rfl, rfl, SqL.of hl3, ?_, _, _, rfl, rfl, _, hacc, ?_, hj, s3.put h0, ?_⟩
        · rw [atI_int (by (clear hj hcr hlen hi h3 h2 h1; omega)) (by simp; (clear hcr hlen hi h3 h2 h1; omega))]
          rw [show ((1 : Int) + (j : Int)).toNat = j + 1 by (clear hj hcr hlen hi h3 h2 h1; omega)]
          simp [hj]
        · exact small1000 (by simp; (clear hj hlen hi h3 h1; omega))
        · rw [upd_same, List.take_succ_eq_append_getElem hj, List.map_append, List.map_append]
          rfl
      · rintro acc H3 h0 ⟨s3, hacc⟩
        rw [List.take_length] at hacc
        have hl3 := s3 l _ hl2
        refine ⟨_, rfl, l, _, 0, .int c0, rfl, rfl, SqL.of hl3, atI_head, (by show 1 ≤ sizeLine; decide), fun q2 f2 => ?_⟩
        refine ⟨acc, q2, _, _, rfl, rfl, (Same.new f2) acc _ hacc, upd_same, ?_, fun q3 f3 => ?_⟩
        · exact Nat.le_of_lt (small1000 (by simp; (clear hlen hi h3 h1; omega)))
        have s5 := s2.trans (s3.trans (Same.new (o := .lst [.int c0]) f2))
        refine ⟨q3, _, rfl, s5.free f3, ?_, s5.trans (Same.new f3)⟩
        rw [upd_same]
        simp [nextC]
    · rintro σ H2 ⟨l, o, rfl, hl0, hl2, s2⟩
      refine ⟨_, rfl, k l H2 hl0 ?_ s2⟩
      simpa using hl2
/-! ### _law_whole -/
/-! ### _law_great -/
theorem scGreat : FnScope ["pool", "kind", "number"] ["pool"] (defScope sGreat) := ⟨rfl, rfl, rfl, by decide +kernel, rfl, by decide +kernel, by decide +kernel⟩
theorem ten18 : (0 : Int) < (10 : Int) ^ Int.toNat 18 ∧ Builtin.Int.intBits ((10 : Int) ^ Int.toNat 18) ≤ 8000 ∧ (10 : Int) ^ Int.toNat 18 ≤ big := by decide +kernel
theorem ten60 : (10 : Int) ^ Int.toNat 60 = big := by decide +kernel
theorem bits_big : Builtin.Int.intBits big ≤ 8000 ∧ (0 : Int) < big ∧ Builtin.Int.intBits (big + 1) ≤ 8000 := by decide +kernel
theorem ok_great {f fA : Addr} {fd dA : FuncData} (F : Fun K "_law_great" "_law_great" sGreat f fd) (T : Txt mg) (CT : Cal P w K mg base 1 "_law_take" ["pool", "many"] spTake fA dA) : FnOk P w K mg base CX0 2 f fd ["pool"] spGreat := by
  refine F.ok scGreat (fun vs H Q E h => ?_) (fun cdv A outer s H vs Q E hr h => ?_)
  · obtain ⟨p, rfl, _⟩ := h
    rfl
  · obtain ⟨pl, rfl, hP, k⟩ := h
    refine ⟨_, pss_cons (ps_set (i := 1) scGreat.nd rfl (Or.inl rfl) (pe_cal CT hr rfl (pa_cons (pv 0) (pa_cons pe_int pa_nil))))
      (pss_cons (ps_set (i := 2) scGreat.nd rfl (Or.inl rfl) (pe_cal CT hr rfl (pa_cons (pv 0) (pa_cons (pe_ix ix_list (pe_lst (pa_cons pe_int (pa_cons pe_int (pa_cons (pe_op op_pow pe_int pe_int) (pa_cons pe_int pa_nil))))) (pv 1) (fun _ _ => rfl)) pa_nil))))
      (pss_cons (ps_if (pt_cmpR op_eq (pv 1) pe_int (nomark _)) (pss_one (ps_ret (pe_op op_sub (pe_op op_pow pe_int pe_int) (pv 2)))) pss_nil)
      (pss_one (ps_ret (pv 2))))), ?_⟩
    refine ⟨_, rfl, pl, 4, rfl, hP, by decide, by decide, fun d H1 d0 d1 hP1 sm1 => ?_⟩
    refine ⟨_, rfl, 10, 18, rfl, rfl, ⟨by decide, by decide, by decide⟩, (by show 4 ≤ sizeLine; decide), fun l hl => ?_⟩
    obtain ⟨t1, t2, t3⟩ := ten18
    dsimp only at hl ⊢
    generalize (10 : Int) ^ Int.toNat 18 = tt at t1 t2 t3 hl ⊢
    have hb1 : (9 : Int) ≤ big := by decide +kernel
    have hb0 : (0 : Int) < big := by decide +kernel
    have hb60 : (60 : Int) ≤ big := by decide +kernel
    obtain ⟨x, hx, x0, xb, xl, xn⟩ : ∃ x : Int, atI [V.int 5, .int 60, .int tt, .int 9] d = some (.int x) ∧ 0 < x ∧ Builtin.Int.intBits x ≤ 8000 ∧ x ≤ big ∧ (d = 3 → x = 9) := by
      rcases (show d = 0 ∨ d = 1 ∨ d = 2 ∨ d = 3 by (clear hb60 hb0 hb1 t3 t2 t1; omega)) with rfl | rfl | rfl | rfl
      · exact ⟨5, rfl, by decide, by decide, by (clear d1 d0 hb60 hb0 t3 t2 t1; omega), fun h => by (clear d1 d0 hb60 hb0 hb1 t3 t2 t1; omega)⟩
      · exact ⟨60, rfl, by decide, by decide, by (clear d1 d0 hb0 hb1 t3 t2 t1; omega), fun h => by (clear d1 d0 hb60 hb0 hb1 t3 t2 t1; omega)⟩
      · exact ⟨tt, rfl, t1, t2, t3, fun h => by (clear d1 d0 hb60 hb0 hb1 t3 t2 t1; omega)⟩
      · exact ⟨9, rfl, by decide, by decide, by (clear d1 d0 hb60 hb0 t3 t2 t1; omega), fun _ => rfl⟩
    refine ⟨_, rfl, l, _, d, .int x, rfl, rfl, SqL.of upd_same, hx, ?_⟩
    refine ⟨pl, x, rfl, hP1.put hl, x0, xb, fun y H2 y0 y1 hP2 sm2 => ?_⟩
    have sm := (sm1.trans (Sm.new hl)).trans sm2
    refine ⟨_, rfl, rfl, _, rfl, ?_⟩
    refine ite2 (fun hc => ?_) (fun hc => ?_)
    · have e3 : d = 3 := by
        have := of_decide_eq_true hc
        injection this
      have ex := xn e3
      refine ⟨10, 60, rfl, rfl, ⟨by decide, by decide, by decide⟩, _, rfl, _, _, rfl, rfl, ?_⟩
      dsimp only
      rw [ten60]
      exact k _ H2 (by (clear ex e3 y0 xn xb x0 hb60 hb0 hb1 t3 t2 t1 d1 d0; omega)) (by (clear ex e3 y1 xn xl xb x0 hb60 hb0 hb1 t3 t2 t1 d1 d0; omega)) hP2 sm
    · exact ⟨_, rfl, k _ H2 y0 (by (clear hc y0 xn xb x0 hb60 hb0 hb1 t3 t2 t1 d1 d0; omega)) hP2 sm⟩
/-! ### _law_standing -/
theorem b_range : bootBuiltins "range" = some (.type "range") := by decide +kernel
theorem _root_.Lv.Sm.putN {p q : Addr} {H H2 : Hp} {o : HO} (s : Sm p H H2) (h : H q = none) : Sm p H (upd H2 q o) := fun b u e n => by
  rw [upd_ne (ne_of_none e h)]
  exact s b u e n
theorem pe_bmK (K : PySem.W.Frag) {X : Cx} {o e : Expr} {es : List Expr} {to : TE} {t : TA} {name : Str} {apos cpos : Pos} {T id : String} {r : V → List V → Hp → VK → Prop} (pa : PlainAttrs T) (slot : Slot T name id) (hty : typeOf (.builtin id) = pure (.type "method_descriptor")) (hm : MtR X id r) (ho : PE X o to) (ha : PA X (e :: es) t) (hK : X.K = K := by rfl)
    (hbase : attributeBase o name X.env (eval o X.env) = eval o X.env := by rfl)
    (hfew : ((backTo cpos (starEach (e :: es) X.env)).all (fun x => !x.1) && (backToKw cpos (keywordEach [] X.env)).all (fun x => x.1.isSome)
      && decide ((e :: es).length + ([] : List Keyword).length + (if ([] : List Keyword).isEmpty then 0 else 1) < 30)) = true := by rfl)
    (hline : (apos.endLine == cpos.line) = true := by rfl) (hs : starEach (e :: es) X.env = (false, eval e X.env) :: starEach es X.env := by rfl) (hplain : (backTo cpos (starEach es X.env)).any (·.1) = false := by rfl) :
    PE X (.Call (.Attribute o name apos) (e :: es) [] cpos) (tBM K T r to t) := by
  subst hK
  exact pe_bm pa slot hty hm ho ha hbase hfew hline hs hplain
theorem scStand : FnScope ["pool", "p", "kind", "top", "counts", "turn", "at", "order"] ["pool"] (defScope sStand) := ⟨rfl, rfl, rfl, by decide +kernel, rfl, by decide +kernel, by decide +kernel⟩
def capB (x : Int) : Int := if x < big then x else big
theorem capB_ok {x : Int} (h : 0 ≤ x) : 0 ≤ capB x ∧ capB x ≤ big := by
  have : (0 : Int) < big := by decide +kernel
  unfold capB
  split <;> omega
theorem range_getD (C : List Int) : (List.range C.length).map (fun j => C.getD j 0) = C := by
  apply List.ext_getElem
  · simp
  · intro i h1 h2
    simp [List.getD_eq_getElem?_getD, h2]
theorem perm_pop {res : List Int} {C : List Int} {os : List Nat} {d : Nat} (h : d < os.length) (hp : (res ++ os.map (fun j => C.getD j 0)).Perm C) : ((res ++ [C.getD os[d] 0]) ++ (os.eraseIdx d).map (fun j => C.getD j 0)).Perm C := by
  refine List.Perm.trans ?_ hp
  rw [List.append_assoc]
  refine List.Perm.append_left res ?_
  have h1 : os.Perm (os[d] :: os.eraseIdx d) := by
    rw [List.eraseIdx_eq_take_drop_succ]
    have e : os = os.take d ++ os[d] :: os.drop (d + 1) := by rw [← List.drop_eq_getElem_cons h, List.take_append_drop]
    have pm : (os.take d ++ os[d] :: os.drop (d + 1)).Perm (os[d] :: (os.take d ++ os.drop (d + 1))) := List.perm_middle
    exact (List.Perm.of_eq e).trans pm
  exact (h1.map (fun j => C.getD j 0)).symm
theorem ok_stand {f fA fB fC : Addr} {fd dA dB dC : FuncData} (F : Fun K "_law_standing" "_law_standing" sStand f fd) (T : Txt mg) (CT : Cal P w K mg base 1 "_law_take" ["pool", "many"] spTake fA dA) (CG : Cal P w K mg base 2 "_law_great" ["pool"] spGreat fB dB) (CC : Cal P w K mg base 1 "_law_counts" ["p", "n"] spLCounts fC dC) : FnOk P w K mg base CX0 3 f fd ["pool"] spStand := by
  refine F.ok scStand (fun vs H Q E h => ?_) (fun cdv A outer s H vs Q E hr h => ?_)
  · obtain ⟨p, rfl, _⟩ := h
    rfl
  · obtain ⟨pl, rfl, hP, k⟩ := h
    have hr1 : Room 1 _ := hr.mono (by decide)
    refine ⟨_, pss_cons (ps_set (i := 1) scStand.nd rfl (Or.inl rfl) (pe_op op_add pe_int (pe_cal CT hr1 rfl (pa_cons (pv 0) (pa_cons pe_int pa_nil)))))
      (pss_cons (ps_set (i := 2) scStand.nd rfl (Or.inl rfl) (pe_cal CT hr1 rfl (pa_cons (pv 0) (pa_cons pe_int pa_nil))))
      (pss_cons (ps_if (pt_cmpR op_eq (pv 2) pe_int (nomark _))
        (pss_cons (ps_set (i := 3) scStand.nd rfl (Or.inr rfl) (pe_ix ix_list (pe_lst (pa_cons pe_int (pa_cons pe_int (pa_cons pe_int (pa_cons (pe_op op_pow pe_int pe_int) pa_nil))))) (pe_cal CT hr1 rfl (pa_cons (pv 0) (pa_cons pe_int pa_nil))) (fun _ _ => rfl)))
        (pss_one (ps_set (i := 4) scStand.nd rfl (Or.inr rfl) (pe_comp (own := ["k"]) (js := [0, 3]) (CompOk.by (sc := defScope sStand) (N := ["pool", "p", "kind", "top", "counts", "turn", "at", "order"]) rfl rfl (by decide +kernel)) rfl (pi_range1 rfl T.range (pa_cons (pv 1) pa_nil)) gkeep_name
          (fun _ _ _ _ _ => pg_name (i := 0) (by show (["k", "pool", "top"] : List Str).Nodup; decide +kernel) rfl (Or.inl rfl) (.inr rfl)) (fun _ _ _ _ _ => pts_nil) (fun _ _ _ _ _ => pe_cal CT hr1 rfl (pa_cons (pv 1) (pa_cons (pe_op op_add (pv 2) pe_int) pa_nil)))))))
        (pss_one (ps_if (pt_cmpR op_eq (pv 2) pe_int (nomark _))
          (pss_one (ps_set (i := 4) scStand.nd rfl (Or.inr rfl) (pe_comp (own := ["k"]) (js := [0]) (CompOk.by (sc := defScope sStand) (N := ["pool", "p", "kind", "top", "counts", "turn", "at", "order"]) rfl rfl (by decide +kernel)) rfl (pi_range1 rfl T.range (pa_cons (pv 1) pa_nil)) gkeep_name
            (fun _ _ _ _ _ => pg_name (i := 0) (by show (["k", "pool"] : List Str).Nodup; decide +kernel) rfl (Or.inl rfl) (.inr rfl)) (fun _ _ _ _ _ => pts_nil) (fun _ _ _ _ _ => pe_cal CG hr rfl (pa_cons (pv 1) pa_nil)))))
          (pss_cons (ps_set (i := 4) scStand.nd rfl (Or.inr rfl) (pe_cal CC hr1 rfl (pa_cons (pv 1) (pa_cons (pe_cal CT hr1 rfl (pa_cons (pv 0) (pa_cons (pe_ix ix_list (pe_lst (pa_cons pe_int (pa_cons pe_int (pa_cons pe_int pa_nil)))) (pe_cal CT hr1 rfl (pa_cons (pv 0) (pa_cons pe_int pa_nil))) (fun _ _ => rfl)) pa_nil))) pa_nil))))
          (pss_one (ps_for PassesOwn.never rfl (pi_range1 rfl T.range (pa_cons (pe_cal CT hr1 rfl (pa_cons (pv 0) (pa_cons pe_int pa_nil))) pa_nil)) (pg_name (i := 5) scStand.nd rfl (Or.inl rfl))
            (pss_cons (ps_set (i := 6) scStand.nd rfl (Or.inl rfl) (pe_cal CT hr1 rfl (pa_cons (pv 0) (pa_cons (pv 1) pa_nil))))
            (pss_one (ps_asg (pe_callB (call_max2 rfl) rfl T.max b_max (pa_cons pe_int (pa_cons (pe_op op_add (pe_ix ix_list (pv 4) (pv 6) (fun _ _ => rfl))
              (pe_ix ix_list (pe_lst (pa_cons pe_int (pa_cons (pe_op op_sub pe_int pe_int) (pa_cons (pe_op op_sub pe_int (pe_ix ix_list (pv 4) (pv 6) (fun _ _ => rfl))) (pa_cons (pe_op op_sub pe_int (pe_op op_fdivB (pe_ix ix_list (pv 4) (pv 6) (fun _ _ => rfl)) pe_int)) pa_nil))))) (pe_cal CT hr1 rfl (pa_cons (pv 0) (pa_cons pe_int pa_nil))) (fun _ _ => rfl))) pa_nil))) (pg_sub (pv 4) (pv 6) set_list))))))))))
      (pss_cons (ps_set (i := 4) scStand.nd rfl (Or.inr rfl) (pe_op op_cat (pe_comp (own := ["count"]) (js := []) (CompOk.by (sc := defScope sStand) (N := ["pool", "p", "kind", "top", "counts", "turn", "at", "order"]) rfl rfl (by decide +kernel)) rfl (pi_list (pv 4)) gkeep_name
          (fun _ _ _ _ _ => pg_name (i := 0) (by show (["count"] : List Str).Nodup; decide +kernel) rfl (Or.inl rfl) (.inr rfl)) (fun _ _ _ _ _ => pts_nil) (fun _ _ _ _ _ => pe_callB (call_min2 rfl) rfl T.min b_min (pa_cons (pe_op op_pow pe_int pe_int) (pa_cons (pv 0) pa_nil)))) (pe_lst (pa_cons pe_int pa_nil))))
      (pss_cons (ps_if (pt_cmpR op_eq (pe_callB (call_maxB rfl) rfl T.max b_max (pa_cons (pv 4) pa_nil)) pe_int (nomark _)) (pss_one (ps_asg pe_int (pg_sub (pv 4) pe_int set_list))) pss_nil)
      (pss_cons (ps_set (i := 7) scStand.nd rfl (Or.inr rfl) (pe_callTy (call_list_rng rfl) rfl T.list b_list (pa_cons (pe_callTy call_rng rfl T.range b_range (pa_cons (pe_op op_add (pv 1) pe_int) pa_nil)) pa_nil)))
      (pss_one (ps_ret (pe_callTy call_tuple_of rfl T.tuple b_tuple (pa_cons (pe_comp (own := ["k"]) (js := [0, 4, 7]) (CompOk.by (sc := defScope sStand) (N := ["pool", "p", "kind", "top", "counts", "turn", "at", "order"]) rfl rfl (by decide +kernel)) rfl (pi_range1 rfl T.range (pa_cons (pe_op op_add (pv 1) pe_int) pa_nil)) gkeep_name
        (fun _ _ _ _ _ => pg_name (i := 0) (by show (["k", "pool", "counts", "order"] : List Str).Nodup; decide +kernel) rfl (Or.inl rfl) (.inr rfl)) (fun _ _ _ _ _ => pts_nil)
        (fun _ _ _ _ _ => pe_ix (ixK_list K) (pv 2) (pe_bmK K PySem.F.plainAttrs_list PySem.F.slot_list_pop PySem.F.type_list_pop mt_popAt (pv 3) (pa_cons (pe_cal CT hr1 rfl (pa_cons (pv 1) (pa_cons (pe_callB (callK_len K) rfl T.len PySem.boot_len (pa_cons (pv 3) pa_nil)) pa_nil))) pa_nil)) (fun _ _ => rfl))) pa_nil))))))))), ?_⟩
    refine ⟨_, rfl, pl, 6, rfl, hP, by decide, by decide, fun d1 H1 a0 a1 hP1 sm1 => ⟨2, d1, rfl, rfl, ?_⟩⟩
    obtain ⟨p, hp, p2, p7⟩ : ∃ p : Nat, 2 + d1 = (p : Int) ∧ 2 ≤ p ∧ p ≤ 7 := ⟨(2 + d1).toNat, by (clear a1; omega), by (clear a1; omega), by (clear a0; omega)⟩
    dsimp only
    rw [hp]
    refine ⟨_, rfl, pl, 4, rfl, hP1, by decide, by decide, fun kd H2 b0 b1 hP2 sm2 => ?_⟩
    have sm02 := sm1.trans sm2
    dsimp only
    refine cut1 (fun σ' H' => ∃ (o3 o5 o6 : Option V) (l : Addr) (cs : List Int), σ' = [some (.ref pl), some (.int p), some (.int kd), o3, some (.ref l), o5, o6, none] ∧ cs.length = p ∧ (∀ x ∈ cs, 0 ≤ x) ∧ H l = none ∧ H' l = some (.lst (cs.map V.int)) ∧ Pool H' pl ∧ Sm pl H H') (fun R hR => ?_) ?_
    · refine ⟨_, rfl, rfl, _, rfl, ?_⟩
      refine ite2 (fun hc => ?_) (fun hc => ?_)
      · refine ⟨10, 60, rfl, rfl, ⟨by decide, by decide, by decide⟩, (by show 4 ≤ sizeLine; decide), fun lt hlt => ?_⟩
        dsimp only at hlt ⊢
        rw [ten60]
        have hltp : lt ≠ pl := hP2.ne hlt
        refine ⟨_, rfl, pl, 4, rfl, hP2.put hlt, by decide, by decide, fun d H3 d0 d1' hP3 sm3 => ?_⟩
        obtain ⟨bb, b0', bb1⟩ := bits_big
        obtain ⟨x, hx, x0, xb⟩ : ∃ x : Int, atI [V.int 1, .int 3, .int 20, .int big] d = some (.int x) ∧ 0 < x + 1 ∧ Builtin.Int.intBits (x + 1) ≤ 8000 := by
          rcases (show d = 0 ∨ d = 1 ∨ d = 2 ∨ d = 3 by (clear bb1 b0' bb hltp b1 b0 p7 p2 hp a1 a0; omega)) with rfl | rfl | rfl | rfl
          · exact ⟨1, rfl, by decide, by decide⟩
          · exact ⟨3, rfl, by decide, by decide⟩
          · exact ⟨20, rfl, by decide, by decide⟩
          · exact ⟨big, rfl, by (clear d1' d0 bb1 bb hltp b1 b0 p7 p2 hp a1 a0; omega), bb1⟩
        refine ⟨lt, _, d, .int x, rfl, rfl, SqL.of (sm3 lt _ upd_same hltp), hx, ?_⟩
        refine ⟨_, rfl, p, rfl, by (clear xb x0 bb1 b0' bb d1' d0 hltp b1 b0 p7 p2 hp a1 a0; omega), by (clear xb x0 bb1 b0' bb d1' d0 hltp b1 b0 p7 p2 a0; omega), ?_⟩
        rw [show ((p : Nat) : Int).toNat = p by (clear xb x0 bb1 b0' bb d1' d0 hltp b1 b0 p7 p2 hp a1 a0; omega)]
        have smb := (sm02.trans (Sm.new hlt)).trans sm3
        refine comp_range (fun acc i Hx => ∃ cs : List Int, cs.length = i ∧ (∀ x ∈ cs, 0 ≤ x) ∧ Hx acc = some (.lst (cs.map V.int)) ∧ Pool Hx pl ∧ Sm pl H Hx) (fun acc h0 => ⟨[], rfl, by simp, upd_same, hP3.put h0, smb.putN (smb.free (hP3.ne h0) h0)⟩) ?_ ?_
        · rintro acc i Hx h0 hi ⟨cs, hcl, hnn, hacc, hPx, smx⟩
          have hap : acc ≠ pl := hP3.ne h0
          have ha0 : H acc = none := smb.free hap h0
          refine ⟨_, rfl, _, rfl, x, 1, rfl, rfl, pl, _, rfl, hPx, x0, xb, fun y H5 y0 y1 hP5 sm5 => ?_⟩
          refine ⟨_, sm5 acc _ hacc hap, small1000 (by simp; (clear y1 y0 hap xb x0 bb1 b0' bb d1' d0 hltp b1 b0 p7 p2 a0; omega)), hi, cs ++ [y], by simp [hcl], ?_, ?_, ?_, (smx.trans sm5).putN ha0⟩
          · intro z hz
            rcases List.mem_append.mp hz with hz | hz
            · exact hnn z hz
            · have : z = y := by simpa using hz
              (clear y1 hap hcl hi xb x0 bb1 b0' bb d1' d0 hltp b1 b0 p7 p2 hp a1 a0; omega)
          · rw [upd_same]
            simp
          · obtain ⟨u, v, e⟩ := hP5
            exact ⟨u, v, by rw [upd_ne (Ne.symm hap)]; exact e⟩
        · rintro acc Hx h0 ⟨cs, hcl, hnn, hacc, hPx, smx⟩
          exact hR _ _ ⟨_, none, none, acc, cs, rfl, hcl, hnn, smb.free (hP3.ne h0) h0, hacc, hPx, smx⟩
      · refine ⟨_, rfl, rfl, _, rfl, ?_⟩
        refine ite2 (fun hc => ?_) (fun hc => ?_)
        · refine ⟨_, rfl, p, rfl, by (clear b1 b0 p7 p2 hp a1 a0; omega), by (clear b1 b0 p7 p2 a0; omega), ?_⟩
          rw [show ((p : Nat) : Int).toNat = p by (clear b1 b0 p7 p2 hp a1 a0; omega)]
          refine comp_range (fun acc i Hx => ∃ cs : List Int, cs.length = i ∧ (∀ x ∈ cs, 0 ≤ x) ∧ Hx acc = some (.lst (cs.map V.int)) ∧ Pool Hx pl ∧ Sm pl H Hx) (fun acc h0 => ⟨[], rfl, by simp, upd_same, hP2.put h0, sm02.putN (sm02.free (hP2.ne h0) h0)⟩) ?_ ?_
          · rintro acc i Hx h0 hi ⟨cs, hcl, hnn, hacc, hPx, smx⟩
            have hap : acc ≠ pl := hP2.ne h0
            have ha0 : H acc = none := sm02.free hap h0
            refine ⟨_, rfl, pl, rfl, hPx, fun y H5 y0 y1 hP5 sm5 => ?_⟩
            refine ⟨_, sm5 acc _ hacc hap, small1000 (by simp; (clear y1 y0 hap b1 b0 p7 p2 a0; omega)), hi, cs ++ [y], by simp [hcl], ?_, ?_, ?_, (smx.trans sm5).putN ha0⟩
            · intro z hz
              rcases List.mem_append.mp hz with hz | hz
              · exact hnn z hz
              · have : z = y := by simpa using hz
                (clear y1 hap hcl hi b1 b0 p7 p2 hp a1 a0; omega)
            · rw [upd_same]
              simp
            · obtain ⟨u, v, e⟩ := hP5
              exact ⟨u, v, by rw [upd_ne (Ne.symm hap)]; exact e⟩
          · rintro acc Hx h0 ⟨cs, hcl, hnn, hacc, hPx, smx⟩
            exact hR _ _ ⟨none, none, none, acc, cs, rfl, hcl, hnn, sm02.free (hP2.ne h0) h0, hacc, hPx, smx⟩
        · refine ⟨_, rfl, _, rfl, (by show 3 ≤ sizeLine; decide), fun lt hlt => ?_⟩
          have hltp : lt ≠ pl := hP2.ne hlt
          refine ⟨_, rfl, pl, 3, rfl, hP2.put hlt, by decide, by decide, fun d H3 d0 d1' hP3 sm3 => ?_⟩
          obtain ⟨x, hx, x0, xb, xl⟩ : ∃ x : Int, atI [V.int 5, .int 12, .int 60] d = some (.int x) ∧ 0 < x ∧ Builtin.Int.intBits x ≤ 8000 ∧ x ≤ 60 := by
            rcases (show d = 0 ∨ d = 1 ∨ d = 2 by (clear hltp hc b1 b0 p7 p2 hp a1 a0; omega)) with rfl | rfl | rfl
            · exact ⟨5, rfl, by decide, by decide, by decide⟩
            · exact ⟨12, rfl, by decide, by decide, by decide⟩
            · exact ⟨60, rfl, by decide, by decide, by decide⟩
          refine ⟨lt, _, d, .int x, rfl, rfl, SqL.of (sm3 lt _ upd_same hltp), hx, ?_⟩
          refine ⟨pl, x, rfl, hP3, x0, xb, fun n H4 n0 n1 hP4 sm4 => ?_⟩
          obtain ⟨n, rfl⟩ : ∃ m : Nat, n = (m : Int) := ⟨n.toNat, by (clear n1 xl xb x0 d1' d0 hltp hc b1 b0 p7 p2 hp a1 a0; omega)⟩
          have smb := ((sm02.trans (Sm.new hlt)).trans sm3).trans sm4
          refine ⟨p, n, rfl, p2, p7, by (clear n0 xb x0 d1' d0 hltp hc b1 b0 p7 p2 hp a1 a0; omega), fun lc H5 hlc0 hlc s5 => ?_⟩
          have hlcp : lc ≠ pl := hP4.ne hlc0
          have hlcH : H lc = none := smb.free hlcp hlc0
          refine ⟨_, rfl, pl, 3, rfl, hP4.same s5, by decide, by decide, fun tn H6 t0 t1 hP6 sm6 => ?_⟩
          refine ⟨tn, rfl, by (clear t1 hlcp n1 n0 xl xb x0 d1' d0 hltp hc b1 b0 p7 p2 hp a1 a0; omega), by (clear t0 hlcp n1 n0 xl xb x0 d1' d0 hltp hc b1 b0 p7 p2 hp a1 a0; omega), for_range (fun i σ Hx => ∃ (o5 o6 : Option V) (cs : List Int), σ = [some (.ref pl), some (.int p), some (.int kd), none, some (.ref lc), o5, o6, none] ∧ cs.length = p ∧ (∀ x ∈ cs, 0 ≤ x) ∧ Hx lc = some (.lst (cs.map V.int)) ∧ Pool Hx pl ∧ Sm pl H Hx)
            ⟨none, none, cnt p n, rfl, cnt_len (by (clear t1 t0 hlcp n1 n0 xl xb x0 d1' d0 hltp hc b1 b0 p7 p2 a1; omega)) n, (down_cnt p n).2, sm6 lc _ hlc hlcp, hP6, (smb.trans (Sm.of s5)).trans sm6⟩ ?_ ?_⟩
          · rintro i σ Hx hi ⟨o5, o6, cs, rfl, hcl, hnn, hlx, hPx, smx⟩
            refine ⟨_, rfl, _, rfl, pl, p, rfl, hPx, by (clear hcl hi t1 t0 hlcp n1 n0 xl xb x0 d1' d0 hltp hc b1 b0 p7 p2 a1; omega), bits_small (by (clear hcl hi t1 t0 hlcp n1 n0 xl xb x0 d1' d0 hltp hc b1 b0 p7 p2 hp a1 a0; omega)) (by (clear hcl hi t1 t0 hlcp n1 n0 xl xb x0 d1' d0 hltp hc b1 b0 p7 p2 a0; omega)), fun av H7 y0 y1 hP7 sm7 => ?_⟩
            obtain ⟨av, rfl⟩ : ∃ m : Nat, av = (m : Int) := ⟨av.toNat, by (clear y1 hcl hi t1 t0 hlcp n1 n0 xl xb x0 d1' d0 hltp hc b1 b0 p7 p2 hp a1 a0; omega)⟩
            have hl7 := sm7 lc _ hlx hlcp
            have hat : atI (cs.map V.int) ((av : Nat) : Int) = some (.int (cs.getD av 0)) := by
              rw [atI_int (by (clear y1 y0 hcl hi t1 t0 hlcp n1 n0 xl xb x0 d1' d0 hltp hc b1 b0 p7 p2 hp a1 a0; omega)) (by (clear y0 hi t1 t0 hlcp n1 n0 xl xb x0 d1' d0 hltp hc b1 b0 p7 p2 hp a1 a0; omega))]
              rfl
            refine ⟨_, rfl, _, rfl, lc, _, _, _, rfl, rfl, SqL.of hl7, hat, ?_⟩
            refine ⟨0, 1, rfl, rfl, _, rfl, _, rfl, lc, _, _, _, rfl, rfl, SqL.of hl7, hat, 0, _, rfl, rfl, _, rfl, _, rfl, lc, _, _, _, rfl, rfl, SqL.of hl7, hat, _, 2, rfl, rfl, ⟨by decide, by decide⟩, 0, _, rfl, rfl, (by show 4 ≤ sizeLine; decide), fun l8 hl8 => ?_⟩
            have h8p : l8 ≠ pl := hP7.ne hl8
            have h8c : lc ≠ l8 := ne_of_none hl7 hl8
            refine ⟨_, rfl, pl, 4, rfl, hP7.put hl8, by decide, by decide, fun d9 H9 e0 e1 hP9 sm9 => ?_⟩
            have hl9 := sm9 lc _ ((Same.new hl8) lc _ hl7) hlcp
            obtain ⟨x9, hx9⟩ : ∃ x : Int, atI [V.int 1, .int (0 - 1), .int (0 - cs.getD av 0), .int (0 - cs.getD av 0 / 2)] d9 = some (.int x) := by
              rcases (show d9 = 0 ∨ d9 = 1 ∨ d9 = 2 ∨ d9 = 3 by (clear h8c h8p y1 y0 hcl hi t1 t0 hlcp n1 n0 xl xb x0 d1' d0 hltp hc b1 b0 p7 p2 hp a1 a0; omega)) with rfl | rfl | rfl | rfl
              · exact ⟨_, rfl⟩
              · exact ⟨_, rfl⟩
              · exact ⟨_, rfl⟩
              · exact ⟨_, rfl⟩
            refine ⟨l8, _, d9, .int x9, rfl, rfl, SqL.of (sm9 l8 _ upd_same h8p), hx9, _, _, rfl, rfl, _, _, rfl, ?_⟩
            refine ⟨_, rfl, _, rfl, lc, _, _, av, rfl, rfl, hl9, ?_, ?_⟩
            · rw [List.length_map, ixN_of (by (clear e1 e0 h8c h8p y1 y0 hcl hi t1 t0 hlcp n1 n0 xl xb x0 d1' d0 hltp hc b1 b0 p7 p2 hp a1 a0; omega)) (by (clear e1 e0 h8c h8p y0 hi t1 t0 hlcp n1 n0 xl xb x0 d1' d0 hltp hc b1 b0 p7 p2 hp a1 a0; omega))]
              rfl
            dsimp only
            refine ⟨_, _, cs.set av (if cs.getD av 0 + x9 > 0 then cs.getD av 0 + x9 else 0), rfl, by simp [hcl], ?_, ?_, ?_, ?_⟩
            · intro z hz
              rcases List.mem_or_eq_of_mem_set hz with hz | rfl
              · exact hnn z hz
              · split <;> (clear e1 e0 h8c h8p y1 y0 hcl hi t1 t0 hlcp n1 n0 xl xb x0 d1' d0 hltp hc b1 b0 p7 p2 hp a1 a0; omega)
            · rw [upd_same, List.map_set]
            · obtain ⟨u, v, e⟩ := hP9
              exact ⟨u, v, by rw [upd_ne (Ne.symm hlcp)]; exact e⟩
            · exact (((smx.trans sm7).trans (Sm.new hl8)).trans sm9).putN hlcH
          · rintro σ Hx ⟨o5, o6, cs, rfl, hcl, hnn, hlx, hPx, smx⟩
            exact hR _ _ ⟨none, o5, o6, lc, cs, rfl, hcl, hnn, hlcH, hlx, hPx, smx⟩
    · rintro σ' H' ⟨o3, o5, o6, l, cs, rfl, hcl, hnn, hl0, hl, hP', sm'⟩
      refine ⟨_, rfl, l, rfl, ⟨_, SqL.of hl⟩, ?_⟩
      refine comp_list (xs := cs.map V.int) (fun acc i Hx => Same H' Hx ∧ Hx acc = some (.lst (((cs.take i).map capB).map V.int))) (fun acc h0 => ⟨Same.new h0, upd_same⟩) (fun acc i Hx h0 _ p => SqL.of (p.1 l _ hl)) ?_ ?_
      · rintro acc i x Hx h0 hx ⟨sx, hacc⟩
        obtain ⟨z, hz, rfl⟩ := map_get hx
        have hi := (List.getElem?_eq_some_iff.mp hz).1
        refine ⟨10, 60, rfl, rfl, ⟨by decide, by decide, by decide⟩, _, rfl, _, _, rfl, _, hacc, small1000 (by simp; (clear hi b1 b0 p7 p2 a0; omega)), by rw [List.length_map]; exact hi, sx.put h0, ?_⟩
        rw [upd_same, List.take_add_one, hz, ten60]
        simp [capB]
      rintro acc Hx h0 ⟨sx, hacc⟩
      rw [List.length_map, List.take_length] at hacc
      refine ⟨(by show 1 ≤ sizeLine; decide), fun p2' e2 => ?_⟩
      refine ⟨acc, p2', _, _, rfl, rfl, (Same.new e2) acc _ hacc, upd_same, ?_, fun l2 e3 => ?_⟩
      · exact Nat.le_of_lt (small1000 (by simp; (clear b1 b0 p7 p2 a0; omega)))
      have s3 := (sx.trans (Same.new (o := .lst [.int 0]) e2)).trans (Same.new (o := .lst ((cs.map capB).map V.int ++ [.int 0])) e3)
      have hl2' : H' l2 = none := (sx.trans (Same.new (o := .lst [.int 0]) e2)).free e3
      have hl2p : l2 ≠ pl := hP'.ne hl2'
      have hl2H : H l2 = none := sm'.free hl2p hl2'
      have ec : (cs.map capB).map V.int ++ [V.int 0] = (cs.map capB ++ [0]).map V.int := by simp
      have hl2 : (upd (upd Hx p2' (.lst [.int 0])) l2 (.lst ((cs.map capB).map V.int ++ [.int 0]))) l2 = some (.lst ((cs.map capB ++ [0]).map V.int)) := by rw [upd_same, ec]
      generalize (upd (upd Hx p2' (.lst [.int 0])) l2 (.lst ((cs.map capB).map V.int ++ [.int 0]))) = H4 at s3 hl2 ⊢
      have hP4 := hP'.same s3
      have sm4 := sm'.trans (Sm.of s3)
      obtain ⟨C, hC, hCl, hCb, hC0⟩ : ∃ C, cs.map capB ++ [0] = C ∧ C.length = p + 1 ∧ (∀ x ∈ C, 0 ≤ x ∧ x ≤ big) ∧ C[p]? = some 0 := by
        refine ⟨_, rfl, by simp [hcl], ?_, ?_⟩
        · intro x hx
          rcases List.mem_append.mp hx with hx | hx
          · obtain ⟨y, hy, rfl⟩ := List.mem_map.mp hx
            exact capB_ok (hnn y hy)
          · have : x = 0 := by simpa using hx
            subst this
            exact ⟨Int.le_refl _, by decide +kernel⟩
        · rw [List.getElem?_append_right (by simp [hcl])]
          simp [hcl]
      rw [hC] at hl2
      have hCne : C ≠ [] := by intro z; rw [z] at hCl; simp at hCl
      dsimp only
      refine cut1 (fun σ' H' => ∃ C : List Int, σ' = [some (.ref pl), some (.int p), some (.int kd), o3, some (.ref l2), o5, o6, none] ∧ Stand p C ∧ H' l2 = some (.lst (C.map V.int)) ∧ Pool H' pl ∧ Sm pl H H') (fun R hR => ?_) ?_
      · refine ⟨_, rfl, true, l2, C, rfl, SqL.of hl2, hCne, fun m hm hg => ⟨rfl, _, rfl, ?_⟩⟩
        refine ite2 (fun hc => ?_) (fun hc => ?_)
        · refine ⟨_, rfl, l2, _, 0, 0, rfl, rfl, hl2, ?_, ?_⟩
          · rw [List.length_map, hCl]
            exact ixN_of (by decide) (by (clear hCl hl2p hcl b1 b0 p7 p2 hp a1 a0; omega))
          refine hR _ _ ⟨C.set 0 1, rfl, ⟨p2, p7, by simp [hCl], ?_, ?_, ?_, 1, ?_, Int.le_refl _⟩, by rw [upd_same, List.map_set], ?_, sm4.putN hl2H⟩
          · intro x hx
            rcases List.mem_or_eq_of_mem_set hx with hx | rfl
            · exact (hCb x hx).1
            · decide
          · intro x hx
            rcases List.mem_or_eq_of_mem_set hx with hx | rfl
            · exact (hCb x hx).2
            · decide +kernel
          · rw [List.mem_iff_getElem?]
            exact ⟨p, by rw [List.getElem?_set_ne (by (clear hCl hl2p hcl b1 b0 p7 p2 a1; omega))]; exact hC0⟩
          · rw [List.mem_iff_getElem?]
            exact ⟨0, by rw [List.getElem?_set_self (by (clear hl2p hcl b1 b0 p7 p2 hp a1 a0; omega))]⟩
          · obtain ⟨u, v, e⟩ := hP4
            exact ⟨u, v, by rw [upd_ne (Ne.symm hl2p)]; exact e⟩
        · have hm0 : m ≠ 0 := fun z => hc (by subst z; exact decide_eq_true rfl)
          have := (hCb m hm).1
          exact hR _ _ ⟨C, rfl, ⟨p2, p7, hCl, fun x hx => (hCb x hx).1, fun x hx => (hCb x hx).2, List.mem_of_getElem? hC0, m, hm, by (clear hc hCl hl2p hcl b1 b0 p7 p2 hp a1 a0; omega)⟩, hl2, hP4, sm4⟩
      · rintro σ' H5 ⟨C, rfl, S, hl5, hP5, sm5⟩
        have hCl := S.len
        refine ⟨_, rfl, _, _, rfl, rfl, _, rfl, fun q hq => ?_⟩
        refine ⟨q, (p : Int) + 1, rfl, upd_same, by (clear hCl hl2p hcl b1 b0 p7 p2 hp a1 a0; omega), by (clear hCl hl2p hcl b1 b0 p7 p2 a0; omega), fun lo hlo => ?_⟩
        rw [show ((p : Int) + 1).toNat = C.length by (clear hl2p hcl b1 b0 p7 p2 hp a1 a0; omega)]
        have s6 := (Same.new (o := .rng 0 ((p : Int) + 1)) hq).trans (Same.new (o := .lst (((List.range C.length).map fun (i : Nat) => (i : Int)).map V.int)) hlo)
        have hlo5 : H5 lo = none := (Same.new (o := .rng 0 ((p : Int) + 1)) hq).free hlo
        have hlop : lo ≠ pl := hP5.ne hlo5
        have hloH : H lo = none := sm5.free hlop hlo5
        have hlol : lo ≠ l2 := Ne.symm (ne_of_none hl5 hlo5)
        have hlo6 : (upd (upd H5 q (.rng 0 ((p : Int) + 1))) lo (.lst (((List.range C.length).map fun (i : Nat) => (i : Int)).map V.int))) lo = some (.lst (((List.range C.length).map fun (i : Nat) => (i : Int)).map V.int)) := upd_same
        generalize (upd (upd H5 q (.rng 0 ((p : Int) + 1))) lo (.lst (((List.range C.length).map fun (i : Nat) => (i : Int)).map V.int))) = H6 at s6 hlo6 ⊢
        have hl6 := s6 l2 _ hl5
        have hP6 := hP5.same s6
        have sm6 := sm5.trans (Sm.of s6)
        refine ⟨_, rfl, _, _, rfl, rfl, _, rfl, by (clear hlol hlop hCl hl2p hcl b1 b0 p7 p2 hp a1 a0; omega), by (clear hlol hlop hCl hl2p hcl b1 b0 p7 p2 a0; omega), ?_⟩
        dsimp only
        rw [show ((p : Int) + 1).toNat = p + 1 by (clear hlol hlop hCl hl2p hcl b1 b0 p7 p2 hp a1 a0; omega)]
        refine comp_range (fun acc i Hx => ∃ (res : List Int) (os : List Nat), res.length = i ∧ os.length = p + 1 - i ∧ (∀ j ∈ os, j < p + 1) ∧ (res ++ os.map (fun j => C.getD j 0)).Perm C ∧ Hx acc = some (.lst (res.map V.int)) ∧ Hx lo = some (.lst ((os.map fun (j : Nat) => (j : Int)).map V.int)) ∧ Hx l2 = some (.lst (C.map V.int)) ∧ Pool Hx pl ∧ Sm pl H Hx)
          (fun acc h0 => ⟨[], List.range C.length, rfl, by simp [hCl], fun j hj => by have := List.mem_range.mp hj; (clear hlol hlop hl2p hcl b1 b0 p7 p2 hp a1 a0; omega), by rw [range_getD]; exact List.Perm.refl _, upd_same, (Same.new h0) lo _ hlo6, (Same.new h0) l2 _ hl6, hP6.put h0, sm6.putN (sm6.free (hP6.ne h0) h0)⟩) ?_ ?_
        · rintro acc i Hx h0 hi ⟨res, os, hrl, hol, hob, hpm, hacc, hlox, hlx, hPx, smx⟩
          have hap : acc ≠ pl := hP6.ne h0
          have ha0 : H acc = none := sm6.free hap h0
          have halo : acc ≠ lo := Ne.symm (ne_of_none hlo6 h0)
          have hal2 : acc ≠ l2 := Ne.symm (ne_of_none hl6 h0)
          refine ⟨_, rfl, _, rfl, .inl ⟨rfl, _, SqL.of hlox⟩, _, rfl, _, rfl, lo, _, rfl, .inl (SqL.of hlox), pl, _, rfl, hPx, ?_, ?_, fun d H7 d0 d1' hP7 sm7 => ?_⟩
          · simp; (clear hal2 halo hap hrl hlol hlop hCl hl2p hcl b1 b0 p7 p2 hp a1 a0; omega)
          · exact bits_small (by (clear hal2 halo hap hol hrl hi hlol hlop hCl hl2p hcl b1 b0 p7 p2 hp a1 a0; omega)) (by simp; (clear hal2 halo hap hrl hi hlol hlop hCl hl2p hcl b1 b0 p7 p2 a0; omega))
          rw [List.length_map, List.length_map] at d1'
          obtain ⟨d, rfl⟩ : ∃ m : Nat, d = (m : Int) := ⟨d.toNat, by (clear d1' hal2 halo hap hol hrl hi hlol hlop hCl hl2p hcl b1 b0 p7 p2 hp a1 a0; omega)⟩
          have hd : d < os.length := by (clear d0 hal2 halo hap hol hrl hi hlol hlop hCl hl2p hcl b1 b0 p7 p2 hp a1 a0; omega)
          have hod := hob os[d] (List.getElem_mem hd)
          have hl7 := sm7 l2 _ hlx hl2p
          have hlo7 := sm7 lo _ hlox hlop
          have hacc7 := sm7 acc _ hacc hap
          refine ⟨lo, _, (d : Int), d, .int os[d], rfl, rfl, hlo7, by (clear hod hd d1' d0 hal2 halo hap hol hrl hi hlol hlop hCl hl2p hcl b1 b0 p7 p2 hp a1 a0; omega), by (clear hod hd d0 hal2 halo hap hrl hi hlol hlop hCl hl2p hcl b1 b0 p7 p2 a0; omega), ?_, ?_, ?_⟩
          · rw [seqIndex_of (by (clear hod hd d1' d0 hal2 halo hap hol hrl hi hlol hlop hCl hl2p hcl b1 b0 p7 p2 hp a1 a0; omega)) (by rw [List.length_map, List.length_map]; (clear hod hd d0 hal2 halo hap hol hrl hi hlol hlop hCl hl2p hcl b1 b0 p7 p2 hp a1 a0; omega)), Int.toNat_natCast]
          · rw [List.getElem?_map, List.getElem?_map, List.getElem?_eq_getElem hd]
            rfl
          refine ⟨l2, _, _, .int (C.getD os[d] 0), rfl, rfl, SqL.of (by rw [upd_ne (Ne.symm hlol)]; exact hl7), ?_, ?_⟩
          · rw [atI_int (by (clear hod d1' d0 hal2 halo hap hol hrl hi hlol hlop hCl hl2p hcl b1 b0 p7 p2 hp a1 a0; omega)) (by (clear d1' d0 hal2 halo hap hol hrl hi hlol hlop hl2p hcl b1 b0 p7 p2 hp a1 a0; omega))]
            rfl
          refine ⟨_, by rw [upd_ne halo]; exact hacc7, small1000 (by simp; (clear hod hd d1' d0 hal2 halo hap hol hlol hlop hCl hl2p hcl b1 b0 p7 p2 a0; omega)), hi, res ++ [C.getD os[d] 0], os.eraseIdx d, by simp [hrl], ?_, ?_, perm_pop hd hpm, ?_, ?_, ?_, ?_, ?_⟩
          · rw [List.length_eraseIdx, if_pos hd]
            (clear hod hd d1' d0 hal2 halo hap hrl hi hlol hlop hCl hl2p hcl b1 b0 p7 p2 hp a1 a0; omega)
          · intro j hj
            exact hob j (List.mem_of_mem_eraseIdx hj)
          · rw [upd_same]
            simp
          · rw [upd_ne (Ne.symm halo), upd_same, map_eraseIdx', map_eraseIdx']
          · rw [upd_ne (Ne.symm hal2), upd_ne (Ne.symm hlol)]
            exact hl7
          · obtain ⟨u, v, e⟩ := hP7
            exact ⟨u, v, by rw [upd_ne (Ne.symm hap), upd_ne (Ne.symm hlop)]; exact e⟩
          · exact ((smx.trans sm7).putN hloH).putN ha0
        · rintro acc Hx h0 ⟨res, os, hrl, hol, hob, hpm, hacc, hlox, hlx, hPx, smx⟩
          have hos : os = [] := List.length_eq_zero_iff.mp (by (clear hrl hlol hlop hCl hl2p hcl b1 b0 p7 p2 hp a1 a0; omega))
          subst hos
          rw [List.map_nil, List.append_nil] at hpm
          have hap : acc ≠ pl := hP6.ne h0
          refine ⟨acc, _, rfl, .inl ⟨SqL.of hacc, fun l hl => ?_⟩⟩
          refine k p res l _ ⟨p2, p7, by rw [hpm.length_eq, hCl], fun x hx => S.nn x (hpm.subset hx), fun x hx => S.le x (hpm.subset hx), hpm.symm.subset S.zero, ?_⟩ (smx.free (hPx.ne hl) hl) upd_same (hPx.put hl) (smx.trans (Sm.new hl))
          obtain ⟨x, hx, x1⟩ := S.pos
          exact ⟨x, hpm.symm.subset hx, x1⟩
end
end Fi18

set_option Elab.async false
set_option linter.all false
set_option maxRecDepth 100000
set_option maxHeartbeats 4000000
namespace Fi18
open PySem L2 Lv
section
variable {P : Program} {w : World} {K : PySem.W.Frag} {mg : Str → Option Value} {base : Heap}
theorem scInit : FnScope ["self", "at"] ["self", "at"] (defScope sInit) := ⟨rfl, rfl, rfl, by decide +kernel, rfl, by decide +kernel, by decide +kernel⟩
theorem ok_init {f C : Addr} {fd : FuncData} {qn : Str} (F : Fun K "__init__" qn sInit f fd) (hz : excAllI K C f = true) : FnOk P w K mg base CX0 1 f fd ["self", "at"] (spInit C) := by
  refine F.ok scInit (fun vs H Q E h => ?_) (fun cdv A outer s H vs Q E hr h => ?_)
  · obtain ⟨ea, v, rfl, _⟩ := h
    rfl
  · obtain ⟨ea, v, rfl, he, k⟩ := h
    refine ⟨_, pss_one (ps_setE (C := C) (fI := f) (pv 0) (pv 1) rfl), ?_⟩
    exact ⟨_, rfl, _, rfl, ea, rfl, he, hz, k⟩

theorem scIsPh : FnScope ["counts", "phase", "out", "many"] ["counts", "phase"] (defScope sIsPh) := ⟨rfl, rfl, rfl, by decide +kernel, rfl, by decide +kernel, by decide +kernel⟩
theorem ok_isphB {f fA fB fC : Addr} {fd dA dB dC : FuncData} (F : Fun K "is_phase" "is_phase" sIsPh f fd) (T : Txt mg) (CW : Cal P w K mg base 1 "is_whole" ["thing"] spWhole fA dA) (CP : Cal P w K mg base 2 "is_place" ["thing", "many"] spPlaceB fB dB) (CT : Cal P w K mg base 1 "is_tuple_of" ["thing", "many"] spTupOf fC dC) : FnOk P w K mg base CX0 3 f fd ["counts", "phase"] spIsPhB := by
  refine F.ok scIsPh (fun vs H Q E h => ?_) (fun cdv A outer s H vs Q E hr h => ?_)
  · obtain ⟨a, q, c, out, m, rfl, _⟩ := h
    rfl
  · obtain ⟨a, q, c, out, m, rfl, hA, hq, hne, hnn, k⟩ := h
    have hr1 : Room 1 _ := hr.mono (by decide)
    refine ⟨_, pss_cons (ps_if (pt_not (pt_val (pe_cal CT hr1 rfl (pa_cons (pv 1) (pa_cons pe_int pa_nil))))) (pss_one (ps_ret pe_bl)) pss_nil)
      (pss_cons (ps_asg (pv 1) (pg_tup rfl (pgs_cons (pg_name (i := 2) scIsPh.nd rfl (Or.inl rfl)) (pgs_cons (pg_name (i := 3) scIsPh.nd rfl (Or.inl rfl)) pgs_nil))))
      (pss_cons (ps_if (PW.pt (pw_or (pt_not (pt_val (pe_cal CP hr rfl (pa_cons (pv 2) (pa_cons (pe_callB call_len_seq rfl T.len PySem.boot_len (pa_cons (pv 0) pa_nil)) pa_nil)))))
        (pw_or1 (pt_cmpR op_gt (pe_ix ix_tup (pv 0) (pv 2) (fun _ _ => rfl)) pe_int (nomark _))))) (pss_one (ps_ret pe_bl)) pss_nil)
      (pss_one (ps_ret (pe_and (pe_cal CW hr1 rfl (pa_cons (pv 3) pa_nil)) (pe_one (pe_chain op_le op_le pe_int (pv 3) (pe_callB (call_maxB rfl) rfl T.max b_max (pa_cons (pv 0) pa_nil))))))))), ?_⟩
    refine ⟨_, rfl, q, _, 2, rfl, hq, rfl, true, rfl, iteF ?_⟩
    refine ⟨_, rfl, q, _, rfl, SqT.of hq, rfl, _, _, rfl, _, _, rfl, rfl, ?_⟩
    refine ⟨_, rfl, _, rfl, a, _, rfl, .inr (SqT.of hA), out, _, rfl, _, rfl, ?_⟩
    rw [List.length_map]
    by_cases ho : 0 ≤ out ∧ out < (c.length : Int)
    · rw [decide_eq_true ho]
      have hat : atI (c.map V.int) out = some (.int (c.getD out.toNat 0)) := by
        obtain ⟨n, rfl⟩ : ∃ n : Nat, out = n := ⟨out.toNat, by omega⟩
        have hn : n < c.length := by omega
        refine atI_nat ?_
        rw [List.getElem?_map, List.getElem?_eq_getElem hn, Int.toNat_natCast, List.getD_eq_getElem?_getD, List.getElem?_eq_getElem hn]
        rfl
      refine iteF ⟨_, rfl, _, rfl, a, _, _, .int (c.getD out.toNat 0), rfl, rfl, SqT.of hA, hat, _, 0, rfl, rfl, _, rfl, ?_⟩
      by_cases h0 : 0 < c.getD out.toNat 0
      · rw [decide_eq_true h0]
        refine iteT ?_
        rw [decide_eq_false (fun z => by have := z.2.1; (clear ho; omega))] at k
        exact k
      · rw [decide_eq_false h0]
        refine iteF ⟨_, rfl, m, rfl, true, rfl, iteT ⟨_, rfl, 1, m, rfl, rfl, _, rfl, ?_⟩⟩
        by_cases h1 : (1 : Int) ≤ m
        · rw [decide_eq_true h1]
          refine iteT ⟨_, rfl, false, a, c, rfl, SqT.of hA, hne, fun mm hm hg => ⟨_, _, rfl, rfl, ?_⟩⟩
          have em := mxl_eq hnn hm hg
          show Q (.bl (decide (m ≤ mm))) H
          rw [em]
          rw [show decide (PhOk c out m) = decide (m ≤ mxl c) from by
            by_cases h2 : m ≤ mxl c
            · rw [decide_eq_true h2]; exact decide_eq_true ⟨ho, by (clear h2 em h1 ho; omega), h1, h2⟩
            · rw [decide_eq_false h2]; exact decide_eq_false fun z => h2 z.2.2.2] at k
          exact k
        · rw [decide_eq_false h1]
          refine iteF ?_
          rw [decide_eq_false (fun z => h1 z.2.2.1)] at k
          exact k
    · rw [decide_eq_false ho]
      refine iteT (iteT ?_)
      rw [decide_eq_false (fun z => ho z.1)] at k
      exact k

theorem scIsBar : FnScope ["level", "standing", "bar"] ["level", "standing", "bar"] (defScope sIsBar) := ⟨rfl, rfl, rfl, by decide +kernel, rfl, by decide +kernel, by decide +kernel⟩
theorem ok_isbarN {f fA fB : Addr} {fd dA dB : FuncData} (F : Fun K "is_bar" "is_bar" sIsBar f fd) (T : Txt mg) (CP : Cal P w K mg base 2 "is_place" ["thing", "many"] spPlaceN fA dA) (CR : Cal P w K mg base 1 "ranked" ["standing"] spRk fB dB) : FnOk P w K mg base CX0 3 f fd ["level", "standing", "bar"] spIsBarN := by
  refine F.ok scIsBar (fun vs H Q E h => ?_) (fun cdv A outer s H vs Q E hr h => ?_)
  · obtain ⟨b, a, L, st, bo, rfl, _⟩ := h
    rfl
  · obtain ⟨b, a, L, st, bo, rfl, hB, hA, hle, h8, k⟩ := h
    have hr1 : Room 1 _ := hr.mono (by decide)
    refine ⟨_, pss_one (ps_ret (pe_and (pe_cal CP hr rfl (pa_cons (pv 2) (pa_cons (pe_callB call_len_seq rfl T.len PySem.boot_len (pa_cons (pv 0) pa_nil)) pa_nil))) (pe_one (pe_cmpR op_gt (pe_ix ix_list (pe_cal CR hr1 rfl (pa_cons (pv 1) pa_nil)) (pv 2) (fun _ _ => rfl)) (pe_ix ix_tup (pv 0) (pv 2) (fun _ _ => rfl)) (nomark _))))), ?_⟩
    refine ⟨_, rfl, _, rfl, b, _, rfl, .inr (SqT.of hB), bo, _, rfl, ?_⟩
    cases bo with
    | none => exact ⟨false, rfl, iteF (k H (Same.refl _))⟩
    | some i =>
      dsimp only at k ⊢
      rw [List.length_map]
      by_cases hi : 0 ≤ i ∧ i < (L.length : Int)
      · obtain ⟨j, rfl⟩ : ∃ j : Nat, i = j := ⟨i.toNat, by (clear h8 hle; omega)⟩
        rw [decide_eq_true hi]
        rw [decide_eq_true hi, Bool.true_and, Int.toNat_natCast] at k
        have hj : j < L.length := by (clear h8 hle; omega)
        refine ⟨true, rfl, iteT ⟨_, rfl, a, st, rfl, hA, h8, fun l H1 hl0 hl s1 => ?_⟩⟩
        refine ⟨_, rfl, l, _, _, .int ((rk st).getD j 0), rfl, rfl, SqL.of hl, ?_, _, rfl, _, rfl, b, _, _, .int (L.getD j 0), rfl, rfl, SqT.of (s1 b _ hB), ?_, _, _, rfl, rfl, k H1 s1⟩
        · rw [atI_int (by (clear hj hi h8 hle; omega)) (by rw [rk_len]; (clear hj h8; omega))]
          rfl
        · rw [atI_int (by (clear hj hi h8 hle; omega)) (by (clear hj h8 hle; omega))]
          rfl
      · rw [decide_eq_false hi]
        rw [decide_eq_false hi, Bool.false_and] at k
        exact ⟨false, rfl, iteF (k H (Same.refl _))⟩

theorem kitLT_tuple {K : PySem.W.Frag} : PySem.W.kitAny K (.type "tuple") (["list", "tuple"].map Value.type) = some true := by with_unfolding_all rfl
theorem scListed : FnScope ["thing"] ["thing"] (defScope sListed) := ⟨rfl, rfl, rfl, by decide +kernel, rfl, by decide +kernel, by decide +kernel⟩
theorem ok_listedB {f : Addr} {fd : FuncData} (F : Fun K "is_listed" "is_listed" sListed f fd) (T : Txt mg) : FnOk P w K mg base CX0 1 f fd ["thing"] spListedB := by
  refine F.ok scListed (fun vs H Q E h => ?_) (fun cdv A outer s H vs Q E hr h => ?_)
  · obtain ⟨a, xs, bb, rfl, _⟩ := h
    rfl
  · obtain ⟨a, xs, bb, rfl, hA, k⟩ := h
    refine ⟨_, pss_one (ps_ret (pe_callB call_isinstT rfl T.isinstance b_isinstance (pa_cons (pv 0) (pa_cons (pe_tup (pa_cons (pe_ty rfl T.list b_list) (pa_cons (pe_ty rfl T.tuple b_tuple) pa_nil))) pa_nil)))), ?_⟩
    refine ⟨_, rfl, (by show 2 ≤ sizeLine; decide), fun tp htp => ?_⟩
    cases bb with
    | true => exact ⟨.ref a, tp, ["list", "tuple"], _, true, rfl, upd_same, .lst ((Same.new htp) a _ hA), kitLT_list, k _ (Same.new htp)⟩
    | false => exact ⟨.ref a, tp, ["list", "tuple"], _, true, rfl, upd_same, .tup ((Same.new htp) a _ hA), kitLT_tuple, k _ (Same.new htp)⟩

theorem scPlDone : FnScope ["standing", "plan", "counts", "at", "phase"] ["standing", "plan"] (defScope sPlDone) := ⟨rfl, rfl, rfl, by decide +kernel, rfl, by decide +kernel, by decide +kernel⟩
theorem ok_pldoneI {f fA fB fC fI : Addr} {fd dA dB dC dI : FuncData} (F : Fun K "plan_done" "plan_done" sPlDone f fd) (T : Txt mg) (Te : mg "enumerate" = none) {C : Addr} (hm : mg "NoPhase" = some (.ref C)) (hz : excAllI K C fI = true) (FI : FnOk P w K mg base CX0 1 fI dI ["self", "at"] (spInit C)) (hb : Binds K dI ["self", "at"] [])
    (CS : Cal P w K mg base 3 "check_standing" ["standing"] (spChkSt K) fA dA) (CP : Cal P w K mg base 3 "is_phase" ["counts", "phase"] spIsPhB fB dB) (CB : Cal P w K mg base 1 "counts_behind" ["counts", "phase"] spBeh fC dC) : FnOk P w K mg base (CX1 P w) 4 f fd ["standing", "plan"] (spPlDoneI K C) := by
  refine F.okE scPlDone (fun vs H Q E h => ?_) (fun cdv A outer s H vs Q E hr h => ?_)
  · obtain ⟨a, b, bb, p, c, rs, ps, rfl, _⟩ := h
    rfl
  · obtain ⟨a, b, bb, p, c, rs, ps, rfl, hA, S, hB, hT, k1, k2⟩ := h
    have hr1 : Room 1 _ := hr.mono (by decide)
    refine ⟨_, (pss_cons (ps_expr (pe_cal CS hr rfl (pa_cons (pv 0) pa_nil)))
      (pss_cons (ps_set (i := 2) scPlDone.nd rfl (Or.inl rfl) (pv 0))
      (pss_cons (ps_for PassesOwn.leaving rfl (pi_enumB rfl Te (pa_cons (pv 1) pa_nil)) (pg_tup rfl (pgs_cons (pg_name (i := 3) scPlDone.nd rfl (Or.inl rfl)) (pgs_cons (pg_name (i := 4) scPlDone.nd rfl (Or.inl rfl)) pgs_nil)))
      (pss_cons (ps_if (pt_not (pt_val (pe_cal CP hr rfl (pa_cons (pv 2) (pa_cons (pv 4) pa_nil)))))
        (pss_one (ps_raiseI takes1 rfl hm hz FI hb (hr.mono (by decide)) (pa_cons (pv 3) pa_nil)))
        pss_nil)
        (pss_one (ps_set (i := 2) scPlDone.nd rfl (Or.inl rfl) (pe_cal CB hr1 rfl (pa_cons (pv 2) (pa_cons (pv 4) pa_nil)))))))
      (pss_cons (ps_if (pt_cmpR op_gt (pe_callB (call_sumT rfl) rfl T.sum b_sum (pa_cons (pv 2) pa_nil)) pe_int (nomark _))
      (pss_one (ps_raiseI takes1 rfl hm hz FI hb (hr.mono (by decide)) (pa_cons (pe_callB call_len_seq rfl T.len PySem.boot_len (pa_cons (pv 1) pa_nil)) pa_nil)))
      pss_nil)
      (pss_one (ps_ret (pv 2))))))), ?_⟩
    have hlen := S.len
    have p7 := S.p7
    have hrl : rs.length = ps.length := by simpa using hT.1
    have sq : ∀ {H2 : Hp}, Same H H2 → SqB bb K H2 b (rs.map V.ref) := fun {H2} s2 => by
      cases bb
      · exact s2.tup hB
      · exact s2.seq hB
    refine ⟨_, rfl, a, p, c, rfl, hA, S, fun H1 s1 => ?_⟩
    refine ⟨_, rfl, _, rfl, b, bb, rfl, ⟨_, sq s1⟩, ?_⟩
    refine for_enumB (b := bb) (xs := rs.map V.ref) (fun i σ H2 => ∃ (ca : Addr) (d : List Int) (o3 o4 : Option V), σ = [some (.ref a), some (.ref b), some (.ref ca), o3, o4] ∧ H2 ca = some (.tup (d.map V.int)) ∧ Way c ps i d ∧ Same H H2)
      ⟨a, c, none, none, rfl, s1 a _ hA, Way.start S.nn, s1⟩ (fun i σ H2 _ ⟨_, _, _, _, _, _, _, s2⟩ => sq s2) ?_ ?_
    · rintro i x q0 σ H2 hx ⟨ca, d, o3, o4, rfl, hc, W, s2⟩ hq0
      rw [List.getElem?_map] at hx
      obtain ⟨q, hq, rfl⟩ := Option.map_eq_some_iff.mp hx
      obtain ⟨o, m, hp, hqH⟩ := Lv.TTs.pr hT hq
      have s3 : Same H2 (upd H2 q0 (.tup [.int i, .ref q])) := Same.new hq0
      have hq3 := s3 q _ (s2 q _ hqH)
      have hc3 := s3 ca _ hc
      have hne : d ≠ [] := by intro z; have := W.len; rw [z] at this; simp at this; (clear hrl p7; omega)
      refine ⟨q0, _, rfl, SqT.of upd_same, rfl, _, _, rfl, _, _, rfl, rfl, ?_⟩
      refine ⟨_, rfl, _, rfl, ca, q, d, o, m, rfl, hc3, hq3, hne, W.nn, _, rfl, ?_⟩
      by_cases h : PhOk d o m
      · rw [decide_eq_true h]
        obtain ⟨n, rfl, hn, h0⟩ := h.nat W.nn
        have hdl := W.len
        refine iteF ⟨_, rfl, _, rfl, ca, q, d, n, m, rfl, hc3, hq3, by (clear hn hrl; omega), hn, h0, h.2.2.1, h.2.2.2, W.nn, fun l H4 hl0 hl s4 => ?_⟩
        have W2 := W.yes hp h
        rw [Int.toNat_natCast] at W2
        exact ⟨l, _, _, _, rfl, hl, W2, (s2.trans s3).trans s4⟩
      · rw [decide_eq_false h]
        exact iteT ⟨_, rfl, _, rfl, fun dx hd => k2 i (W.no hp h) _ dx (s2.trans s3) hd⟩
    · rintro σ H2 ⟨ca, d, o3, o4, rfl, hc, W, s2⟩
      rw [List.length_map, hrl] at W
      have e := W.done
      refine ⟨_, rfl, ca, d, rfl, SqT.of hc, d.sum, 1, rfl, rfl, _, rfl, ?_⟩
      by_cases h1 : 1 < d.sum
      · rw [decide_eq_true h1]
        rw [if_pos h1] at e
        refine iteT ⟨_, rfl, b, rs.map V.ref, rfl, ?_, _, rfl, fun dx hd => ?_⟩
        · have := sq s2
          cases bb
          · exact .inr this
          · exact .inl this
        rw [List.length_map, hrl]
        exact k2 _ e H2 dx s2 hd
      · rw [decide_eq_false h1]
        rw [if_neg h1] at e
        exact iteF ⟨_, rfl, k1 d e ca H2 hc s2⟩

theorem scIsPl : FnScope ["standing", "plan"] ["standing", "plan"] (defScope sIsPl) := ⟨rfl, rfl, rfl, by decide +kernel, rfl, by decide +kernel, by decide +kernel⟩
theorem ok_isplG {f fA C : Addr} {fd dA : FuncData} (F : Fun K "is_plan" "is_plan" sIsPl f fd) (T : Txt mg) (hm : mg "NoPhase" = some (.ref C)) (hs : PySem.W.exmOne K (.ref C) (.ref C) = some true) (CD : CalE P w K mg base 4 "plan_done" ["standing", "plan"] [] (spPlDoneI K C) fA dA) : FnOk P w K mg base CX0 5 f fd ["standing", "plan"] (spIsPlG K) := by
  refine F.ok scIsPl (fun vs H Q E h => ?_) (fun cdv A outer s H vs Q E hr h => ?_)
  · obtain ⟨a, b, bb, p, c, rs, ps, rfl, _⟩ := h
    rfl
  · obtain ⟨a, b, bb, p, c, rs, ps, rfl, hA, S, hB, hT, k⟩ := h
    refine ⟨_, pss_cons (ps_try0 rfl hm (fun Ex pn' xe' hx => pss_one (ps_expr (pe_calE CD hr hx rfl (pa_cons (pv 0) (pa_cons (pv 1) pa_nil))))) (fun ea => pss_one (ps_ret pe_bl))) (pss_one (ps_ret pe_bl)), ?_⟩
    refine ⟨_, rfl, _, rfl, a, b, bb, p, c, rs, ps, rfl, hA, S, hB, hT, fun d e l H2 hl s2 => ?_, fun i e H0 dx s0 hdx => ⟨C, rfl, hs, fun ea hea => ?_⟩⟩
    · have := k H2 s2
      unfold finOk at this
      rw [e] at this
      exact this
    · have := k _ ((s0.trans (Same.new (o := .xd [("at", .int i)]) hdx)).trans (Same.new (o := isExc ea C (some dx)) hea))
      unfold finOk at this
      rw [e] at this
      exact this

end
end Fi18

set_option Elab.async false
set_option linter.all false
set_option maxRecDepth 100000
set_option maxHeartbeats 4000000
namespace Fi18
open PySem L2 Lv
section
variable {P : Program} {w : World} {K : PySem.W.Frag} {mg : Str → Option Value} {base : Heap}
theorem ok_placeN {f fW : Addr} {fd dW : FuncData} (F : Fun K "is_place" "is_place" sPlace f fd) (T : Txt mg) (CW : Cal P w K mg base 1 "is_whole" ["thing"] (spWholeV K) fW dW) : FnOk P w K mg base CX0 2 f fd ["thing", "many"] spPlaceN := by
  refine F.ok scPlace (fun vs H Q E h => ?_) (fun cdv A outer s H vs Q E hr h => ?_)
  · obtain ⟨i, n, rfl, _⟩ := h
    rfl
  · obtain ⟨bo, n, rfl, k⟩ := h
    refine ⟨_, pss_one (ps_ret (pe_and (pe_cal CW hr rfl (pa_cons (pv 0) pa_nil)) (pe_one (pe_chain op_le op_lt pe_int (pv 0) (pv 1))))), ?_⟩
    cases bo with
    | none => exact ⟨_, rfl, .non, "NoneType", rfl, .non, by decide, false, rfl, iteF k⟩
    | some i =>
      refine ⟨_, rfl, .int i, "int", rfl, .int i, by decide, true, rfl, iteT ⟨_, rfl, 0, i, rfl, rfl, _, rfl, ?_⟩⟩
      dsimp only at k
      by_cases h1 : (0 : Int) ≤ i
      · rw [decide_eq_true h1]
        refine iteT ⟨_, rfl, i, n, rfl, rfl, ?_⟩
        show Q (.bl (decide (i < n))) H
        rw [show decide (0 ≤ i ∧ i < n) = decide (i < n) from by simp [h1]] at k
        exact k
      · rw [decide_eq_false h1]
        refine iteF ?_
        rw [decide_eq_false (fun z => h1 z.1)] at k
        exact k

theorem B_place {vs : List V} {H : Hp} {Q : VK} {E : XK} (h : spPlaceB vs H Q E) : spPlaceN vs H Q E := by
  obtain ⟨i, n, rfl, k⟩ := h
  exact ⟨some i, n, rfl, k⟩
theorem N_bar {vs : List V} {H : Hp} {Q : VK} {E : XK} (h : spIsBar vs H Q E) : spIsBarN vs H Q E := by
  obtain ⟨b, a, L, st, j, rfl, hB, hA, hj, hle, h8, k⟩ := h
  refine ⟨b, a, L, st, some j, rfl, hB, hA, hle, h8, fun H' s => ?_⟩
  dsimp only
  rw [decide_eq_true (show (0 : Int) ≤ (j : Int) ∧ (j : Int) < (L.length : Int) from ⟨by omega, by omega⟩), Bool.true_and, Int.toNat_natCast]
  exact k H' s

end
end Fi18

set_option Elab.async false
set_option linter.all false
set_option maxRecDepth 100000
set_option maxHeartbeats 4000000
namespace Fi18
open PySem L2 Lv
section
variable {P : Program} {w : World} {K : PySem.W.Frag} {mg : Str → Option Value} {base : Heap}
theorem ok_wholeA {f : Addr} {fd : FuncData} (F : Fun K "is_whole" "is_whole" sWhole f fd) (T : Txt mg) : FnOk P w K mg base CX0 1 f fd ["thing"] (spWholeA K) := by
  refine F.ok scWhole (fun vs H Q E h => ?_) (fun cdv A outer s H vs Q E hr h => ?_)
  · obtain ⟨x, T, rfl, _⟩ := h
    rfl
  · obtain ⟨x, Tx, rfl, ⟨ty, hT⟩, k⟩ := h
    refine ⟨_, pss_one (ps_ret (pe_and (pe_callB call_isinst rfl T.isinstance b_isinstance (pa_cons (pv 0) (pa_cons (pe_ty rfl T.int b_int) pa_nil)))
      (pe_one (pe_not (pe_callB call_isinst rfl T.isinstance b_isinstance (pa_cons (pv 0) (pa_cons (pe_ty rfl T.bool b_bool) pa_nil))))))), ?_⟩
    refine ⟨_, rfl, x, "int", _, _, rfl, ty, kit_an_int hT, _, rfl, ?_⟩
    by_cases e1 : Tx = "int"
    · subst e1
      exact iteT ⟨_, rfl, x, "bool", _, _, rfl, ty, kit_an_bool hT, _, rfl, by simpa using k⟩
    · by_cases e2 : Tx = "bool"
      · subst e2
        exact iteT ⟨_, rfl, x, "bool", _, _, rfl, ty, kit_an_bool hT, _, rfl, by simpa using k⟩
      · have e : (decide (Tx = "int") || decide (Tx = "bool")) = false := by simp [e1, e2]
        rw [decide_eq_false e1] at k
        rw [e]
        exact iteF k

theorem scPhDone : FnScope ["standing", "phase"] ["standing", "phase"] (defScope sPhDone) := ⟨rfl, rfl, rfl, by decide +kernel, rfl, by decide +kernel, by decide +kernel⟩
theorem ok_phdoneI {f fA fB fC fI : Addr} {fd dA dB dC dI : FuncData} (F : Fun K "phase_done" "phase_done" sPhDone f fd) (T : Txt mg) (XX : Excs K mg) (hz : excAllI K XX.nPhase fI = true) (FI : FnOk P w K mg base CX0 1 fI dI ["self", "at"] (spInit XX.nPhase)) (hb : Binds K dI ["self", "at"] [])
    (CS : Cal P w K mg base 3 "check_standing" ["standing"] (spChkSt K) fA dA) (CP : Cal P w K mg base 3 "is_phase" ["counts", "phase"] spIsPhB fB dB) (CB : Cal P w K mg base 1 "counts_behind" ["counts", "phase"] spBeh fC dC) : FnOk P w K mg base (CX1 P w) 4 f fd ["standing", "phase"] (spPhDoneI XX.nPhase) := by
  refine F.okE scPhDone (fun vs H Q E h => ?_) (fun cdv A outer s H vs Q E hr h => ?_)
  · obtain ⟨a, q, p, c, out, m, rfl, _⟩ := h
    rfl
  · obtain ⟨a, q, p, c, out, m, rfl, hA, hq, S, k1, k2⟩ := h
    have hr1 : Room 1 _ := hr.mono (by decide)
    refine ⟨_, pss_cons (ps_expr (pe_cal CS hr rfl (pa_cons (pv 0) pa_nil)))
      (pss_cons (ps_if (pt_not (pt_val (pe_cal CP hr rfl (pa_cons (pv 0) (pa_cons (pv 1) pa_nil))))) (pss_one (ps_raiseI takes1 rfl XX.mPhase hz FI hb (hr.mono (by decide)) (pa_cons pe_int pa_nil))) pss_nil)
      (pss_one (ps_ret (pe_cal CB hr1 rfl (pa_cons (pv 0) (pa_cons (pv 1) pa_nil)))))), ?_⟩
    have hlen := S.len
    have p7 := S.p7
    have hne : c ≠ [] := by intro z; rw [z] at hlen; simp at hlen
    refine ⟨_, rfl, a, p, c, rfl, hA, S, fun H1 s1 => ?_⟩
    refine ⟨_, rfl, _, rfl, a, q, c, out, m, rfl, s1 a _ hA, s1 q _ hq, hne, S.nn, _, rfl, ?_⟩
    by_cases h : PhOk c out m
    · rw [decide_eq_true h]
      obtain ⟨n, rfl, hn, h0⟩ := h.nat S.nn
      refine iteF ⟨_, rfl, _, rfl, a, q, c, n, m, rfl, s1 a _ hA, s1 q _ hq, by omega, hn, h0, h.2.2.1, h.2.2.2, S.nn, fun l H2 hl0 hl s2 => ?_⟩
      exact k1 h l H2 (s1.free hl0) hl (s1.trans s2)
    · rw [decide_eq_false h]
      exact iteT ⟨_, rfl, fun dx hd => k2 h H1 dx s1 hd⟩


end
end Fi18

set_option Elab.async false
set_option linter.all false
set_option maxRecDepth 100000
set_option maxHeartbeats 4000000
namespace Fi18
open PySem L2 Lv
section
variable {P : Program} {w : World} {K : PySem.W.Frag} {mg : Str → Option Value} {base : Heap}
def gd18 (v : V) : Bool := match v with
  | .int i => decide (0 ≤ i) && decide (i ≤ 1000000000000000000000000000000000000000000000000000000000000)
  | _ => false
theorem kit_an_tup {K : PySem.W.Frag} {T : String} (h : T ∈ anT) : PySem.W.kitOne K (.type T) (.type "tuple") = some (decide (T = "tuple")) := by
  simp only [anT, List.mem_cons, List.not_mem_nil, or_false] at h
  rcases h with rfl | rfl | rfl | rfl | rfl | rfl | rfl
  all_goals with_unfolding_all rfl
/-- no standing -/
def NoSt (K : PySem.W.Frag) (H : Hp) (v : V) : Prop := (∃ T, Thing K H v T ∧ T ≠ "tuple") ∨ ∃ (a : Addr) (xs : List V), v = .ref a ∧ H a = some (.tup xs) ∧ (∀ x ∈ xs, ∃ T, Thing K H x T) ∧ xs.length ≤ 60 ∧
  ((xs.length ≤ 2 ∨ 9 ≤ xs.length) ∨ (3 ≤ xs.length ∧ xs.length ≤ 8 ∧ (xs.all gd18 = false ∨ ∃ st : List Int, xs = st.map V.int ∧ xs.all gd18 = true ∧ ((∀ x ∈ st, 1 ≤ x) ∨ ∀ x ∈ st, x = 0))))
theorem NoSt.same {K : PySem.W.Frag} {H H' : Hp} {v : V} (h : NoSt K H v) (s : Same H H') : NoSt K H' v := by
  rcases h with ⟨T, th, hT⟩ | ⟨a, xs, rfl, hA, hth, hc⟩
  · exact .inl ⟨T, th.same s, hT⟩
  · exact .inr ⟨a, xs, rfl, s _ _ hA, fun x hx => by obtain ⟨T, th⟩ := hth x hx; exact ⟨T, th.same s⟩, hc⟩
def spIsStA (K : PySem.W.Frag) : Sp := fun vs H Q _ => ∃ v, vs = [v] ∧ NoSt K H v ∧ ∀ H', Same H H' → Q (.bl false) H'
theorem all_gd (xs : List V) : (xs.map gd18).all id = xs.all gd18 := by rw [List.all_map]; rfl
theorem ok_isstA {f fW : Addr} {fd dW : FuncData} {t2 t7 tR : Tok} (F : Fun K "is_standing" "is_standing" sIsSt f fd) (T : Txt mg) (hL : mg "LEAST_WAYS" = some (.int 2 t2)) (hM : mg "MOST_WAYS" = some (.int 7 t7)) (hR : mg "MOST_ROWS" = some (.int 1000000000000000000000000000000000000000000000000000000000000 tR)) (CW : Cal P w K mg base 1 "is_whole" ["thing"] (spWholeA K) fW dW) : FnOk P w K mg base CX0 2 f fd ["thing"] (spIsStA K) := by
  refine F.ok scIsSt (fun vs H Q E h => ?_) (fun cdv A outer s H vs Q E hr h => ?_)
  · obtain ⟨v, rfl, _⟩ := h
    rfl
  · obtain ⟨v, rfl, hN, k⟩ := h
    refine ⟨_, pss_cons (ps_if (PW.pt (pw_or (pt_not (pt_val (pe_callB call_isinst rfl T.isinstance b_isinstance (pa_cons (pv 0) (pa_cons (pe_ty rfl T.tuple b_tuple) pa_nil)))))
        (pw_or1 (pt_not (pt_chain op_lt op_le (pe_gint rfl hL) (pe_callB call_len_seq rfl T.len PySem.boot_len (pa_cons (pv 0) pa_nil)) (pe_op op_add (pe_gint rfl hM) pe_int)))))) (pss_one (ps_ret pe_bl)) pss_nil)
      (pss_cons (ps_if (pt_not (pt_val (pe_callB (call_all rfl) rfl T.all b_all (pa_cons (pe_comp (own := ["count"]) (js := []) (CompOk.bare (by decide +kernel)) rfl (pi_seqB (pv 0)) gkeep_name
          (fun _ _ _ _ _ => pg_name (i := 0) (by show (["count"] : List Str).Nodup; decide +kernel) rfl (Or.inl rfl) (.inr rfl)) (fun _ _ _ _ _ => pts_nil) (fun _ _ _ _ _ => pe_and (pe_cal CW hr rfl (pa_cons (pv 0) pa_nil)) (pe_one (pe_chain op_le op_le pe_int (pv 0) (pe_gint rfl hR))))) pa_nil)))) (pss_one (ps_ret pe_bl)) pss_nil)
      (pss_one (ps_ret (pe_and (pe_cmpR op_eq (pe_callB (call_minB rfl) rfl T.min b_min (pa_cons (pv 0) pa_nil)) pe_int (nomark _)) (pe_one (pe_cmpR op_gt (pe_callB (call_maxB rfl) rfl T.max b_max (pa_cons (pv 0) pa_nil)) pe_int (nomark _))))))), ?_⟩
    rcases hN with ⟨Tv, th, hT⟩ | ⟨a, xs, rfl, hA, hth, h60, hc⟩
    · refine ⟨_, rfl, v, "tuple", _, _, rfl, th.ty, kit_an_tup th.mem, _, rfl, ?_⟩
      rw [decide_eq_false hT]
      exact iteT (k H (Same.refl _))
    refine ⟨_, rfl, .ref a, "tuple", _, true, rfl, (.tup hA), kit_tuple_tuple, true, rfl, iteF ?_⟩
    refine ⟨_, rfl, a, _, rfl, .inr (SqT.of hA), 2, _, rfl, rfl, _, rfl, ?_⟩
    rcases hc with (h2 | h9) | ⟨h3, h8, hc⟩
    · rw [decide_eq_false (by omega)]
      exact iteF ⟨_, rfl, iteT (k H (Same.refl _))⟩
    · rw [decide_eq_true (by omega)]
      refine iteT ⟨7, 1, rfl, rfl, _, _, rfl, rfl, _, rfl, ?_⟩
      rw [decide_eq_false (by omega)]
      exact iteT (k H (Same.refl _))
    rw [decide_eq_true (by omega)]
    refine iteT ⟨7, 1, rfl, rfl, _, _, rfl, rfl, _, rfl, ?_⟩
    rw [decide_eq_true (by omega)]
    refine iteF ?_
    refine ⟨_, rfl, a, false, rfl, ⟨_, SqT.of hA⟩, ?_⟩
    refine comp_mapB ((xs.map gd18).map V.bl) (show SqB false K H a xs from SqT.of hA) (by simp) (by omega) (fun i x y hx hy H2 s2 R hR' => ?_) fun acc H2 h0 s2 hacc => ?_
    · have hy' : y = .bl (gd18 x) := by
        rw [List.map_map, List.getElem?_map, hx] at hy
        exact (Option.some.inj hy).symm
      subst hy'
      obtain ⟨Tx, thx⟩ := hth x (List.mem_of_getElem? hx)
      refine ⟨_, rfl, x, Tx, rfl, thx.same s2, _, rfl, ?_⟩
      by_cases e : Tx = "int"
      · subst e
        obtain ⟨i', rfl⟩ := thx.int_of
        rw [decide_eq_true rfl]
        refine iteT ⟨_, rfl, 0, i', rfl, rfl, _, rfl, ?_⟩
        by_cases h1 : (0 : Int) ≤ i'
        · rw [decide_eq_true h1]
          refine iteT ⟨i', _, rfl, rfl, ?_⟩
          have := hR' H2 (Same.refl _)
          have eg : gd18 (.int i') = decide (i' ≤ 1000000000000000000000000000000000000000000000000000000000000) := by show (decide (0 ≤ i') && _) = _; rw [decide_eq_true h1, Bool.true_and]
          rw [eg] at this
          exact this
        · rw [decide_eq_false h1]
          have := hR' H2 (Same.refl _)
          have eg : gd18 (.int i') = false := by show (decide (0 ≤ i') && _) = _; rw [decide_eq_false h1, Bool.false_and]
          rw [eg] at this
          exact iteF this
      · rw [decide_eq_false e]
        have := hR' H2 (Same.refl _)
        have eg : gd18 x = false := by
          cases x with
          | int z => exact absurd (thx.ty_int) e
          | _ => rfl
        rw [eg] at this
        exact iteF this
    · refine ⟨acc, _, rfl, SqL.of hacc, _, rfl, ?_⟩
      rw [all_gd]
      rcases hc with hf | ⟨st, rfl, hg, hz⟩
      · rw [hf]
        exact iteT (k H2 s2)
      rw [hg]
      refine iteF ?_
      have hA2 := s2 _ _ hA
      have hne : st ≠ [] := by intro z; rw [z] at h3; simp at h3
      refine ⟨_, rfl, false, a, st, rfl, SqT.of hA2, hne, fun m hm hle => ?_⟩
      rcases hz with h1 | h0'
      · have m1 := h1 m hm
        have e0 : decide (V.int m = V.int 0) = false := decide_eq_false fun z => by injection z with z; omega
        refine ⟨rfl, _, rfl, ?_⟩
        rw [e0]
        exact iteF (k H2 s2)
      · have m0 := h0' m hm
        subst m0
        refine ⟨rfl, true, by simp, iteT ?_⟩
        refine ⟨_, rfl, false, a, st, rfl, SqT.of hA2, hne, fun m hm hle => ⟨m, 0, rfl, rfl, ?_⟩⟩
        have m0 := h0' m hm
        subst m0
        show Q (.bl (decide ((0 : Int) < 0))) H2
        rw [decide_eq_false (by omega)]
        exact k H2 s2

def spN1 (K : PySem.W.Frag) (cS : Addr) : Sp := fun vs H _ E => ∃ v, vs = [v] ∧ NoSt K H v ∧ ∀ H', Same H H' → E (.ref cS) none H'
def spN2 (K : PySem.W.Frag) (cS : Addr) : Sp := fun vs H _ E => ∃ v u, vs = [v, u] ∧ NoSt K H v ∧ ∀ H', Same H H' → E (.ref cS) none H'
theorem ok_chkstE {f fW : Addr} {fd dW : FuncData} (F : Fun K "check_standing" "check_standing" sChkSt f fd) (XX : Excs K mg) (z : excAll K XX.nStand = true) (CW : Cal P w K mg base 2 "is_standing" ["thing"] (spIsStA K) fW dW) : FnOk P w K mg base (CX1 P w) 3 f fd ["standing"] (spN1 K XX.nStand) := by
  refine F.okE scChkSt (fun vs H Q E h => ?_) (fun cdv A outer s H vs Q E hr h => ?_)
  · obtain ⟨v, rfl, _⟩ := h
    rfl
  · obtain ⟨v, rfl, hN, hE⟩ := h
    refine ⟨_, pss_one (ps_if (pt_not (pt_val (pe_cal CW hr rfl (pa_cons (pv 0) pa_nil)))) (pss_one (ps_raise takes1 rfl XX.mStand z (pa_cons pe_str pa_nil))) pss_nil), ?_⟩
    exact ⟨_, rfl, v, rfl, hN, fun H1 s1 => ⟨false, rfl, iteT ⟨by show 1 ≤ 1000; decide, hE H1 s1⟩⟩⟩
theorem ok_phdE {f fA : Addr} {fd dA : FuncData} {cS : Addr} (F : Fun K "phase_done" "phase_done" sPhDone f fd) (CA : CalE P w K mg base 3 "check_standing" ["standing"] [] (spN1 K cS) fA dA) : FnOk P w K mg base (CX1 P w) 4 f fd ["standing", "phase"] (spN2 K cS) := by
  refine F.okE scPhDone (fun vs H Q E h => ?_) (fun cdv A outer s H vs Q E hr h => ?_)
  · obtain ⟨v, u, rfl, _⟩ := h
    rfl
  · obtain ⟨v, u, rfl, hN, hE⟩ := h
    have hr3 : Room 3 _ := hr.mono (by decide)
    refine ⟨_, pss_cons (ps_expr (pe_calE CA hr3 passes1 rfl (pa_cons (pv 0) pa_nil))) pss_never, ?_⟩
    exact ⟨_, rfl, v, rfl, hN, hE⟩
theorem ok_pldE {f fA : Addr} {fd dA : FuncData} {cS : Addr} (F : Fun K "plan_done" "plan_done" sPlDone f fd) (CA : CalE P w K mg base 3 "check_standing" ["standing"] [] (spN1 K cS) fA dA) : FnOk P w K mg base (CX1 P w) 4 f fd ["standing", "plan"] (spN2 K cS) := by
  refine F.okE scPlDone (fun vs H Q E h => ?_) (fun cdv A outer s H vs Q E hr h => ?_)
  · obtain ⟨v, u, rfl, _⟩ := h
    rfl
  · obtain ⟨v, u, rfl, hN, hE⟩ := h
    have hr3 : Room 3 _ := hr.mono (by decide)
    refine ⟨_, pss_cons (ps_expr (pe_calE CA hr3 passes1 rfl (pa_cons (pv 0) pa_nil))) pss_never, ?_⟩
    exact ⟨_, rfl, v, rfl, hN, hE⟩
theorem ok_phrE {f fA : Addr} {fd dA : FuncData} {cS : Addr} (F : Fun K "phases_right" "phases_right" sPhR f fd) (CA : CalE P w K mg base 3 "check_standing" ["standing"] [] (spN1 K cS) fA dA) : FnOk P w K mg base (CX1 P w) 6 f fd ["standing", "told"] (spN2 K cS) := by
  refine F.okE scPhR (fun vs H Q E h => ?_) (fun cdv A outer s H vs Q E hr h => ?_)
  · obtain ⟨v, u, rfl, _⟩ := h
    rfl
  · obtain ⟨v, u, rfl, hN, hE⟩ := h
    have hr3 : Room 3 _ := hr.mono (by decide)
    refine ⟨_, pss_cons (ps_expr (pe_calE CA hr3 passes1 rfl (pa_cons (pv 0) pa_nil))) pss_never, ?_⟩
    exact ⟨_, rfl, v, rfl, hN, hE⟩
theorem ok_fewE {f fA : Addr} {fd dA : FuncData} {cS : Addr} (F : Fun K "fewest_phases" "fewest_phases" sFew f fd) (CA : CalE P w K mg base 3 "check_standing" ["standing"] [] (spN1 K cS) fA dA) : FnOk P w K mg base (CX1 P w) 5 f fd ["standing"] (spN1 K cS) := by
  refine F.okE scFew (fun vs H Q E h => ?_) (fun cdv A outer s H vs Q E hr h => ?_)
  · obtain ⟨v, rfl, _⟩ := h
    rfl
  · obtain ⟨v, rfl, hN, hE⟩ := h
    have hr3 : Room 3 _ := hr.mono (by decide)
    refine ⟨_, pss_cons (ps_expr (pe_calE CA hr3 passes1 rfl (pa_cons (pv 0) pa_nil))) pss_never, ?_⟩
    exact ⟨_, rfl, v, rfl, hN, hE⟩

end
end Fi18

set_option Elab.async false
set_option linter.all false
set_option maxRecDepth 100000
set_option maxHeartbeats 4000000
namespace Fi18
open PySem L2 Lv
section
variable {P : Program} {w : World} {K : PySem.W.Frag} {mg : Str → Option Value} {base : Heap}
theorem scKind18 : FnScope ["way", "thing", "e", "others"] ["way", "thing"] (defScope sKind18) := ⟨rfl, rfl, rfl, by decide +kernel, rfl, by decide +kernel, by decide +kernel⟩
def tenX (XX : Excs K mg) : List Addr := [XX.clash, XX.nBack, XX.nLevel, XX.nLine, XX.nPlace, XX.nRoom, XX.nText, XX.nWays, XX.tFew, XX.tMany]
theorem far18 (XX : Excs K mg) {q : Nat} (hq : q = 10 ∨ q = 3) : ∀ D ∈ tenX XX, D ≠ XX.all.getD q 0 := by
  have far := XX.far
  intro D hD
  simp only [tenX, List.mem_cons, List.not_mem_nil, or_false] at hD
  rcases hD with rfl | rfl | rfl | rfl | rfl | rfl | rfl | rfl | rfl | rfl
  · exact far 11 q (by decide) (by omega) (by omega)
  · exact far 9 q (by decide) (by omega) (by omega)
  · exact far 2 q (by decide) (by omega) (by omega)
  · exact far 8 q (by decide) (by omega) (by omega)
  · exact far 6 q (by decide) (by omega) (by omega)
  · exact far 1 q (by decide) (by omega) (by omega)
  · exact far 7 q (by decide) (by omega) (by omega)
  · exact far 0 q (by decide) (by omega) (by omega)
  · exact far 5 q (by decide) (by omega) (by omega)
  · exact far 4 q (by decide) (by omega) (by omega)
def Kx18 (XX : Excs K mg) (C : Addr) (b : Bool) : Prop := excRest K C = true ∧ PySem.W.kitOne K (.ref C) (.type "ValueError") = some true ∧ PySem.W.kitAny K (.ref C) ((tenX XX).map Value.ref) = some false ∧ PySem.W.kitOne K (.ref C) (.ref XX.nPhase) = some b ∧ PySem.W.kitOne K (.ref C) (.ref XX.nStand) = some (!b)
theorem kxS (XX : Excs K mg) (t : ExcTab K XX.reel XX.nStand XX.all) : Kx18 XX XX.nStand false :=
  ⟨excAll.rest t.ok, t.isV, t.none (by simp [Excs.all, tenX]) (far18 XX (q := 3) (.inr rfl)), t.no (by simp [Excs.all]) (XX.far 10 3 (by decide) (by decide) (by decide)), t.yes (by simp [Excs.all])⟩
theorem kxP (XX : Excs K mg) {fI : Addr} (t : ExcTabI K XX.reel XX.nPhase fI XX.all) : Kx18 XX XX.nPhase true := by
  refine ⟨excAllI.rest t.ok, t.isV, t.none (by simp [Excs.all, tenX]) (far18 XX (q := 10) (.inl rfl)), ?_, ?_⟩
  · rw [t.one XX.nPhase (by simp [Excs.all])]
    simp
  · rw [t.one XX.nStand (by simp [Excs.all])]
    have : (XX.nStand == XX.nPhase) = false := beq_eq_false_iff_ne.mpr (XX.far 3 10 (by decide) (by decide) (by decide))
    rw [this]
    rfl
def spKind18 (K : PySem.W.Frag) : Sp := fun vs H Q _ => ∃ (w : Nat) (v : V), vs = [.int w, v] ∧ w ≤ 3 ∧ ((NoSt K H v ∧ ∀ H', Same H H' → Q (.int 0) H') ∨ ∃ (a : Addr) (p : Nat) (st : List Int), v = .ref a ∧ H a = some (.tup (st.map V.int)) ∧ Stand p st ∧ ∀ H', Same H H' → Q (.int (if w ≤ 1 then 1 else 3)) H')
theorem eqN18 (b : Bool) : decide (V.bl b = V.bl (!b)) = false := by cases b <;> rfl
theorem ok_kind18 {f : Addr} {fd : FuncData} (F : Fun K "_law_kind" "_law_kind" sKind18 f fd) (T : Txt mg) (Tv : mg "ValueError" = none) (XX : Excs K mg) {fI : Addr} (tS : ExcTab K XX.reel XX.nStand XX.all) (tP : ExcTabI K XX.reel XX.nPhase fI XX.all) {f10 : Addr} {d10 : FuncData} (C0 : CalE P w K mg base 4 "phase_done" ["standing", "phase"] [] (fun vs H Q E => spPhDoneI XX.nPhase vs H Q E ∨ spN2 K XX.nStand vs H Q E) f10 d10) {f11 : Addr} {d11 : FuncData} (C1 : CalE P w K mg base 4 "plan_done" ["standing", "plan"] [] (fun vs H Q E => spPlDoneI K XX.nPhase vs H Q E ∨ spN2 K XX.nStand vs H Q E) f11 d11) {f12 : Addr} {d12 : FuncData} (C2 : CalE P w K mg base 5 "fewest_phases" ["standing"] [] (fun vs H Q E => spFew vs H Q E ∨ spN1 K XX.nStand vs H Q E) f12 d12) {f13 : Addr} {d13 : FuncData} (C3 : CalE P w K mg base 6 "phases_right" ["standing", "told"] [] (fun vs H Q E => spPhRG K vs H Q E ∨ spN2 K XX.nStand vs H Q E) f13 d13) : FnOk P w K mg base CX0 7 f fd ["way", "thing"] (spKind18 K) := by
  refine okW F scKind18 (fun vs H Q E h => ?_) (fun cdv A outer s H vs Q E hr h => ?_)
  · obtain ⟨w, v, rfl, _⟩ := h
    rfl
  · obtain ⟨w, v, rfl, hw, hc⟩ := h
    have hr4 : Room 4 _ := hr.mono (by decide)
    have hr5 : Room 5 _ := hr.mono (by decide)
    have hr6 : Room 6 _ := hr.mono (by decide)
    refine ⟨_, (wss_cons (ws (ps_try (i := 2) scKind18.nd rfl rfl rfl XX.mReel (fun Ex pn' xe' hx => (WSs.out (wss_one (ws_if (pt_cmpR op_eq (pv 0) pe_int (nomark _))
        (wss_one (ws (ps_expr (pe_calE C0 hr4 hx rfl (pa_cons (pv 1) (pa_cons (pe_tup (pa_cons pe_int (pa_cons pe_int pa_nil))) pa_nil))))))
        (wss_one (ws_if (pt_cmpR op_eq (pv 0) pe_int (nomark _))
          (wss_one (ws (ps_expr (pe_calE C1 hr4 hx rfl (pa_cons (pv 1) (pa_cons (pe_lst (pa_cons (pe_tup (pa_cons (pe_op op_sub pe_int pe_int) (pa_cons pe_int pa_nil))) pa_nil)) pa_nil))))))
          (wss_one (ws_if (pt_cmpR op_eq (pv 0) pe_int (nomark _))
            (wss_one (ws (ps_expr (pe_calE C2 hr5 hx rfl (pa_cons (pv 1) pa_nil)))))
            (wss_one (ws (ps_expr (pe_calE C3 hr6 hx rfl (pa_cons (pv 1) (pa_cons (WE.out (we_tup (wa_cons rfl pe_int (wa_cons rfl (pe_lst (pa_cons (pe_tup (pa_cons pe_int (pa_cons pe_int pa_nil))) pa_nil)) (wa_cons rfl pe_int wa_nil))))) pa_nil))))))))))))))
      (fun ea => (WSs.out (wss_cons (ws (ps_set (i := 3) scKind18.nd rfl (Or.inl rfl) (pe_callB (callK_isinstETD K) rfl T.isinstance b_isinstance (pa_cons (pv 2) (pa_cons (WE.out (we_tup (wa_cons rfl (pe_gcls rfl XX.mClash) (wa_cons rfl (pe_gcls rfl XX.mBack) (wa_cons rfl (pe_gcls rfl XX.mLevel) (wa_cons rfl (pe_gcls rfl XX.mLine) (wa_cons rfl (pe_gcls rfl XX.mPlace) (wa_cons rfl (pe_gcls rfl XX.mRoom) (wa_cons rfl (pe_gcls rfl XX.mText) (wa_cons rfl (pe_gcls rfl XX.mWays) (wa_cons rfl (pe_gcls rfl XX.mFew) (wa_cons rfl (pe_gcls rfl XX.mMany) wa_nil)))))))))))) pa_nil)))))
        (wss_cons (ws_if (PW.pt (pw_or (pt_val (pv 3)) (pw_or (pt_not (pt_val (pe_callB (callK_isinstED K) rfl T.isinstance b_isinstance (pa_cons (pv 2) (pa_cons (pe_ty rfl Tv b_ValueError) pa_nil))))) (pw_or1 (pt_cmpR op_eq (pe_callB (callK_isinstED K) rfl T.isinstance b_isinstance (pa_cons (pv 2) (pa_cons (pe_gcls rfl XX.mPhase) pa_nil))) (pe_callB (callK_isinstED K) rfl T.isinstance b_isinstance (pa_cons (pv 2) (pa_cons (pe_gcls rfl XX.mStand) pa_nil))) (nomark _))))))
        (wss_one (ws (ps_ret pe_int)))
        wss_nil)
        (wss_one (ws (ps_ret (pe_callTy call_int1 rfl T.int b_int (pa_cons (pe_callB (callK_isinstED K) rfl T.isinstance b_isinstance (pa_cons (pv 2) (pa_cons (pe_gcls rfl XX.mPhase) pa_nil))) pa_nil)))))))))))
      (wss_one (ws (ps_ret pe_int)))), ?_⟩
    rcases (show w = 0 ∨ w = 1 ∨ w = 2 ∨ w = 3 by omega) with rfl | rfl | rfl | rfl
    · rcases hc with ⟨hN, k⟩ | ⟨a, p, st, rfl, hA, S, k⟩
      · exact ⟨_, rfl, rfl, _, rfl, iteT (⟨_, rfl, (by show 2 ≤ sizeLine; decide), fun q nq => .inr ⟨v, .ref q, rfl, hN.same (Same.new nq), fun H1 s1 => ⟨XX.nStand, rfl, tS.exm, fun ea hea => by
        obtain ⟨hz, kV, kA, kP, kS⟩ := kxS XX tS
        refine ⟨_, rfl, (by show 10 ≤ sizeLine; decide), fun t nt => ⟨ea, _, t, tenX XX, false, rfl, ⟨_, (Same.new nt) _ _ upd_same⟩, hz, upd_same, kA, ?_⟩⟩
        refine ⟨_, rfl, false, rfl, iteF ⟨_, rfl, ea, _, _, _, true, rfl, ⟨_, (Same.new nt) _ _ upd_same⟩, hz, .inl ⟨rfl, rfl⟩, kV, true, rfl, iteF ?_⟩⟩
        refine ⟨_, rfl, ea, _, _, _, _, rfl, ⟨_, (Same.new nt) _ _ upd_same⟩, hz, .inr ⟨_, rfl, rfl⟩, kP, _, rfl, ea, _, _, _, _, rfl, ⟨_, (Same.new nt) _ _ upd_same⟩, hz, .inr ⟨_, rfl, rfl⟩, kS, rfl, _, rfl, ?_⟩
        rw [eqN18]
        exact iteF ⟨_, rfl, ea, _, _, _, _, rfl, ⟨_, (Same.new nt) _ _ upd_same⟩, hz, .inr ⟨_, rfl, rfl⟩, kP, .inr ⟨_, rfl, k _ (((Same.new nq).trans s1).trans ((Same.new hea).trans (Same.new nt)))⟩⟩⟩⟩⟩)⟩
      · exact ⟨_, rfl, rfl, _, rfl, iteT (⟨_, rfl, (by show 2 ≤ sizeLine; decide), fun q nq => .inl ⟨a, q, p, st, 0, 0, rfl, (Same.new nq) _ _ hA, upd_same, S, fun z => absurd z.2.2.1 (by decide), fun _ H1 dx s1 hdx => ⟨XX.nPhase, rfl, tP.exm, fun ea hea => by
        obtain ⟨hz, kV, kA, kP, kS⟩ := kxP XX tP
        refine ⟨_, rfl, (by show 10 ≤ sizeLine; decide), fun t nt => ⟨ea, _, t, tenX XX, false, rfl, ⟨_, (Same.new nt) _ _ upd_same⟩, hz, upd_same, kA, ?_⟩⟩
        refine ⟨_, rfl, false, rfl, iteF ⟨_, rfl, ea, _, _, _, true, rfl, ⟨_, (Same.new nt) _ _ upd_same⟩, hz, .inl ⟨rfl, rfl⟩, kV, true, rfl, iteF ?_⟩⟩
        refine ⟨_, rfl, ea, _, _, _, _, rfl, ⟨_, (Same.new nt) _ _ upd_same⟩, hz, .inr ⟨_, rfl, rfl⟩, kP, _, rfl, ea, _, _, _, _, rfl, ⟨_, (Same.new nt) _ _ upd_same⟩, hz, .inr ⟨_, rfl, rfl⟩, kS, rfl, _, rfl, ?_⟩
        rw [eqN18]
        exact iteF ⟨_, rfl, ea, _, _, _, _, rfl, ⟨_, (Same.new nt) _ _ upd_same⟩, hz, .inr ⟨_, rfl, rfl⟩, kP, .inr ⟨_, rfl, k _ ((((Same.new nq).trans s1).trans (Same.new hdx)).trans ((Same.new hea).trans (Same.new nt)))⟩⟩⟩⟩⟩)⟩
    · rcases hc with ⟨hN, k⟩ | ⟨a, p, st, rfl, hA, S, k⟩
      · exact ⟨_, rfl, rfl, _, rfl, iteF ⟨_, rfl, rfl, _, rfl, iteT (⟨_, rfl, _, _, rfl, rfl, (by show 2 ≤ sizeLine; decide), fun q nq => ⟨(by show 1 ≤ sizeLine; decide), fun l nl => .inr ⟨v, .ref l, rfl, hN.same ((Same.new nq).trans (Same.new nl)), fun H1 s1 => ⟨XX.nStand, rfl, tS.exm, fun ea hea => by
        obtain ⟨hz, kV, kA, kP, kS⟩ := kxS XX tS
        refine ⟨_, rfl, (by show 10 ≤ sizeLine; decide), fun t nt => ⟨ea, _, t, tenX XX, false, rfl, ⟨_, (Same.new nt) _ _ upd_same⟩, hz, upd_same, kA, ?_⟩⟩
        refine ⟨_, rfl, false, rfl, iteF ⟨_, rfl, ea, _, _, _, true, rfl, ⟨_, (Same.new nt) _ _ upd_same⟩, hz, .inl ⟨rfl, rfl⟩, kV, true, rfl, iteF ?_⟩⟩
        refine ⟨_, rfl, ea, _, _, _, _, rfl, ⟨_, (Same.new nt) _ _ upd_same⟩, hz, .inr ⟨_, rfl, rfl⟩, kP, _, rfl, ea, _, _, _, _, rfl, ⟨_, (Same.new nt) _ _ upd_same⟩, hz, .inr ⟨_, rfl, rfl⟩, kS, rfl, _, rfl, ?_⟩
        rw [eqN18]
        exact iteF ⟨_, rfl, ea, _, _, _, _, rfl, ⟨_, (Same.new nt) _ _ upd_same⟩, hz, .inr ⟨_, rfl, rfl⟩, kP, .inr ⟨_, rfl, k _ ((((Same.new nq).trans (Same.new nl)).trans s1).trans ((Same.new hea).trans (Same.new nt)))⟩⟩⟩⟩⟩⟩)⟩⟩
      · have hph : ¬ PhOk st (0 - 1) 1 := fun z => absurd z.1.1 (by decide)
        have hfin : fin st [((0 - 1 : Int), (1 : Int))] = .error 0 := by
          unfold fin
          rw [show wk st [((0 - 1 : Int), (1 : Int))] 0 = .error 0 by rw [wk, if_neg hph]]
        exact ⟨_, rfl, rfl, _, rfl, iteF ⟨_, rfl, rfl, _, rfl, iteT (⟨_, rfl, _, _, rfl, rfl, (by show 2 ≤ sizeLine; decide), fun q nq => ⟨(by show 1 ≤ sizeLine; decide), fun l nl => .inl ⟨a, l, true, p, st, [q], [(0 - 1, 1)], rfl, ((Same.new nq).trans (Same.new nl)) _ _ hA, S, SqL.of upd_same, ⟨rfl, fun j r xs ha hb => by cases j with | zero => cases ha; cases hb; exact (Same.new nl) _ _ upd_same | succ j => cases ha⟩, (fun d hd => by rw [hfin] at hd; cases hd), (fun i hi H1 dx s1 hdx => by rw [hfin] at hi; cases hi; exact ⟨XX.nPhase, rfl, tP.exm, fun ea hea => by
        obtain ⟨hz, kV, kA, kP, kS⟩ := kxP XX tP
        refine ⟨_, rfl, (by show 10 ≤ sizeLine; decide), fun t nt => ⟨ea, _, t, tenX XX, false, rfl, ⟨_, (Same.new nt) _ _ upd_same⟩, hz, upd_same, kA, ?_⟩⟩
        refine ⟨_, rfl, false, rfl, iteF ⟨_, rfl, ea, _, _, _, true, rfl, ⟨_, (Same.new nt) _ _ upd_same⟩, hz, .inl ⟨rfl, rfl⟩, kV, true, rfl, iteF ?_⟩⟩
        refine ⟨_, rfl, ea, _, _, _, _, rfl, ⟨_, (Same.new nt) _ _ upd_same⟩, hz, .inr ⟨_, rfl, rfl⟩, kP, _, rfl, ea, _, _, _, _, rfl, ⟨_, (Same.new nt) _ _ upd_same⟩, hz, .inr ⟨_, rfl, rfl⟩, kS, rfl, _, rfl, ?_⟩
        rw [eqN18]
        exact iteF ⟨_, rfl, ea, _, _, _, _, rfl, ⟨_, (Same.new nt) _ _ upd_same⟩, hz, .inr ⟨_, rfl, rfl⟩, kP, .inr ⟨_, rfl, k _ (((((Same.new nq).trans (Same.new nl)).trans s1).trans (Same.new hdx)).trans ((Same.new hea).trans (Same.new nt)))⟩⟩⟩)⟩⟩⟩)⟩⟩
    · rcases hc with ⟨hN, k⟩ | ⟨a, p, st, rfl, hA, S, k⟩
      · exact ⟨_, rfl, rfl, _, rfl, iteF ⟨_, rfl, rfl, _, rfl, iteF ⟨_, rfl, rfl, _, rfl, iteT (⟨_, rfl, .inr ⟨v, rfl, hN, fun H1 s1 => ⟨XX.nStand, rfl, tS.exm, fun ea hea => by
        obtain ⟨hz, kV, kA, kP, kS⟩ := kxS XX tS
        refine ⟨_, rfl, (by show 10 ≤ sizeLine; decide), fun t nt => ⟨ea, _, t, tenX XX, false, rfl, ⟨_, (Same.new nt) _ _ upd_same⟩, hz, upd_same, kA, ?_⟩⟩
        refine ⟨_, rfl, false, rfl, iteF ⟨_, rfl, ea, _, _, _, true, rfl, ⟨_, (Same.new nt) _ _ upd_same⟩, hz, .inl ⟨rfl, rfl⟩, kV, true, rfl, iteF ?_⟩⟩
        refine ⟨_, rfl, ea, _, _, _, _, rfl, ⟨_, (Same.new nt) _ _ upd_same⟩, hz, .inr ⟨_, rfl, rfl⟩, kP, _, rfl, ea, _, _, _, _, rfl, ⟨_, (Same.new nt) _ _ upd_same⟩, hz, .inr ⟨_, rfl, rfl⟩, kS, rfl, _, rfl, ?_⟩
        rw [eqN18]
        exact iteF ⟨_, rfl, ea, _, _, _, _, rfl, ⟨_, (Same.new nt) _ _ upd_same⟩, hz, .inr ⟨_, rfl, rfl⟩, kP, .inr ⟨_, rfl, k _ (s1.trans ((Same.new hea).trans (Same.new nt)))⟩⟩⟩⟩⟩)⟩⟩⟩
      · exact ⟨_, rfl, rfl, _, rfl, iteF ⟨_, rfl, rfl, _, rfl, iteF ⟨_, rfl, rfl, _, rfl, iteT (⟨_, rfl, .inl ⟨a, p, st, rfl, hA, S, fun N t l rs H1 _ _ _ _ _ _ _ _ s1 => k _ s1⟩⟩)⟩⟩⟩
    · rcases hc with ⟨hN, k⟩ | ⟨a, p, st, rfl, hA, S, k⟩
      · exact ⟨_, rfl, rfl, _, rfl, iteF ⟨_, rfl, rfl, _, rfl, iteF ⟨_, rfl, rfl, _, rfl, iteF (⟨_, rfl, (by show 2 ≤ sizeLine; decide), fun q nq => ⟨(by show 1 ≤ sizeLine; decide), fun l nl => ⟨(by show 3 ≤ sizeLine; decide), fun t nt0 => .inr ⟨v, .ref t, rfl, hN.same (((Same.new nq).trans (Same.new nl)).trans (Same.new nt0)), fun H1 s1 => ⟨XX.nStand, rfl, tS.exm, fun ea hea => by
        obtain ⟨hz, kV, kA, kP, kS⟩ := kxS XX tS
        refine ⟨_, rfl, (by show 10 ≤ sizeLine; decide), fun t nt => ⟨ea, _, t, tenX XX, false, rfl, ⟨_, (Same.new nt) _ _ upd_same⟩, hz, upd_same, kA, ?_⟩⟩
        refine ⟨_, rfl, false, rfl, iteF ⟨_, rfl, ea, _, _, _, true, rfl, ⟨_, (Same.new nt) _ _ upd_same⟩, hz, .inl ⟨rfl, rfl⟩, kV, true, rfl, iteF ?_⟩⟩
        refine ⟨_, rfl, ea, _, _, _, _, rfl, ⟨_, (Same.new nt) _ _ upd_same⟩, hz, .inr ⟨_, rfl, rfl⟩, kP, _, rfl, ea, _, _, _, _, rfl, ⟨_, (Same.new nt) _ _ upd_same⟩, hz, .inr ⟨_, rfl, rfl⟩, kS, rfl, _, rfl, ?_⟩
        rw [eqN18]
        exact iteF ⟨_, rfl, ea, _, _, _, _, rfl, ⟨_, (Same.new nt) _ _ upd_same⟩, hz, .inr ⟨_, rfl, rfl⟩, kP, .inr ⟨_, rfl, k _ (((((Same.new nq).trans (Same.new nl)).trans (Same.new nt0)).trans s1).trans ((Same.new hea).trans (Same.new nt)))⟩⟩⟩⟩⟩⟩⟩)⟩⟩⟩
      · obtain ⟨N, hN⟩ := lvl_ex S
        exact ⟨_, rfl, rfl, _, rfl, iteF ⟨_, rfl, rfl, _, rfl, iteF ⟨_, rfl, rfl, _, rfl, iteF (⟨_, rfl, (by show 2 ≤ sizeLine; decide), fun q nq => ⟨(by show 1 ≤ sizeLine; decide), fun l nl => ⟨(by show 3 ≤ sizeLine; decide), fun t nt0 => (.inl ⟨a, t, l, true, p, N, st, [q], [(0, 0)], 0, some 5, rfl, (((Same.new nq).trans (Same.new nl)).trans (Same.new nt0)) _ _ hA, S, hN, upd_same, (Same.new nt0) _ _ upd_same, ⟨rfl, fun j r xs ha hb => by cases j with | zero => cases ha; cases hb; exact ((Same.new nl).trans (Same.new nt0)) _ _ upd_same | succ j => cases ha⟩, fun H1 s1 => k _ ((((Same.new nq).trans (Same.new nl)).trans (Same.new nt0)).trans s1)⟩)⟩⟩⟩)⟩⟩⟩

end
end Fi18

set_option Elab.async false
set_option linter.all false
set_option maxRecDepth 100000
set_option maxHeartbeats 4000000
namespace Fi18
open PySem L2 Lv
section
variable {P : Program} {w : World} {K : PySem.W.Frag} {mg : Str → Option Value} {base : Heap}
theorem scOdd18 : FnScope ["pool", "standing", "turn", "at", "odd"] ["pool", "standing"] (defScope sOdd18) := ⟨rfl, rfl, rfl, by decide +kernel, rfl, by decide +kernel, by decide +kernel⟩
theorem thInts {K : PySem.W.Frag} {H : Hp} (ns : List Int) : ∀ x ∈ ns.map V.int, ∃ T, Thing K H x T := fun x hx => by
  obtain ⟨z, _, rfl⟩ := List.mem_map.mp hx
  exact ⟨"int", ⟨.int _, by decide⟩⟩
theorem catE_of {K : PySem.W.Frag} {a b : Addr} {xs ys : List V} {H : Hp} {Q : VK} (ha : H a = some (.tup xs)) (hb : H b = some (.tup ys)) (hl : xs.length + ys.length ≤ 1000) (k : ∀ r H', Same H H' → H' r = some (.tup (xs ++ ys)) → Q (.ref r) H') : rCatE K (.ref a) (.ref b) H Q := by
  refine ⟨a, b, xs, ys, rfl, rfl, SqT.of ha, SqT.of hb, Nat.le_of_lt (small1000 hl), fun z => ?_, fun _ z => ?_, fun _ _ p hp => ?_⟩
  · subst z
    exact k b H (Same.refl _) hb
  · subst z
    exact k a H (Same.refl _) (by rw [ha, List.append_nil])
  · exact k p _ (Same.new hp) upd_same
theorem cut_takeS (cs : List Int) (m : Nat) : cutV (cs.map V.int) none (some (m : Int)) = (cs.take m).map V.int := by
  unfold cutV
  show ((cs.map V.int).drop 0).take (HT.sIx (cs.map V.int).length (cs.map V.int).length (some ((m : Nat) : Int)) - 0) = _
  rw [HT.sIx_nat, Nat.sub_zero, List.drop_zero, List.map_take]
  rcases Nat.le_total m (cs.map V.int).length with h | h
  · rw [Nat.min_eq_left h]
  · rw [Nat.min_eq_right h, List.take_length, List.take_of_length_le h]
theorem cut_dropS (cs : List Int) (m : Nat) (h : m ≤ cs.length) : cutV (cs.map V.int) (some (m : Int)) none = (cs.drop m).map V.int := by
  unfold cutV
  show ((cs.map V.int).drop (HT.sIx (cs.map V.int).length 0 (some ((m : Nat) : Int)))).take ((cs.map V.int).length - HT.sIx (cs.map V.int).length 0 (some ((m : Nat) : Int))) = _
  rw [HT.sIx_nat, Nat.min_eq_left (by rw [List.length_map]; exact h), List.map_drop, List.take_of_length_le (by rw [List.length_drop]; exact Nat.le_refl _)]
theorem odd18 {K : PySem.W.Frag} {H : Hp} {p q1 q2 : Addr} {i : Int} {a1 a2 : List V} (m1 : q1 ≠ p) (m2 : q2 ≠ p) (h1 : H q1 = some (.tup a1)) (h2 : H q2 = some (.lst a2)) (i0 : 0 ≤ i) (i1 : i < 9) :
    ∃ v T, atI [V.int (0 - 1), .int ((10 : Int) ^ Int.toNat 60 + 1), .bl true, .bl false, .non, .str "1", .ref q1, .ref q2, .int (0 - (10 : Int) ^ Int.toNat 50)] i = some v ∧ Thing K H v T ∧ gd18 v = false ∧ ∀ q, v = .ref q → q ≠ p := by
  rcases (show i = 0 ∨ i = 1 ∨ i = 2 ∨ i = 3 ∨ i = 4 ∨ i = 5 ∨ i = 6 ∨ i = 7 ∨ i = 8 by omega) with rfl | rfl | rfl | rfl | rfl | rfl | rfl | rfl | rfl
  · exact ⟨_, "int", rfl, ⟨.int _, by decide⟩, by decide, fun q z => nomatch z⟩
  · exact ⟨_, "int", rfl, ⟨.int _, by decide⟩, by decide +kernel, fun q z => nomatch z⟩
  · exact ⟨_, "bool", rfl, ⟨.bl _, by decide⟩, rfl, fun q z => nomatch z⟩
  · exact ⟨_, "bool", rfl, ⟨.bl _, by decide⟩, rfl, fun q z => nomatch z⟩
  · exact ⟨_, "NoneType", rfl, ⟨.non, by decide⟩, rfl, fun q z => nomatch z⟩
  · exact ⟨_, "str", rfl, ⟨.str _, by decide⟩, rfl, fun q z => nomatch z⟩
  · exact ⟨_, "tuple", rfl, ⟨.tup h1, by decide⟩, rfl, fun q z => by cases z; exact m1⟩
  · exact ⟨_, "list", rfl, ⟨.lst h2, by decide⟩, rfl, fun q z => by cases z; exact m2⟩
  · exact ⟨_, "int", rfl, ⟨.int _, by decide⟩, by decide +kernel, fun q z => nomatch z⟩
theorem some18 {K : PySem.W.Frag} {H : Hp} {q1 q2 q3 q4 q5 : Addr} {i : Int} (h1 : H q1 = some (.dK [])) (h2 : H q2 = some (.tup [])) (h3 : H q3 = some (.lst [])) (h4 : H q4 = some (.tup [.int 1, .int 0, .int 0])) (h5 : H q5 = some (.tup [.ref q4])) (i0 : 0 ≤ i) (i1 : i < 8) :
    ∃ v, atI [V.non, .int 7, .str "1 0 0", .ref q1, .ref q2, .ref q3, .bl true, .ref q5] i = some v ∧ NoSt K H v := by
  rcases (show i = 0 ∨ i = 1 ∨ i = 2 ∨ i = 3 ∨ i = 4 ∨ i = 5 ∨ i = 6 ∨ i = 7 by omega) with rfl | rfl | rfl | rfl | rfl | rfl | rfl | rfl
  · exact ⟨_, rfl, .inl ⟨"NoneType", ⟨.non, by decide⟩, by decide⟩⟩
  · exact ⟨_, rfl, .inl ⟨"int", ⟨.int _, by decide⟩, by decide⟩⟩
  · exact ⟨_, rfl, .inl ⟨"str", ⟨.str _, by decide⟩, by decide⟩⟩
  · exact ⟨_, rfl, .inl ⟨"dict", ⟨.dK h1, by decide⟩, by decide⟩⟩
  · exact ⟨_, rfl, .inr ⟨q2, [], rfl, h2, fun x hx => by simp at hx, by decide, .inl (.inl (by decide))⟩⟩
  · exact ⟨_, rfl, .inl ⟨"list", ⟨.lst h3, by decide⟩, by decide⟩⟩
  · exact ⟨_, rfl, .inl ⟨"bool", ⟨.bl _, by decide⟩, by decide⟩⟩
  · exact ⟨_, rfl, .inr ⟨q5, [.ref q4], rfl, h5, fun x hx => by rw [List.mem_singleton.mp hx]; exact ⟨"tuple", ⟨.tup h4, by decide⟩⟩, (by show 1 ≤ 60; decide), .inl (.inl (by show 1 ≤ 2; decide))⟩⟩
theorem gd_int {z : Int} (h0 : 0 ≤ z) (h1 : z ≤ 1000000000000000000000000000000000000000000000000000000000000) : gd18 (.int z) = true := by
  show (decide (0 ≤ z) && decide (z ≤ 1000000000000000000000000000000000000000000000000000000000000)) = true
  rw [decide_eq_true h0, decide_eq_true h1]
  rfl
theorem all_int {ns : List Int} (h : ∀ x ∈ ns, 0 ≤ x ∧ x ≤ 1000000000000000000000000000000000000000000000000000000000000) : (ns.map V.int).all gd18 = true := by
  rw [List.all_eq_true]
  intro x hx
  obtain ⟨z, hz, rfl⟩ := List.mem_map.mp hx
  exact gd_int (h z hz).1 (h z hz).2
def spOdd18 (K : PySem.W.Frag) : Sp := fun vs H Q _ => ∃ (pl a : Addr) (p : Nat) (st : List Int), vs = [.ref pl, .ref a] ∧ Pool H pl ∧ H a = some (.tup (st.map V.int)) ∧ Stand p st ∧ ∀ v H', NoSt K H' v → Pool H' pl → Sm pl H H' → Q v H'
theorem ok_odd18 {f f1 : Addr} {fd d1 : FuncData} (F : Fun K "_law_odd" "_law_odd" sOdd18 f fd) (T : Txt mg) (CK : Cal P w K mg base 1 "_law_take" ["pool", "many"] spTake f1 d1) : FnOk P w K mg base CX0 2 f fd ["pool", "standing"] (spOdd18 K) := by
  refine okW F scOdd18 (fun vs H Q E h => ?_) (fun cdv A outer s H vs Q E hr h => ?_)
  · obtain ⟨pl, a, p, st, rfl, _⟩ := h
    rfl
  · obtain ⟨pl, a, p, st, rfl, hp, hA, S, k⟩ := h
    have hr1 : Room 1 _ := hr.mono (by decide)
    have hlen := S.len
    have p2 := S.p2
    have p7 := S.p7
    refine ⟨_, (wss_cons (ws (ps_set (i := 2) scOdd18.nd rfl (Or.inl rfl) (pe_cal CK hr1 rfl (pa_cons (pv 0) (pa_cons pe_int pa_nil)))))
      (wss_cons (ws (ps_set (i := 3) scOdd18.nd rfl (Or.inl rfl) (pe_cal CK hr1 rfl (pa_cons (pv 0) (pa_cons (pe_callB call_len_seq rfl T.len PySem.boot_len (pa_cons (pv 1) pa_nil)) pa_nil)))))
      (wss_cons (ws_set (i := 4) scOdd18.nd rfl (Or.inl rfl) (we_ix ix_list (we_lst (wa_cons rfl (pe_op op_sub pe_int pe_int) (wa_cons rfl (pe_op op_add (pe_op op_pow pe_int pe_int) pe_int) (wa_cons rfl pe_bl (wa_cons rfl pe_bl (wa_cons rfl pe_non (wa_cons rfl pe_str (wa_cons rfl (pe_tup (pa_cons pe_int pa_nil)) (wa_cons rfl (pe_lst (pa_cons pe_int pa_nil)) (wa_cons rfl (pe_op op_sub pe_int (pe_op op_pow pe_int pe_int)) wa_nil)))))))))) (we (pe_cal CK hr1 rfl (pa_cons (pv 0) (pa_cons pe_int pa_nil)))) (fun _ _ => rfl)))
      (wss_cons (ws_if (pt_cmpR op_eq (pv 2) pe_int (nomark _))
      (wss_one (ws (ps_ret (pe_tup (pa_cons pe_int (pa_cons pe_int pa_nil))))))
      wss_nil)
      (wss_cons (ws_if (pt_cmpR op_eq (pv 2) pe_int (nomark _))
      (wss_one (ws_ret (we_tup (wa_cons rfl pe_int (wa_cons rfl pe_int (wa_cons rfl pe_int (wa_cons rfl pe_int (wa_cons rfl pe_int (wa_cons rfl pe_int (wa_cons rfl pe_int (wa_cons rfl pe_int (wa_cons rfl (pe_cal CK hr1 rfl (pa_cons (pv 0) (pa_cons pe_int pa_nil))) wa_nil))))))))))))
      wss_nil)
      (wss_cons (ws_if (pt_cmpR op_eq (pv 2) pe_int (nomark _))
      (wss_one (ws (ps_ret (pe_callTy call_tuple_of rfl T.tuple b_tuple (pa_cons (pe_comp (own := ["count"]) (js := []) (CompOk.by (sc := defScope sOdd18) (N := ["pool", "standing", "turn", "at", "odd"]) rfl rfl (by decide +kernel)) rfl (pi_seqB (pv 1)) gkeep_name (fun _ _ _ _ _ => (pg_name (i := 0) (by show (["count"] : List Str).Nodup; decide +kernel) rfl (Or.inl rfl) (.inr rfl))) (fun _ _ _ _ _ => pts_nil) (fun _ _ _ _ _ => (pe_callB (call_max2 rfl) rfl T.max b_max (pa_cons pe_int (pa_cons (pv 0) pa_nil))))) pa_nil)))))
      wss_nil)
      (wss_cons (ws_if (pt_cmpR op_eq (pv 2) pe_int (nomark _))
      (wss_one (ws (ps_ret (pe_op op_repE (pe_tup (pa_cons pe_int pa_nil)) (pe_callB call_len_seq rfl T.len PySem.boot_len (pa_cons (pv 1) pa_nil))))))
      wss_nil)
      (wss_cons (ws_if (pt_cmpR op_eq (pv 2) pe_int (nomark _))
      (wss_one (ws (ps_ret (pe_callTy call_list_of rfl T.list b_list (pa_cons (pv 1) pa_nil)))))
      wss_nil)
      (wss_cons (ws_if (pt_cmpR op_eq (pv 2) pe_int (nomark _))
      (wss_one (ws_ret (we_ix ix_list (we_lst (wa_cons rfl pe_non (wa_cons rfl pe_int (wa_cons rfl pe_str (wa_cons rfl pe_dnewK (wa_cons rfl (pe_tup pa_nil) (wa_cons rfl (pe_lst pa_nil) (wa_cons rfl pe_bl (wa_cons rfl (pe_tup (pa_cons (WE.out (we_tup (wa_cons rfl pe_int (wa_cons rfl pe_int (wa_cons rfl pe_int wa_nil))))) pa_nil)) wa_nil))))))))) (we (pe_cal CK hr1 rfl (pa_cons (pv 0) (pa_cons pe_int pa_nil)))) (fun _ _ => rfl))))
      wss_nil)
      (wss_one (ws (ps_ret (pe_op op_catE (pe_op op_catE (pe_slice sl_tupB (pv 1) po_none (po_some (pv 3))) (pe_tup (pa_cons (pv 4) pa_nil))) (pe_slice sl_tupB (pv 1) (po_some (pe_op op_add (pv 3) pe_int)) po_none)))))))))))))), ?_⟩
    refine ⟨_, rfl, pl, 9, rfl, hp, by decide, by decide, fun d0 H1 d00 d01 hp1 sm1 => ?_⟩
    have ane : a ≠ pl := fun z => by obtain ⟨_, _, e⟩ := hp; rw [z, e] at hA; cases hA
    have hA1 := sm1 _ _ hA ane
    refine ⟨_, rfl, _, rfl, a, _, rfl, .inr (SqT.of hA1), pl, _, rfl, hp1, by rw [List.length_map]; omega, by rw [List.length_map]; exact bits_small (by omega) (by omega), fun da H2 a0 a1 hp2 sm2 => ?_⟩
    rw [List.length_map] at a1
    have hA2 := sm2 _ _ hA1 ane
    refine ⟨_, _, rfl, rfl, _, _, rfl, rfl, ⟨by decide, by decide, by decide⟩, _, _, rfl, rfl, (by show 1 ≤ sizeLine; decide), fun q1 n1 => ?_⟩
    have t1 : Same H2 (upd H2 q1 (.tup [.int 1])) := Same.new n1
    have e1 : upd H2 q1 (.tup [.int 1]) q1 = some (.tup [.int 1]) := upd_same
    have m1 : q1 ≠ pl := hp2.ne n1
    have hpa := hp2.same t1
    generalize upd H2 q1 (.tup [.int 1]) = G1 at t1 e1 hpa ⊢
    refine ⟨(by show 1 ≤ sizeLine; decide), fun q2 n2 => ?_⟩
    have t2 : Same G1 (upd G1 q2 (.lst [.int 0])) := Same.new n2
    have e2 : upd G1 q2 (.lst [.int 0]) q2 = some (.lst [.int 0]) := upd_same
    have m2 : q2 ≠ pl := hpa.ne n2
    have hpb := hpa.same t2
    generalize upd G1 q2 (.lst [.int 0]) = G2 at t2 e2 hpb ⊢
    refine ⟨_, _, rfl, rfl, ⟨by decide, by decide, by decide⟩, _, _, rfl, rfl, (by show 9 ≤ sizeLine; decide), fun lo nlo => ?_⟩
    have t3 : Same G2 (upd G2 lo (.lst [V.int (0 - 1), .int ((10 : Int) ^ Int.toNat 60 + 1), .bl true, .bl false, .non, .str "1", .ref q1, .ref q2, .int (0 - (10 : Int) ^ Int.toNat 50)])) := Same.new nlo
    have e3 : upd G2 lo (.lst [V.int (0 - 1), .int ((10 : Int) ^ Int.toNat 60 + 1), .bl true, .bl false, .non, .str "1", .ref q1, .ref q2, .int (0 - (10 : Int) ^ Int.toNat 50)]) lo = some (.lst [V.int (0 - 1), .int ((10 : Int) ^ Int.toNat 60 + 1), .bl true, .bl false, .non, .str "1", .ref q1, .ref q2, .int (0 - (10 : Int) ^ Int.toNat 50)]) := upd_same
    have m3 : lo ≠ pl := hpb.ne nlo
    have hpc := hpb.same t3
    show tCall _ _ _ _ _ (upd G2 lo (.lst [V.int (0 - 1), .int ((10 : Int) ^ Int.toNat 60 + 1), .bl true, .bl false, .non, .str "1", .ref q1, .ref q2, .int (0 - (10 : Int) ^ Int.toNat 50)])) _
    generalize upd G2 lo (.lst [V.int (0 - 1), .int ((10 : Int) ^ Int.toNat 60 + 1), .bl true, .bl false, .non, .str "1", .ref q1, .ref q2, .int (0 - (10 : Int) ^ Int.toNat 50)]) = G3 at t3 e3 hpc ⊢
    refine ⟨_, rfl, pl, 9, rfl, hpc, by decide, by decide, fun di H4 i0 i1 hp4 sm4 => ?_⟩
    obtain ⟨o, To, eo, tho, hgo, hneo⟩ := odd18 (K := K) (H := H4) (p := pl) (i := di) m1 m2 (sm4 _ _ (t3 _ _ (t2 _ _ e1)) m1) (sm4 _ _ (t3 _ _ e2) m2) i0 i1
    refine ⟨lo, _, _, o, rfl, rfl, SqL.of (sm4 _ _ e3 m3), eo, ?_⟩
    have t13 := (t1.trans t2).trans t3
    have smO : Sm pl H H4 := ((sm1.trans sm2).trans (Sm.of t13)).trans sm4
    have hA4 := sm4 _ _ (t13 _ _ hA2) ane
    rcases (show d0 = 0 ∨ d0 = 1 ∨ d0 = 2 ∨ d0 = 3 ∨ d0 = 4 ∨ d0 = 5 ∨ (6 ≤ d0 ∧ d0 < 9) by omega) with rfl | rfl | rfl | rfl | rfl | rfl | h6
    · exact ⟨_, rfl, rfl, _, rfl, iteT ⟨(by show 2 ≤ sizeLine; decide), fun q nq => k (.ref q) _ (.inr ⟨q, [.int 1, .int 0], rfl, upd_same, thInts [1, 0], by decide, .inl (.inl (by decide))⟩) (hp4.put nq) (smO.trans (Sm.of (Same.new nq)))⟩⟩
    · exact ⟨_, rfl, rfl, _, rfl, iteF ⟨_, rfl, rfl, _, rfl, iteT ⟨_, rfl, pl, 3, rfl, hp4, by decide, by decide, fun d9 H5 _ _ hp5 sm5 => ⟨(by show 9 ≤ sizeLine; decide), fun q nq => k (.ref q) _ (.inr ⟨q, [.int 1, .int 0, .int 1, .int 1, .int 1, .int 1, .int 1, .int 1, .int d9], rfl, upd_same, thInts [1, 0, 1, 1, 1, 1, 1, 1, d9], (by show 9 ≤ 60; decide), .inl (.inr (by show 9 ≤ 9; decide))⟩) (hp5.put nq) ((smO.trans sm5).trans (Sm.of (Same.new nq)))⟩⟩⟩⟩
    · refine ⟨_, rfl, rfl, _, rfl, iteF ⟨_, rfl, rfl, _, rfl, iteF ⟨_, rfl, rfl, _, rfl, iteT ⟨_, rfl, a, false, rfl, ⟨_, SqT.of hA4⟩, ?_⟩⟩⟩⟩
      refine comp_mapB ((st.map fun x => if x > 1 then x else 1).map V.int) (show SqB false K H4 a (st.map V.int) from SqT.of hA4) (by simp) (by rw [List.length_map]; omega) (fun i x y hx hy H5 s5 R hR => ?_) fun acc H5 h0 s5 hacc => ?_
      · rw [List.map_map] at hy
        obtain ⟨c, hc, rfl, rfl⟩ := map2_get hx hy
        exact ⟨_, rfl, _, _, rfl, hR H5 (Same.refl _)⟩
      · refine ⟨acc, _, rfl, .inl ⟨SqL.of hacc, fun q nq => ?_⟩⟩
        have hin : ∀ x ∈ st.map (fun x => if x > 1 then x else 1), 1 ≤ x ∧ x ≤ 1000000000000000000000000000000000000000000000000000000000000 := fun x hx => by
          obtain ⟨z, hz, rfl⟩ := List.mem_map.mp hx
          have h1 := S.le z hz
          have h2 : big = 1000000000000000000000000000000000000000000000000000000000000 := rfl
          split <;> omega
        refine k (.ref q) _ (.inr ⟨q, _, rfl, upd_same, thInts _, by simp; omega, .inr ⟨by simp; omega, by simp; omega, .inr ⟨_, rfl, all_int fun x hx => ⟨by have := (hin x hx).1; omega, (hin x hx).2⟩, .inl fun x hx => (hin x hx).1⟩⟩⟩) ((hp4.same s5).put nq) (smO.trans (Sm.of (s5.trans (Same.new nq))))
    · refine ⟨_, rfl, rfl, _, rfl, iteF ⟨_, rfl, rfl, _, rfl, iteF ⟨_, rfl, rfl, _, rfl, iteF ⟨_, rfl, rfl, _, rfl, iteT ⟨(by show 1 ≤ sizeLine; decide), fun q nq => ⟨_, rfl, a, _, rfl, .inr (SqT.of ((Same.new nq) _ _ hA4)), q, _, [.int 0], rfl, rfl, SqT.of upd_same, by simp, by omega, by rw [List.length_map]; simp; omega, fun z => by rw [List.length_map] at z; omega, fun _ q2 nq2 => ?_⟩⟩⟩⟩⟩⟩
      have ez : (List.replicate (((st.map V.int).length : Nat) : Int).toNat [V.int 0]).flatten = (List.replicate st.length (0 : Int)).map V.int := by
        rw [List.length_map, show ((st.length : Nat) : Int).toNat = st.length by omega, List.map_replicate]
        exact List.flatten_replicate_singleton
      rw [ez]
      refine k (.ref q2) _ (.inr ⟨q2, _, rfl, upd_same, thInts _, by simp; omega, .inr ⟨by simp; omega, by simp; omega, .inr ⟨_, rfl, all_int fun x hx => ?_, .inr fun x hx => (List.mem_replicate.mp hx).2⟩⟩⟩) ((hp4.put nq).put nq2) (smO.trans (Sm.of ((Same.new nq).trans (Same.new nq2))))
      rw [(List.mem_replicate.mp hx).2]
      exact ⟨by decide, by decide⟩
    · exact ⟨_, rfl, rfl, _, rfl, iteF ⟨_, rfl, rfl, _, rfl, iteF ⟨_, rfl, rfl, _, rfl, iteF ⟨_, rfl, rfl, _, rfl, iteF ⟨_, rfl, rfl, _, rfl, iteT ⟨_, rfl, a, _, rfl, .inr (SqT.of hA4), fun q nq => k (.ref q) _ (.inl ⟨"list", ⟨.lst upd_same, by decide⟩, by decide⟩) (hp4.put nq) (smO.trans (Sm.of (Same.new nq)))⟩⟩⟩⟩⟩⟩
    · refine ⟨_, rfl, rfl, _, rfl, iteF ⟨_, rfl, rfl, _, rfl, iteF ⟨_, rfl, rfl, _, rfl, iteF ⟨_, rfl, rfl, _, rfl, iteF ⟨_, rfl, rfl, _, rfl, iteF ⟨_, rfl, rfl, _, rfl, iteT ?_⟩⟩⟩⟩⟩⟩
      refine fun q1 n1 => ?_
      have t1 : Same H4 (upd H4 q1 (.dK [])) := Same.new n1
      have e1 : upd H4 q1 (.dK []) q1 = some (.dK []) := upd_same
      have hp_1 := hp4.same t1
      generalize upd H4 q1 (.dK []) = J1 at t1 e1 hp_1 ⊢
      refine ⟨Nat.zero_le _, fun q2 n2 => ?_⟩
      have t2 : Same J1 (upd J1 q2 (.tup [])) := Same.new n2
      have e2 : upd J1 q2 (.tup []) q2 = some (.tup []) := upd_same
      have hp_2 := hp_1.same t2
      generalize upd J1 q2 (.tup []) = J2 at t2 e2 hp_2 ⊢
      refine ⟨Nat.zero_le _, fun q3 n3 => ?_⟩
      have t3 : Same J2 (upd J2 q3 (.lst [])) := Same.new n3
      have e3 : upd J2 q3 (.lst []) q3 = some (.lst []) := upd_same
      have hp_3 := hp_2.same t3
      generalize upd J2 q3 (.lst []) = J3 at t3 e3 hp_3 ⊢
      refine ⟨(by show 3 ≤ sizeLine; decide), fun q4 n4 => ?_⟩
      have t4 : Same J3 (upd J3 q4 (.tup [.int 1, .int 0, .int 0])) := Same.new n4
      have e4 : upd J3 q4 (.tup [.int 1, .int 0, .int 0]) q4 = some (.tup [.int 1, .int 0, .int 0]) := upd_same
      have hp_4 := hp_3.same t4
      generalize upd J3 q4 (.tup [.int 1, .int 0, .int 0]) = J4 at t4 e4 hp_4 ⊢
      refine ⟨(by show 1 ≤ sizeLine; decide), fun q5 n5 => ?_⟩
      have t5 : Same J4 (upd J4 q5 (.tup [.ref q4])) := Same.new n5
      have e5 : upd J4 q5 (.tup [.ref q4]) q5 = some (.tup [.ref q4]) := upd_same
      have hp_5 := hp_4.same t5
      generalize upd J4 q5 (.tup [.ref q4]) = J5 at t5 e5 hp_5 ⊢
      refine ⟨(by show 8 ≤ sizeLine; decide), fun q6 n6 => ?_⟩
      have m6 : q6 ≠ pl := hp_5.ne n6
      have t6 : Same J5 (upd J5 q6 (.lst [V.non, .int 7, .str "1 0 0", .ref q1, .ref q2, .ref q3, .bl true, .ref q5])) := Same.new n6
      have e6 : upd J5 q6 (.lst [V.non, .int 7, .str "1 0 0", .ref q1, .ref q2, .ref q3, .bl true, .ref q5]) q6 = some (.lst [V.non, .int 7, .str "1 0 0", .ref q1, .ref q2, .ref q3, .bl true, .ref q5]) := upd_same
      have hp_6 := hp_5.same t6
      show tCall _ _ _ _ _ (upd J5 q6 (.lst [V.non, .int 7, .str "1 0 0", .ref q1, .ref q2, .ref q3, .bl true, .ref q5])) _
      generalize upd J5 q6 (.lst [V.non, .int 7, .str "1 0 0", .ref q1, .ref q2, .ref q3, .bl true, .ref q5]) = J6 at t6 e6 hp_6 ⊢
      refine ⟨_, rfl, pl, 8, rfl, hp_6, by decide, by decide, fun dj H9 j0 j1 hp9 sm9 => ?_⟩
      have t56 := t5.trans t6
      have t46 := t4.trans t56
      have t36 := t3.trans t46
      have t26 := t2.trans t36
      have nq : ∀ {q : Addr} {u : HO} {Hx : Hp}, Pool Hx pl → Hx q = none → q ≠ pl := fun h z => h.ne z
      obtain ⟨v, ev, hv⟩ := some18 (K := K) (H := H9) (i := dj) (sm9 _ _ (t26 _ _ e1) (hp4.ne n1)) (sm9 _ _ (t36 _ _ e2) (hp_1.ne n2)) (sm9 _ _ (t46 _ _ e3) (hp_2.ne n3)) (sm9 _ _ (t56 _ _ e4) (hp_3.ne n4)) (sm9 _ _ (t6 _ _ e5) (hp_4.ne n5)) j0 j1
      exact ⟨q6, _, _, v, rfl, rfl, SqL.of (sm9 _ _ e6 m6), ev, k v H9 hv hp9 ((smO.trans (Sm.of (t1.trans t26))).trans sm9)⟩
    · rcases (show d0 = 6 ∨ d0 = 7 ∨ d0 = 8 by omega) with rfl | rfl | rfl
      · refine ⟨_, rfl, rfl, _, rfl, iteF ⟨_, rfl, rfl, _, rfl, iteF ⟨_, rfl, rfl, _, rfl, iteF ⟨_, rfl, rfl, _, rfl, iteF ⟨_, rfl, rfl, _, rfl, iteF ⟨_, rfl, rfl, _, rfl, iteF ?_⟩⟩⟩⟩⟩⟩
        obtain ⟨m, em, hm⟩ : ∃ m : Nat, da = (m : Int) ∧ m < st.length := ⟨da.toNat, by omega, by omega⟩
        subst em
        refine ⟨_, rfl, _, rfl, _, rfl, a, _, rfl, hA4, fun a1 G1 s1 h1 => ?_⟩
        rw [cut_takeS] at h1
        refine ⟨_, rfl, (by show 1 ≤ sizeLine; decide), fun q nq => ?_⟩
        have s2 : Same G1 (upd G1 q (.tup [o])) := Same.new nq
        have e2 : upd G1 q (.tup [o]) q = some (.tup [o]) := upd_same
        generalize upd G1 q (.tup [o]) = G2 at s2 e2 ⊢
        refine catE_of (s2 _ _ h1) e2 (by rw [List.length_map, List.length_take]; show min m st.length + 1 ≤ 1000; omega) fun r G3 s3 h3 => ?_
        refine ⟨_, rfl, _, rfl, _, _, rfl, rfl, _, rfl, a, _, rfl, ((s1.trans s2).trans s3) _ _ hA4, fun a2 G4 s4 h4 => ?_⟩
        have eM : ((m : Nat) : Int) + 1 = ((m + 1 : Nat) : Int) := rfl
        rw [eM, cut_dropS _ _ hm] at h4
        refine catE_of (s4 _ _ h3) h4 (by simp; omega) fun r2 G5 s5 h5 => ?_
        have sZ := (((s1.trans s2).trans s3).trans s4).trans s5
        refine k (.ref r2) G5 (.inr ⟨r2, _, rfl, h5, fun x hx => ?_, by simp; omega, .inr ⟨by simp; omega, by simp; omega, .inl ?_⟩⟩) (hp4.same sZ) (smO.trans (Sm.of sZ))
        · rcases List.mem_append.mp hx with hx | hx
          · rcases List.mem_append.mp hx with hx | hx
            · exact thInts _ x hx
            · rw [List.mem_singleton.mp hx]
              exact ⟨To, tho.same sZ⟩
          · exact thInts _ x hx
        · rw [List.all_eq_false]
          exact ⟨o, by simp, by rw [hgo]; decide⟩
      · refine ⟨_, rfl, rfl, _, rfl, iteF ⟨_, rfl, rfl, _, rfl, iteF ⟨_, rfl, rfl, _, rfl, iteF ⟨_, rfl, rfl, _, rfl, iteF ⟨_, rfl, rfl, _, rfl, iteF ⟨_, rfl, rfl, _, rfl, iteF ?_⟩⟩⟩⟩⟩⟩
        obtain ⟨m, em, hm⟩ : ∃ m : Nat, da = (m : Int) ∧ m < st.length := ⟨da.toNat, by omega, by omega⟩
        subst em
        refine ⟨_, rfl, _, rfl, _, rfl, a, _, rfl, hA4, fun a1 G1 s1 h1 => ?_⟩
        rw [cut_takeS] at h1
        refine ⟨_, rfl, (by show 1 ≤ sizeLine; decide), fun q nq => ?_⟩
        have s2 : Same G1 (upd G1 q (.tup [o])) := Same.new nq
        have e2 : upd G1 q (.tup [o]) q = some (.tup [o]) := upd_same
        generalize upd G1 q (.tup [o]) = G2 at s2 e2 ⊢
        refine catE_of (s2 _ _ h1) e2 (by rw [List.length_map, List.length_take]; show min m st.length + 1 ≤ 1000; omega) fun r G3 s3 h3 => ?_
        refine ⟨_, rfl, _, rfl, _, _, rfl, rfl, _, rfl, a, _, rfl, ((s1.trans s2).trans s3) _ _ hA4, fun a2 G4 s4 h4 => ?_⟩
        have eM : ((m : Nat) : Int) + 1 = ((m + 1 : Nat) : Int) := rfl
        rw [eM, cut_dropS _ _ hm] at h4
        refine catE_of (s4 _ _ h3) h4 (by simp; omega) fun r2 G5 s5 h5 => ?_
        have sZ := (((s1.trans s2).trans s3).trans s4).trans s5
        refine k (.ref r2) G5 (.inr ⟨r2, _, rfl, h5, fun x hx => ?_, by simp; omega, .inr ⟨by simp; omega, by simp; omega, .inl ?_⟩⟩) (hp4.same sZ) (smO.trans (Sm.of sZ))
        · rcases List.mem_append.mp hx with hx | hx
          · rcases List.mem_append.mp hx with hx | hx
            · exact thInts _ x hx
            · rw [List.mem_singleton.mp hx]
              exact ⟨To, tho.same sZ⟩
          · exact thInts _ x hx
        · rw [List.all_eq_false]
          exact ⟨o, by simp, by rw [hgo]; decide⟩
      · refine ⟨_, rfl, rfl, _, rfl, iteF ⟨_, rfl, rfl, _, rfl, iteF ⟨_, rfl, rfl, _, rfl, iteF ⟨_, rfl, rfl, _, rfl, iteF ⟨_, rfl, rfl, _, rfl, iteF ⟨_, rfl, rfl, _, rfl, iteF ?_⟩⟩⟩⟩⟩⟩
        obtain ⟨m, em, hm⟩ : ∃ m : Nat, da = (m : Int) ∧ m < st.length := ⟨da.toNat, by omega, by omega⟩
        subst em
        refine ⟨_, rfl, _, rfl, _, rfl, a, _, rfl, hA4, fun a1 G1 s1 h1 => ?_⟩
        rw [cut_takeS] at h1
        refine ⟨_, rfl, (by show 1 ≤ sizeLine; decide), fun q nq => ?_⟩
        have s2 : Same G1 (upd G1 q (.tup [o])) := Same.new nq
        have e2 : upd G1 q (.tup [o]) q = some (.tup [o]) := upd_same
        generalize upd G1 q (.tup [o]) = G2 at s2 e2 ⊢
        refine catE_of (s2 _ _ h1) e2 (by rw [List.length_map, List.length_take]; show min m st.length + 1 ≤ 1000; omega) fun r G3 s3 h3 => ?_
        refine ⟨_, rfl, _, rfl, _, _, rfl, rfl, _, rfl, a, _, rfl, ((s1.trans s2).trans s3) _ _ hA4, fun a2 G4 s4 h4 => ?_⟩
        have eM : ((m : Nat) : Int) + 1 = ((m + 1 : Nat) : Int) := rfl
        rw [eM, cut_dropS _ _ hm] at h4
        refine catE_of (s4 _ _ h3) h4 (by simp; omega) fun r2 G5 s5 h5 => ?_
        have sZ := (((s1.trans s2).trans s3).trans s4).trans s5
        refine k (.ref r2) G5 (.inr ⟨r2, _, rfl, h5, fun x hx => ?_, by simp; omega, .inr ⟨by simp; omega, by simp; omega, .inl ?_⟩⟩) (hp4.same sZ) (smO.trans (Sm.of sZ))
        · rcases List.mem_append.mp hx with hx | hx
          · rcases List.mem_append.mp hx with hx | hx
            · exact thInts _ x hx
            · rw [List.mem_singleton.mp hx]
              exact ⟨To, tho.same sZ⟩
          · exact thInts _ x hx
        · rw [List.all_eq_false]
          exact ⟨o, by simp, by rw [hgo]; decide⟩

end
end Fi18

set_option Elab.async false
set_option linter.all false
set_option maxRecDepth 100000
set_option maxHeartbeats 4000000
namespace Fi18
open PySem L2 Lv
section
variable {P : Program} {w : World} {K : PySem.W.Frag} {mg : Str → Option Value} {base : Heap}
theorem scLaw : FnScope ["script", "at", "pool", "standing", "turn", "odd", "way", "good"] ["script"] (defScope sLaw) := ⟨rfl, rfl, rfl, by decide +kernel, rfl, by decide +kernel, by decide +kernel⟩
theorem refGet18 {rs : List Addr} {i : Nat} {x : V} (h : (rs.map V.ref)[i]? = some x) : ∃ r, rs[i]? = some r ∧ x = .ref r := by
  rw [List.getElem?_map] at h
  cases e : rs[i]? with
  | none => rw [e] at h; cases h
  | some r => rw [e] at h; exact ⟨r, rfl, (Option.some.inj h).symm⟩
theorem neS18 {x : V} : (!decide (x = x)) = false := by simp
theorem stand_big {p : Nat} (p2 : 2 ≤ p) (p7 : p ≤ 7) : Stand p (List.replicate p (1000000000000000000000000000000000000000000000000000000000000 : Int) ++ [0]) := by
  refine ⟨p2, p7, by simp, fun x hx => ?_, fun x hx => ?_, by simp, ⟨1000000000000000000000000000000000000000000000000000000000000, by simp; omega, by decide⟩⟩
  · rcases List.mem_append.mp hx with hx | hx
    · rw [(List.mem_replicate.mp hx).2]
      decide
    · rw [List.mem_singleton.mp hx]
      decide
  · rcases List.mem_append.mp hx with hx | hx
    · rw [(List.mem_replicate.mp hx).2]
      decide
    · rw [List.mem_singleton.mp hx]
      decide
theorem ok_law18 {f f1 f2 f3 f4 : Addr} {fd d1 d2 d3 d4 : FuncData} (F : Fun K "law" "law" sLaw f fd) (T : Txt mg) (CP : Cal P w K mg base 1 "_law_pool" ["script", "k"] (spPool K) f1 d1) (CS : Cal P w K mg base 3 "_law_standing" ["pool"] spStand f2 d2) (CO : Cal P w K mg base 2 "_law_odd" ["pool", "standing"] (spOdd18 K) f3 d3) (CI : Cal P w K mg base 7 "_law_kind" ["way", "thing"] (spKind18 K) f4 d4) : FnOk P w K mg base CX0 8 f fd ["script"] (spLaw K) := by
  refine okW F scLaw (fun vs H Q E h => ?_) (fun cdv A outer s H vs Q E hr h => ?_)
  · obtain ⟨a, cs, rfl, _⟩ := h
    rfl
  · obtain ⟨a, cs, rfl, hS, hlen, k⟩ := h
    have hr1 : Room 1 _ := hr.mono (by decide)
    have hr2 : Room 2 _ := hr.mono (by decide)
    have hr3 : Room 3 _ := hr.mono (by decide)
    have hu0 : (A.deeper (PyProof.Rows.envOfC "law" (defScope sLaw) s.heap.objs.size f cdv)).units < cLine := by have := hr.un; omega
    refine ⟨_, (wss_cons (ws (ps_for PassesOwn.never rfl (pi_range1 rfl T.range (pa_cons (pe_callB (call_max2 rfl) rfl T.max b_max (pa_cons pe_int (pa_cons (pe_callB (call_min2 rfl) rfl T.min b_min (pa_cons (pe_callB call_len_seq rfl T.len PySem.boot_len (pa_cons (pv 0) pa_nil)) (pa_cons pe_int pa_nil))) pa_nil))) pa_nil)) (pg_name (i := 1) scLaw.nd rfl (Or.inl rfl))
      (WSs.out (wss_cons (ws (ps_set (i := 2) scLaw.nd rfl (Or.inl rfl) (pe_cal CP hr1 rfl (pa_cons (pv 0) (pa_cons (pv 1) pa_nil)))))
        (wss_cons (ws (ps_set (i := 3) scLaw.nd rfl (Or.inl rfl) (pe_cal CS hr3 rfl (pa_cons (pv 2) pa_nil))))
        (wss_cons (ws (ps_for PassesOwn.never rfl (pi_range1 rfl T.range (pa_cons pe_int pa_nil)) (pg_name (i := 4) scLaw.nd rfl (Or.inl rfl))
        (WSs.out (wss_cons (ws (ps_set (i := 5) scLaw.nd rfl (Or.inl rfl) (pe_cal CO hr2 rfl (pa_cons (pv 2) (pa_cons (pv 3) pa_nil)))))
          (wss_one (ws (ps_for PassesOwn.never rfl (pi_range1 rfl T.range (pa_cons pe_int pa_nil)) (pg_name (i := 6) scLaw.nd rfl (Or.inl rfl))
          (WSs.out (wss_one (ws_if (pt_cmpR op_ne (pe_cal CI hr rfl (pa_cons (pv 6) (pa_cons (pv 5) pa_nil))) pe_int (nomark _))
            (wss pss_never)
            wss_nil))))))))))
        (wss_one (ws (ps_for PassesOwn.never rfl (pi_list (pe_lst (pa_cons (pv 3) (pa_cons (pe_op op_catE (pe_op op_repE (pe_tup (pa_cons (pe_op op_pow pe_int pe_int) pa_nil)) (pe_op op_sub (pe_callB call_len_seq rfl T.len PySem.boot_len (pa_cons (pv 3) pa_nil)) pe_int)) (pe_tup (pa_cons pe_int pa_nil))) pa_nil)))) (pg_name (i := 7) scLaw.nd rfl (Or.inr rfl))
        (WSs.out (wss_one (ws_if (pt_cmpR (op_neL hu0) (pe_comp (own := ["way"]) (js := [7]) (CompOk.by (sc := defScope sLaw) (N := ["script", "at", "pool", "standing", "turn", "odd", "way", "good"]) rfl rfl (by decide +kernel)) rfl (pi_range1 rfl T.range (pa_cons pe_int pa_nil)) gkeep_name (fun _ _ _ _ _ => (pg_name (i := 0) (by show (["way", "good"] : List Str).Nodup; decide +kernel) rfl (Or.inl rfl) (.inr rfl))) (fun _ _ _ _ _ => pts_nil) (fun _ _ _ _ _ => (pe_cal CI hr rfl (pa_cons (pv 0) (pa_cons (pv 1) pa_nil))))) (WE.out (we_lst (wa_cons rfl pe_int (wa_cons rfl pe_int (wa_cons rfl pe_int (wa_cons rfl pe_int wa_nil)))))) (nomark _))
          (wss pss_never)
          wss_nil))))))))))))
      (wss_one (ws (ps_ret pe_bl)))), ?_⟩
    refine ⟨_, rfl, a, _, rfl, .inl hS, _, _, rfl, _, _, rfl, _, rfl, ?_, ?_, ?_⟩
    · rw [List.length_map]; split <;> split <;> omega
    · rw [List.length_map]; split <;> split <;> omega
    have em : (if (if (10 : Int) < ((cs.map V.int).length : Int) then 10 else ((cs.map V.int).length : Int)) > 1 then (if (10 : Int) < ((cs.map V.int).length : Int) then 10 else ((cs.map V.int).length : Int)) else 1).toNat ≤ 10 := by
      rw [List.length_map]; split <;> split <;> omega
    generalize (if (if (10 : Int) < ((cs.map V.int).length : Int) then 10 else ((cs.map V.int).length : Int)) > 1 then (if (10 : Int) < ((cs.map V.int).length : Int) then 10 else ((cs.map V.int).length : Int)) else 1).toNat = NN at em ⊢
    refine for_range (fun i σ H2 => ∃ o1 o2 o3 o4 o5 o6 o7 : Option V, σ = [some (.ref a), o1, o2, o3, o4, o5, o6, o7] ∧ Same H H2) ⟨_, _, _, _, _, _, _, rfl, Same.refl _⟩ ?_ ?_
    · rintro i σ H2 hi ⟨o1, o2, o3, o4, o5, o6, o7, rfl, s2⟩
      refine ⟨_, rfl, _, rfl, a, cs, _, rfl, s2.seq hS, by omega, by omega, fun pl H3 hpl hp3 s3 => ?_⟩
      refine ⟨_, rfl, pl, rfl, hp3, fun p st sa H4 S hsa0 hsa hP4 sm4 => ?_⟩
      have s4 : Same H2 H4 := Sm.after s3 sm4 hpl
      have hsp : sa ≠ pl := by obtain ⟨_, _, e⟩ := hP4; intro z; subst z; rw [hsa] at e; cases e
      have p2 := S.p2
      have p7 := S.p7
      have hst := S.len
      have hplH : H pl = none := s2.free hpl
      refine ⟨3, rfl, by decide, by decide, for_range (fun j σ H5 => ∃ o4 o5 o6 : Option V, σ = [some (.ref a), some (.int (0 + (i : Int))), some (.ref pl), some (.ref sa), o4, o5, o6, o7] ∧ Pool H5 pl ∧ Sm pl H4 H5) ⟨_, _, _, rfl, hP4, Sm.refl _ _⟩ ?_ ?_⟩
      · rintro j σ H5 hj ⟨o4', o5', o6', rfl, hp5, sm5⟩
        refine ⟨_, rfl, _, rfl, pl, sa, p, st, rfl, hp5, sm5 _ _ hsa hsp, S, fun v H6 hN hp6 sm6 => ?_⟩
        refine ⟨4, rfl, by decide, by decide, for_range (fun wy σ H7 => ∃ o6 : Option V, σ = [some (.ref a), some (.int (0 + (i : Int))), some (.ref pl), some (.ref sa), some (.int (0 + (j : Int))), some v, o6, o7] ∧ Same H6 H7) ⟨_, rfl, Same.refl _⟩ ?_ ?_⟩
        · rintro wy σ H7 hwy ⟨o6'', rfl, s7⟩
          refine ⟨_, rfl, _, rfl, wy, v, (by rw [Int.zero_add]; rfl), by omega, .inl ⟨hN.same s7, fun H8 s8 => ⟨rfl, _, rfl, ?_⟩⟩⟩
          rw [neS18]
          exact iteF ⟨_, rfl, s7.trans s8⟩
        · rintro σ H7 ⟨o6'', rfl, s7⟩
          exact ⟨_, _, _, rfl, hp6.same s7, (sm5.trans sm6).trans (Sm.of s7)⟩
      · rintro σ H5 ⟨o4', o5', o6', rfl, hp5, sm5⟩
        have hsa5 := sm5 _ _ hsa hsp
        refine ⟨_, rfl, _, _, rfl, rfl, ⟨by decide, by decide, by decide⟩, (by show 1 ≤ sizeLine; decide), fun q1 n1 => ?_⟩
        have t1 : Same H5 (upd H5 q1 (.tup [.int ((10 : Int) ^ Int.toNat 60)])) := Same.new n1
        have e1 : upd H5 q1 (.tup [.int ((10 : Int) ^ Int.toNat 60)]) q1 = some (.tup [.int ((10 : Int) ^ Int.toNat 60)]) := upd_same
        generalize upd H5 q1 (.tup [.int ((10 : Int) ^ Int.toNat 60)]) = H6 at t1 e1 ⊢
        refine ⟨_, rfl, sa, _, rfl, .inr (SqT.of (t1 _ _ hsa5)), _, _, rfl, rfl, q1, _, [.int ((10 : Int) ^ Int.toNat 60)], rfl, rfl, SqT.of e1, by simp, by rw [List.length_map]; omega, by rw [List.length_map]; simp; omega, fun z => by rw [List.length_map] at z; omega, fun _ q2 n2 => ?_⟩
        have ez : (List.replicate ((((st.map V.int).length : Nat) : Int) - 1).toNat [V.int ((10 : Int) ^ Int.toNat 60)]).flatten = (List.replicate p (1000000000000000000000000000000000000000000000000000000000000 : Int)).map V.int := by
          rw [List.length_map, hst, show (((p + 1 : Nat) : Int) - 1).toNat = p by omega, List.map_replicate, show (10 : Int) ^ Int.toNat 60 = 1000000000000000000000000000000000000000000000000000000000000 by decide +kernel]
          exact List.flatten_replicate_singleton
        rw [ez]
        have t2 : Same H6 (upd H6 q2 (.tup ((List.replicate p (1000000000000000000000000000000000000000000000000000000000000 : Int)).map V.int))) := Same.new n2
        have e2 : upd H6 q2 (.tup ((List.replicate p (1000000000000000000000000000000000000000000000000000000000000 : Int)).map V.int)) q2 = some (.tup ((List.replicate p (1000000000000000000000000000000000000000000000000000000000000 : Int)).map V.int)) := upd_same
        generalize upd H6 q2 (.tup ((List.replicate p (1000000000000000000000000000000000000000000000000000000000000 : Int)).map V.int)) = H7 at t2 e2 ⊢
        refine ⟨(by show 1 ≤ sizeLine; decide), fun q3 n3 => ?_⟩
        have t3 : Same H7 (upd H7 q3 (.tup [.int 0])) := Same.new n3
        have e3 : upd H7 q3 (.tup [.int 0]) q3 = some (.tup [.int 0]) := upd_same
        generalize upd H7 q3 (.tup [.int 0]) = H8 at t3 e3 ⊢
        refine catE_of (t3 _ _ e2) e3 (by simp; omega) fun gd H9 t4 e4 => ?_
        have eg : (List.replicate p (1000000000000000000000000000000000000000000000000000000000000 : Int)).map V.int ++ [V.int 0] = (List.replicate p (1000000000000000000000000000000000000000000000000000000000000 : Int) ++ [0]).map V.int := by simp
        rw [eg] at e4
        refine ⟨(by show 2 ≤ sizeLine; decide), fun ls nls => ?_⟩
        have t5 : Same H9 (upd H9 ls (.lst (([sa, gd] : List Addr).map V.ref))) := Same.new nls
        have e5 : upd H9 ls (.lst (([sa, gd] : List Addr).map V.ref)) ls = some (.lst (([sa, gd] : List Addr).map V.ref)) := upd_same
        have t14 := ((t1.trans t2).trans t3).trans t4
        have hgood : ∀ r ∈ ([sa, gd] : List Addr), ∃ st', upd H9 ls (.lst (([sa, gd] : List Addr).map V.ref)) r = some (.tup (st'.map V.int)) ∧ Stand p st' := fun r hr' => by
          rcases List.mem_cons.mp hr' with rfl | hr'
          · exact ⟨st, t5 _ _ (t14 _ _ hsa5), S⟩
          · rw [List.mem_singleton.mp hr']
            exact ⟨_, t5 _ _ e4, stand_big p2 p7⟩
        refine ⟨ls, rfl, ⟨_, SqL.of e5⟩, ?_⟩
        show ∃ W : Nat → Nat → St → Hp → Prop, (∃ m, W 0 m _ (upd H9 ls (.lst (([sa, gd] : List Addr).map V.ref)))) ∧ _
        generalize ([sa, gd] : List Addr) = gs at t5 e5 hgood ⊢
        generalize upd H9 ls (.lst (gs.map V.ref)) = H10 at t5 e5 hgood ⊢
        refine for_list (K := K) (xs := gs.map V.ref) (fun j σ H11 => ∃ o4 o5 o6 o7 : Option V, σ = [some (.ref a), some (.int (0 + (i : Int))), some (.ref pl), some (.ref sa), o4, o5, o6, o7] ∧ Same H10 H11) ⟨_, _, _, _, rfl, Same.refl _⟩ (fun j σ H11 _ z => by obtain ⟨_, _, _, _, _, sz⟩ := z; exact SqL.of (sz _ _ e5)) ?_ ?_
        · rintro j x σ H11 hx ⟨o4'', o5'', o6'', o7'', rfl, s11⟩
          obtain ⟨r, hr', rfl⟩ := refGet18 hx
          obtain ⟨st', hst', S'⟩ := hgood r (List.mem_of_getElem? hr')
          refine ⟨4, rfl, by decide, by decide, ?_⟩
          refine comp_range (fun acc m H12 => Same H11 H12 ∧ H12 acc = some (.lst ((([1, 1, 3, 3] : List Int).take m).map V.int))) (fun acc h0 => ⟨Same.new h0, upd_same⟩) ?_ ?_
          · rintro acc m H12 h0 hm ⟨s12, hacc⟩
            have hm4 : m < 4 := hm
            refine ⟨_, rfl, _, rfl, m, .ref r, (by rw [Int.zero_add]; rfl), by omega, .inr ⟨r, p, st', rfl, s12 _ _ (s11 _ _ hst'), S', fun H13 s13 => ?_⟩⟩
            refine ⟨_, s13 _ _ hacc, ?_, hm, (s12.trans s13).put h0, ?_⟩
            · rw [List.length_map, List.length_take]
              exact Nat.lt_of_le_of_lt (show _ ≤ 4 by omega) (by decide)
            · rw [upd_same]
              rcases (show m = 0 ∨ m = 1 ∨ m = 2 ∨ m = 3 by omega) with rfl | rfl | rfl | rfl <;> rfl
          · rintro acc H12 h0 ⟨s12, hacc⟩
            refine ⟨(by show 4 ≤ sizeLine; decide), fun lw nw => ?_⟩
            refine ⟨acc, lw, [1, 1, 3, 3], [1, 1, 3, 3], rfl, rfl, SqL.of ((Same.new nw) _ _ hacc), SqL.of upd_same, _, rfl, ?_⟩
            rw [decide_eq_true rfl]
            exact iteF ⟨_, _, _, _, rfl, (s11.trans s12).trans (Same.new nw)⟩
        · rintro σ H11 ⟨o4'', o5'', o6'', o7'', rfl, s11⟩
          exact ⟨_, _, _, _, _, _, _, rfl, Sm.after (s2.trans s3) ((sm4.trans sm5).trans (Sm.of ((t14.trans t5).trans s11))) hplH⟩
    · rintro σ H2 _
      exact k H2

end
end Fi18

set_option Elab.async false
set_option linter.all false
set_option maxRecDepth 100000
set_option maxHeartbeats 4000000
namespace Fi18
open PySem L2 Lv

theorem len1 {P : List Value → Prop} (us : List Value) (hl : us.length = 1) (h : ∀ a0 : Value, P [a0]) : P us := by
  match us, hl with
  | [a0], _ => exact h a0
theorem len2 {P : List Value → Prop} (us : List Value) (hl : us.length = 2) (h : ∀ a0 a1 : Value, P [a0, a1]) : P us := by
  match us, hl with
  | [a0, a1], _ => exact h a0 a1
theorem len3 {P : List Value → Prop} (us : List Value) (hl : us.length = 3) (h : ∀ a0 a1 a2 : Value, P [a0, a1, a2]) : P us := by
  match us, hl with
  | [a0, a1, a2], _ => exact h a0 a1 a2
theorem all_mk {l : PySem.W.OpenLaw} {w : World} {K : PySem.W.Frag} {h : Heap} {mg : Str → Option Value} {fa f0 f1 f2 f3 f4 f5 f6 f7 f8 f9 f10 f11 f12 f13 f14 f15 f16 f17 f18 f19 f20 f21 f22 f23 f24 f25 f26 f27 f28 : Addr} {tk0 tk1 tk2 : Tok} (X : K.In h) (G : h.Ns mainGlobals mg) (hfa : mg "law" = some (.ref fa))
    {od0 an0 od1 an1 od2 an2 od3 an3 od4 an4 od5 an5 od6 an6 od7 an7 od8 an8 od9 an9 od10 an10 od11 an11 od12 an12 od13 an13 od14 an14 od15 an15 od16 an16 od17 an17 od18 an18 od19 an19 od20 an20 od21 an21 od22 an22 od23 an23 od24 an24 od25 an25 od26 an26 od27 an27 od28 an28 : Option Addr} {sl0 sl1 sl2 sl3 sl4 sl5 sl6 sl7 sl8 sl9 sl10 sl11 sl12 sl13 sl14 sl15 sl16 sl17 sl18 sl19 sl20 sl21 sl22 sl23 sl24 sl25 sl26 sl27 sl28 : Array (Option Value)} {oc0 kV0 dc0 pm0 cd0 ct0 oc1 kV1 dc1 pm1 cd1 ct1 oc2 kV2 dc2 pm2 cd2 ct2 oc3 kV3 dc3 pm3 cd3 ct3 oc4 kV4 dc4 pm4 cd4 ct4 oc5 kV5 dc5 pm5 cd5 ct5 oc6 kV6 dc6 pm6 cd6 ct6 oc7 kV7 dc7 pm7 cd7 ct7 oc8 kV8 dc8 pm8 cd8 ct8 oc9 kV9 dc9 pm9 cd9 ct9 oc10 kV10 dc10 pm10 cd10 ct10 oc11 kV11 dc11 pm11 cd11 ct11 oc12 kV12 dc12 pm12 cd12 ct12 oc13 kV13 dc13 pm13 cd13 ct13 oc14 kV14 dc14 pm14 cd14 ct14 oc15 kV15 dc15 pm15 cd15 ct15 oc16 kV16 dc16 pm16 cd16 ct16 oc17 kV17 dc17 pm17 cd17 ct17 oc18 kV18 dc18 pm18 cd18 ct18 oc19 kV19 dc19 pm19 cd19 ct19 oc20 kV20 dc20 pm20 cd20 ct20 oc21 kV21 dc21 pm21 cd21 ct21 oc22 kV22 dc22 pm22 cd22 ct22 oc23 kV23 dc23 pm23 cd23 ct23 oc24 kV24 dc24 pm24 cd24 ct24 oc25 kV25 dc25 pm25 cd25 ct25 oc26 kV26 dc26 pm26 cd26 ct26 oc27 kV27 dc27 pm27 cd27 ct27 oc28 kV28 dc28 pm28 cd28 ct28 : Value}
    (a0 : PySem.W.nsIn K mainGlobals "is_whole" = some (some (.ref f0))) (l0 : K.lookup f0 = some ⟨oc0, od0, .func (PySem.W.fnOf "is_whole" "is_whole" (defArgs sWhole) (defBody sWhole) (defScope sWhole) .none kV0 dc0 pm0 an0 cd0 ct0), sl0⟩) (c0 : PySem.W.codeIn K cd0 "is_whole" = true) (k0 : PySem.W.keepIn K (.ref f0) = true)
    (a1 : PySem.W.nsIn K mainGlobals "is_place" = some (some (.ref f1))) (l1 : K.lookup f1 = some ⟨oc1, od1, .func (PySem.W.fnOf "is_place" "is_place" (defArgs sPlace) (defBody sPlace) (defScope sPlace) .none kV1 dc1 pm1 an1 cd1 ct1), sl1⟩) (c1 : PySem.W.codeIn K cd1 "is_place" = true) (k1 : PySem.W.keepIn K (.ref f1) = true)
    (a2 : PySem.W.nsIn K mainGlobals "is_listed" = some (some (.ref f2))) (l2 : K.lookup f2 = some ⟨oc2, od2, .func (PySem.W.fnOf "is_listed" "is_listed" (defArgs sListed) (defBody sListed) (defScope sListed) .none kV2 dc2 pm2 an2 cd2 ct2), sl2⟩) (c2 : PySem.W.codeIn K cd2 "is_listed" = true) (k2 : PySem.W.keepIn K (.ref f2) = true)
    (a3 : PySem.W.nsIn K mainGlobals "is_tuple_of" = some (some (.ref f3))) (l3 : K.lookup f3 = some ⟨oc3, od3, .func (PySem.W.fnOf "is_tuple_of" "is_tuple_of" (defArgs sTupOf) (defBody sTupOf) (defScope sTupOf) .none kV3 dc3 pm3 an3 cd3 ct3), sl3⟩) (c3 : PySem.W.codeIn K cd3 "is_tuple_of" = true) (k3 : PySem.W.keepIn K (.ref f3) = true)
    (a4 : PySem.W.nsIn K mainGlobals "first_counts" = some (some (.ref f4))) (l4 : K.lookup f4 = some ⟨oc4, od4, .func (PySem.W.fnOf "first_counts" "first_counts" (defArgs sFirst) (defBody sFirst) (defScope sFirst) .none kV4 dc4 pm4 an4 cd4 ct4), sl4⟩) (c4 : PySem.W.codeIn K cd4 "first_counts" = true) (k4 : PySem.W.keepIn K (.ref f4) = true)
    (a5 : PySem.W.nsIn K mainGlobals "next_counts" = some (some (.ref f5))) (l5 : K.lookup f5 = some ⟨oc5, od5, .func (PySem.W.fnOf "next_counts" "next_counts" (defArgs sNext) (defBody sNext) (defScope sNext) .none kV5 dc5 pm5 an5 cd5 ct5), sl5⟩) (c5 : PySem.W.codeIn K cd5 "next_counts" = true) (k5 : PySem.W.keepIn K (.ref f5) = true)
    (a6 : PySem.W.nsIn K mainGlobals "is_standing" = some (some (.ref f6))) (l6 : K.lookup f6 = some ⟨oc6, od6, .func (PySem.W.fnOf "is_standing" "is_standing" (defArgs sIsSt) (defBody sIsSt) (defScope sIsSt) .none kV6 dc6 pm6 an6 cd6 ct6), sl6⟩) (c6 : PySem.W.codeIn K cd6 "is_standing" = true) (k6 : PySem.W.keepIn K (.ref f6) = true)
    (a7 : PySem.W.nsIn K mainGlobals "check_standing" = some (some (.ref f7))) (l7 : K.lookup f7 = some ⟨oc7, od7, .func (PySem.W.fnOf "check_standing" "check_standing" (defArgs sChkSt) (defBody sChkSt) (defScope sChkSt) .none kV7 dc7 pm7 an7 cd7 ct7), sl7⟩) (c7 : PySem.W.codeIn K cd7 "check_standing" = true) (k7 : PySem.W.keepIn K (.ref f7) = true)
    (a8 : PySem.W.nsIn K mainGlobals "is_phase" = some (some (.ref f8))) (l8 : K.lookup f8 = some ⟨oc8, od8, .func (PySem.W.fnOf "is_phase" "is_phase" (defArgs sIsPh) (defBody sIsPh) (defScope sIsPh) .none kV8 dc8 pm8 an8 cd8 ct8), sl8⟩) (c8 : PySem.W.codeIn K cd8 "is_phase" = true) (k8 : PySem.W.keepIn K (.ref f8) = true)
    (a9 : PySem.W.nsIn K mainGlobals "counts_behind" = some (some (.ref f9))) (l9 : K.lookup f9 = some ⟨oc9, od9, .func (PySem.W.fnOf "counts_behind" "counts_behind" (defArgs sBeh) (defBody sBeh) (defScope sBeh) .none kV9 dc9 pm9 an9 cd9 ct9), sl9⟩) (c9 : PySem.W.codeIn K cd9 "counts_behind" = true) (k9 : PySem.W.keepIn K (.ref f9) = true)
    (a10 : PySem.W.nsIn K mainGlobals "phase_done" = some (some (.ref f10))) (l10 : K.lookup f10 = some ⟨oc10, od10, .func (PySem.W.fnOf "phase_done" "phase_done" (defArgs sPhDone) (defBody sPhDone) (defScope sPhDone) .none kV10 dc10 pm10 an10 cd10 ct10), sl10⟩) (c10 : PySem.W.codeIn K cd10 "phase_done" = true) (k10 : PySem.W.keepIn K (.ref f10) = true)
    (a11 : PySem.W.nsIn K mainGlobals "plan_done" = some (some (.ref f11))) (l11 : K.lookup f11 = some ⟨oc11, od11, .func (PySem.W.fnOf "plan_done" "plan_done" (defArgs sPlDone) (defBody sPlDone) (defScope sPlDone) .none kV11 dc11 pm11 an11 cd11 ct11), sl11⟩) (c11 : PySem.W.codeIn K cd11 "plan_done" = true) (k11 : PySem.W.keepIn K (.ref f11) = true)
    (a12 : PySem.W.nsIn K mainGlobals "ranked" = some (some (.ref f12))) (l12 : K.lookup f12 = some ⟨oc12, od12, .func (PySem.W.fnOf "ranked" "ranked" (defArgs sRk) (defBody sRk) (defScope sRk) .none kV12 dc12 pm12 an12 cd12 ct12), sl12⟩) (c12 : PySem.W.codeIn K cd12 "ranked" = true) (k12 : PySem.W.keepIn K (.ref f12) = true)
    (a13 : PySem.W.nsIn K mainGlobals "covers" = some (some (.ref f13))) (l13 : K.lookup f13 = some ⟨oc13, od13, .func (PySem.W.fnOf "covers" "covers" (defArgs sCovers) (defBody sCovers) (defScope sCovers) .none kV13 dc13 pm13 an13 cd13 ct13), sl13⟩) (c13 : PySem.W.codeIn K cd13 "covers" = true) (k13 : PySem.W.keepIn K (.ref f13) = true)
    (a14 : PySem.W.nsIn K mainGlobals "levels_to" = some (some (.ref f14))) (l14 : K.lookup f14 = some ⟨oc14, od14, .func (PySem.W.fnOf "levels_to" "levels_to" (defArgs sLvTo) (defBody sLvTo) (defScope sLvTo) .none kV14 dc14 pm14 an14 cd14 ct14), sl14⟩) (c14 : PySem.W.codeIn K cd14 "levels_to" = true) (k14 : PySem.W.keepIn K (.ref f14) = true)
    (a15 : PySem.W.nsIn K mainGlobals "plan_by" = some (some (.ref f15))) (l15 : K.lookup f15 = some ⟨oc15, od15, .func (PySem.W.fnOf "plan_by" "plan_by" (defArgs sPlan) (defBody sPlan) (defScope sPlan) .none kV15 dc15 pm15 an15 cd15 ct15), sl15⟩) (c15 : PySem.W.codeIn K cd15 "plan_by" = true) (k15 : PySem.W.keepIn K (.ref f15) = true)
    (a16 : PySem.W.nsIn K mainGlobals "is_bar" = some (some (.ref f16))) (l16 : K.lookup f16 = some ⟨oc16, od16, .func (PySem.W.fnOf "is_bar" "is_bar" (defArgs sIsBar) (defBody sIsBar) (defScope sIsBar) .none kV16 dc16 pm16 an16 cd16 ct16), sl16⟩) (c16 : PySem.W.codeIn K cd16 "is_bar" = true) (k16 : PySem.W.keepIn K (.ref f16) = true)
    (a17 : PySem.W.nsIn K mainGlobals "first_bar" = some (some (.ref f17))) (l17 : K.lookup f17 = some ⟨oc17, od17, .func (PySem.W.fnOf "first_bar" "first_bar" (defArgs sBar) (defBody sBar) (defScope sBar) .none kV17 dc17 pm17 an17 cd17 ct17), sl17⟩) (c17 : PySem.W.codeIn K cd17 "first_bar" = true) (k17 : PySem.W.keepIn K (.ref f17) = true)
    (a18 : PySem.W.nsIn K mainGlobals "fewest_phases" = some (some (.ref f18))) (l18 : K.lookup f18 = some ⟨oc18, od18, .func (PySem.W.fnOf "fewest_phases" "fewest_phases" (defArgs sFew) (defBody sFew) (defScope sFew) .none kV18 dc18 pm18 an18 cd18 ct18), sl18⟩) (c18 : PySem.W.codeIn K cd18 "fewest_phases" = true) (k18 : PySem.W.keepIn K (.ref f18) = true)
    (a19 : PySem.W.nsIn K mainGlobals "is_plan" = some (some (.ref f19))) (l19 : K.lookup f19 = some ⟨oc19, od19, .func (PySem.W.fnOf "is_plan" "is_plan" (defArgs sIsPl) (defBody sIsPl) (defScope sIsPl) .none kV19 dc19 pm19 an19 cd19 ct19), sl19⟩) (c19 : PySem.W.codeIn K cd19 "is_plan" = true) (k19 : PySem.W.keepIn K (.ref f19) = true)
    (a20 : PySem.W.nsIn K mainGlobals "phases_right" = some (some (.ref f20))) (l20 : K.lookup f20 = some ⟨oc20, od20, .func (PySem.W.fnOf "phases_right" "phases_right" (defArgs sPhR) (defBody sPhR) (defScope sPhR) .none kV20 dc20 pm20 an20 cd20 ct20), sl20⟩) (c20 : PySem.W.codeIn K cd20 "phases_right" = true) (k20 : PySem.W.keepIn K (.ref f20) = true)
    (a21 : PySem.W.nsIn K mainGlobals "_law_pool" = some (some (.ref f21))) (l21 : K.lookup f21 = some ⟨oc21, od21, .func (PySem.W.fnOf "_law_pool" "_law_pool" (defArgs sPool) (defBody sPool) (defScope sPool) .none kV21 dc21 pm21 an21 cd21 ct21), sl21⟩) (c21 : PySem.W.codeIn K cd21 "_law_pool" = true) (k21 : PySem.W.keepIn K (.ref f21) = true)
    (a22 : PySem.W.nsIn K mainGlobals "_law_take" = some (some (.ref f22))) (l22 : K.lookup f22 = some ⟨oc22, od22, .func (PySem.W.fnOf "_law_take" "_law_take" (defArgs sTake) (defBody sTake) (defScope sTake) .none kV22 dc22 pm22 an22 cd22 ct22), sl22⟩) (c22 : PySem.W.codeIn K cd22 "_law_take" = true) (k22 : PySem.W.keepIn K (.ref f22) = true)
    (a23 : PySem.W.nsIn K mainGlobals "_law_counts" = some (some (.ref f23))) (l23 : K.lookup f23 = some ⟨oc23, od23, .func (PySem.W.fnOf "_law_counts" "_law_counts" (defArgs sLCounts) (defBody sLCounts) (defScope sLCounts) .none kV23 dc23 pm23 an23 cd23 ct23), sl23⟩) (c23 : PySem.W.codeIn K cd23 "_law_counts" = true) (k23 : PySem.W.keepIn K (.ref f23) = true)
    (a24 : PySem.W.nsIn K mainGlobals "_law_great" = some (some (.ref f24))) (l24 : K.lookup f24 = some ⟨oc24, od24, .func (PySem.W.fnOf "_law_great" "_law_great" (defArgs sGreat) (defBody sGreat) (defScope sGreat) .none kV24 dc24 pm24 an24 cd24 ct24), sl24⟩) (c24 : PySem.W.codeIn K cd24 "_law_great" = true) (k24 : PySem.W.keepIn K (.ref f24) = true)
    (a25 : PySem.W.nsIn K mainGlobals "_law_standing" = some (some (.ref f25))) (l25 : K.lookup f25 = some ⟨oc25, od25, .func (PySem.W.fnOf "_law_standing" "_law_standing" (defArgs sStand) (defBody sStand) (defScope sStand) .none kV25 dc25 pm25 an25 cd25 ct25), sl25⟩) (c25 : PySem.W.codeIn K cd25 "_law_standing" = true) (k25 : PySem.W.keepIn K (.ref f25) = true)
    (a26 : PySem.W.nsIn K mainGlobals "_law_kind" = some (some (.ref f26))) (l26 : K.lookup f26 = some ⟨oc26, od26, .func (PySem.W.fnOf "_law_kind" "_law_kind" (defArgs sKind18) (defBody sKind18) (defScope sKind18) .none kV26 dc26 pm26 an26 cd26 ct26), sl26⟩) (c26 : PySem.W.codeIn K cd26 "_law_kind" = true) (k26 : PySem.W.keepIn K (.ref f26) = true)
    (a27 : PySem.W.nsIn K mainGlobals "_law_odd" = some (some (.ref f27))) (l27 : K.lookup f27 = some ⟨oc27, od27, .func (PySem.W.fnOf "_law_odd" "_law_odd" (defArgs sOdd18) (defBody sOdd18) (defScope sOdd18) .none kV27 dc27 pm27 an27 cd27 ct27), sl27⟩) (c27 : PySem.W.codeIn K cd27 "_law_odd" = true) (k27 : PySem.W.keepIn K (.ref f27) = true)
    (a28 : PySem.W.nsIn K mainGlobals "law" = some (some (.ref f28))) (l28 : K.lookup f28 = some ⟨oc28, od28, .func (PySem.W.fnOf "law" "law" (defArgs sLaw) (defBody sLaw) (defScope sLaw) .none kV28 dc28 pm28 an28 cd28 ct28), sl28⟩) (c28 : PySem.W.codeIn K cd28 "law" = true) (k28 : PySem.W.keepIn K (.ref f28) = true)
    (y0 : PySem.W.nsIn K mainGlobals "LEAST_WAYS" = some (some (.int 2 tk0)))
    (y1 : PySem.W.nsIn K mainGlobals "MOST_WAYS" = some (some (.int 7 tk1)))
    (y2 : PySem.W.nsIn K mainGlobals "MOST_ROWS" = some (some (.int 1000000000000000000000000000000000000000000000000000000000000 tk2)))
    {ec0 ec1 ec2 ec3 ec4 ec5 ec6 ec7 ec8 ec9 ec10 ec11 ec12 : Addr}
    (ex0 : PySem.W.nsIn K mainGlobals "ReelError" = some (some (.ref ec0)))
    (ex1 : PySem.W.nsIn K mainGlobals "NoWays" = some (some (.ref ec1)))
    (ex2 : PySem.W.nsIn K mainGlobals "NoRoom" = some (some (.ref ec2)))
    (ex3 : PySem.W.nsIn K mainGlobals "NoLevel" = some (some (.ref ec3)))
    (ex4 : PySem.W.nsIn K mainGlobals "NoStanding" = some (some (.ref ec4)))
    (ex5 : PySem.W.nsIn K mainGlobals "TooMany" = some (some (.ref ec5)))
    (ex6 : PySem.W.nsIn K mainGlobals "TooFew" = some (some (.ref ec6)))
    (ex7 : PySem.W.nsIn K mainGlobals "NoPlace" = some (some (.ref ec7)))
    (ex8 : PySem.W.nsIn K mainGlobals "NoText" = some (some (.ref ec8)))
    (ex9 : PySem.W.nsIn K mainGlobals "NoLine" = some (some (.ref ec9)))
    (ex10 : PySem.W.nsIn K mainGlobals "NoBack" = some (some (.ref ec10)))
    (ex11 : PySem.W.nsIn K mainGlobals "NoPhase" = some (some (.ref ec11)))
    (ex12 : PySem.W.nsIn K mainGlobals "Clash" = some (some (.ref ec12)))
    (exnd : ([ec1, ec2, ec3, ec4, ec5, ec6, ec7, ec8, ec9, ec10, ec11, ec12] : List Addr).Nodup)
    (etNoStanding : excTab K ec0 ec4 [ec1, ec2, ec3, ec4, ec5, ec6, ec7, ec8, ec9, ec10, ec11, ec12] = true)
    {fiNoPhase : Addr} {odiNoPhase aniNoPhase : Option Addr} {sliNoPhase : Array (Option Value)} {ociNoPhase kViNoPhase dciNoPhase pmiNoPhase cdiNoPhase ctiNoPhase : Value}
    (aiNoPhase : PySem.W.findIn K (.ref ec11) "__init__" = some (some (.ref fiNoPhase))) (liNoPhase : K.lookup fiNoPhase = some ⟨ociNoPhase, odiNoPhase, .func (PySem.W.fnOf "__init__" "NoPhase.__init__" (defArgs sInit) (defBody sInit) (defScope sInit) .none kViNoPhase dciNoPhase pmiNoPhase aniNoPhase cdiNoPhase ctiNoPhase), sliNoPhase⟩) (ciNoPhase : PySem.W.codeIn K cdiNoPhase "NoPhase.__init__" = true) (kiNoPhase : PySem.W.keepIn K (.ref fiNoPhase) = true)
    (etiNoPhase : excTabI K ec0 ec11 fiNoPhase [ec1, ec2, ec3, ec4, ec5, ec6, ec7, ec8, ec9, ec10, ec11, ec12] = true)
    (z0 : PySem.W.nsIn K mainGlobals "isinstance" = some none) (z1 : PySem.W.nsIn K mainGlobals "int" = some none) (z2 : PySem.W.nsIn K mainGlobals "bool" = some none) (z3 : PySem.W.nsIn K mainGlobals "list" = some none) (z4 : PySem.W.nsIn K mainGlobals "tuple" = some none) (z5 : PySem.W.nsIn K mainGlobals "min" = some none) (z6 : PySem.W.nsIn K mainGlobals "max" = some none) (z7 : PySem.W.nsIn K mainGlobals "len" = some none) (z8 : PySem.W.nsIn K mainGlobals "range" = some none) (z9 : PySem.W.nsIn K mainGlobals "all" = some none) (z10 : PySem.W.nsIn K mainGlobals "sum" = some none) (z11 : PySem.W.nsIn K mainGlobals "sorted" = some none) (z12 : PySem.W.nsIn K mainGlobals "zip" = some none) (zenumerate : PySem.W.nsIn K mainGlobals "enumerate" = some none) (zreversed : PySem.W.nsIn K mainGlobals "reversed" = some none) (zValueError : PySem.W.nsIn K mainGlobals "ValueError" = some none) :
    ∃ fd : FuncData, (∀ (s : Shared) (v : Value), BindsTo s fd ⟨[v], []⟩ [("script", v)]) ∧ ∀ base : Heap, K.In base → base.Ns mainGlobals mg → FnOk l.prog w K mg base CX0 8 fa fd ["script"] (spLaw K) := by
  have e := hfa.symm.trans (PySem.W.mg_of X G a28)
  cases e
  have T : Txt mg := ⟨PySem.W.mg_none_of X G z0, PySem.W.mg_none_of X G z1, PySem.W.mg_none_of X G z2, PySem.W.mg_none_of X G z3, PySem.W.mg_none_of X G z4, PySem.W.mg_none_of X G z5, PySem.W.mg_none_of X G z6, PySem.W.mg_none_of X G z7, PySem.W.mg_none_of X G z8, PySem.W.mg_none_of X G z9, PySem.W.mg_none_of X G z10, PySem.W.mg_none_of X G z11, PySem.W.mg_none_of X G z12⟩
  have F0 := fun_mk (st := sWhole) l0 c0 k0
  have b0 := F0.binds (ps := ["thing"]) fun _ _ _ _ _ _ us hl => @len1 (fun us => bindArgs _ ⟨us, []⟩ = pure (List.zip _ us)) us hl fun _ => rfl
  have F1 := fun_mk (st := sPlace) l1 c1 k1
  have b1 := F1.binds (ps := ["thing", "many"]) fun _ _ _ _ _ _ us hl => @len2 (fun us => bindArgs _ ⟨us, []⟩ = pure (List.zip _ us)) us hl fun _ _ => rfl
  have F2 := fun_mk (st := sListed) l2 c2 k2
  have b2 := F2.binds (ps := ["thing"]) fun _ _ _ _ _ _ us hl => @len1 (fun us => bindArgs _ ⟨us, []⟩ = pure (List.zip _ us)) us hl fun _ => rfl
  have F3 := fun_mk (st := sTupOf) l3 c3 k3
  have b3 := F3.binds (ps := ["thing", "many"]) fun _ _ _ _ _ _ us hl => @len2 (fun us => bindArgs _ ⟨us, []⟩ = pure (List.zip _ us)) us hl fun _ _ => rfl
  have F4 := fun_mk (st := sFirst) l4 c4 k4
  have b4 := F4.binds (ps := ["p"]) fun _ _ _ _ _ _ us hl => @len1 (fun us => bindArgs _ ⟨us, []⟩ = pure (List.zip _ us)) us hl fun _ => rfl
  have F5 := fun_mk (st := sNext) l5 c5 k5
  have b5 := F5.binds (ps := ["counts"]) fun _ _ _ _ _ _ us hl => @len1 (fun us => bindArgs _ ⟨us, []⟩ = pure (List.zip _ us)) us hl fun _ => rfl
  have F6 := fun_mk (st := sIsSt) l6 c6 k6
  have b6 := F6.binds (ps := ["thing"]) fun _ _ _ _ _ _ us hl => @len1 (fun us => bindArgs _ ⟨us, []⟩ = pure (List.zip _ us)) us hl fun _ => rfl
  have F7 := fun_mk (st := sChkSt) l7 c7 k7
  have b7 := F7.binds (ps := ["standing"]) fun _ _ _ _ _ _ us hl => @len1 (fun us => bindArgs _ ⟨us, []⟩ = pure (List.zip _ us)) us hl fun _ => rfl
  have F8 := fun_mk (st := sIsPh) l8 c8 k8
  have b8 := F8.binds (ps := ["counts", "phase"]) fun _ _ _ _ _ _ us hl => @len2 (fun us => bindArgs _ ⟨us, []⟩ = pure (List.zip _ us)) us hl fun _ _ => rfl
  have F9 := fun_mk (st := sBeh) l9 c9 k9
  have b9 := F9.binds (ps := ["counts", "phase"]) fun _ _ _ _ _ _ us hl => @len2 (fun us => bindArgs _ ⟨us, []⟩ = pure (List.zip _ us)) us hl fun _ _ => rfl
  have F10 := fun_mk (st := sPhDone) l10 c10 k10
  have b10 := F10.binds (ps := ["standing", "phase"]) fun _ _ _ _ _ _ us hl => @len2 (fun us => bindArgs _ ⟨us, []⟩ = pure (List.zip _ us)) us hl fun _ _ => rfl
  have F11 := fun_mk (st := sPlDone) l11 c11 k11
  have b11 := F11.binds (ps := ["standing", "plan"]) fun _ _ _ _ _ _ us hl => @len2 (fun us => bindArgs _ ⟨us, []⟩ = pure (List.zip _ us)) us hl fun _ _ => rfl
  have F12 := fun_mk (st := sRk) l12 c12 k12
  have b12 := F12.binds (ps := ["standing"]) fun _ _ _ _ _ _ us hl => @len1 (fun us => bindArgs _ ⟨us, []⟩ = pure (List.zip _ us)) us hl fun _ => rfl
  have F13 := fun_mk (st := sCovers) l13 c13 k13
  have b13 := F13.binds (ps := ["level", "counts"]) fun _ _ _ _ _ _ us hl => @len2 (fun us => bindArgs _ ⟨us, []⟩ = pure (List.zip _ us)) us hl fun _ _ => rfl
  have F14 := fun_mk (st := sLvTo) l14 c14 k14
  have b14 := F14.binds (ps := ["standing"]) fun _ _ _ _ _ _ us hl => @len1 (fun us => bindArgs _ ⟨us, []⟩ = pure (List.zip _ us)) us hl fun _ => rfl
  have F15 := fun_mk (st := sPlan) l15 c15 k15
  have b15 := F15.binds (ps := ["levels", "standing"]) fun _ _ _ _ _ _ us hl => @len2 (fun us => bindArgs _ ⟨us, []⟩ = pure (List.zip _ us)) us hl fun _ _ => rfl
  have F16 := fun_mk (st := sIsBar) l16 c16 k16
  have b16 := F16.binds (ps := ["level", "standing", "bar"]) fun _ _ _ _ _ _ us hl => @len3 (fun us => bindArgs _ ⟨us, []⟩ = pure (List.zip _ us)) us hl fun _ _ _ => rfl
  have F17 := fun_mk (st := sBar) l17 c17 k17
  have b17 := F17.binds (ps := ["level", "standing"]) fun _ _ _ _ _ _ us hl => @len2 (fun us => bindArgs _ ⟨us, []⟩ = pure (List.zip _ us)) us hl fun _ _ => rfl
  have F18 := fun_mk (st := sFew) l18 c18 k18
  have b18 := F18.binds (ps := ["standing"]) fun _ _ _ _ _ _ us hl => @len1 (fun us => bindArgs _ ⟨us, []⟩ = pure (List.zip _ us)) us hl fun _ => rfl
  have F19 := fun_mk (st := sIsPl) l19 c19 k19
  have b19 := F19.binds (ps := ["standing", "plan"]) fun _ _ _ _ _ _ us hl => @len2 (fun us => bindArgs _ ⟨us, []⟩ = pure (List.zip _ us)) us hl fun _ _ => rfl
  have F20 := fun_mk (st := sPhR) l20 c20 k20
  have b20 := F20.binds (ps := ["standing", "told"]) fun _ _ _ _ _ _ us hl => @len2 (fun us => bindArgs _ ⟨us, []⟩ = pure (List.zip _ us)) us hl fun _ _ => rfl
  have F21 := fun_mk (st := sPool) l21 c21 k21
  have b21 := F21.binds (ps := ["script", "k"]) fun _ _ _ _ _ _ us hl => @len2 (fun us => bindArgs _ ⟨us, []⟩ = pure (List.zip _ us)) us hl fun _ _ => rfl
  have F22 := fun_mk (st := sTake) l22 c22 k22
  have b22 := F22.binds (ps := ["pool", "many"]) fun _ _ _ _ _ _ us hl => @len2 (fun us => bindArgs _ ⟨us, []⟩ = pure (List.zip _ us)) us hl fun _ _ => rfl
  have F23 := fun_mk (st := sLCounts) l23 c23 k23
  have b23 := F23.binds (ps := ["p", "n"]) fun _ _ _ _ _ _ us hl => @len2 (fun us => bindArgs _ ⟨us, []⟩ = pure (List.zip _ us)) us hl fun _ _ => rfl
  have F24 := fun_mk (st := sGreat) l24 c24 k24
  have b24 := F24.binds (ps := ["pool"]) fun _ _ _ _ _ _ us hl => @len1 (fun us => bindArgs _ ⟨us, []⟩ = pure (List.zip _ us)) us hl fun _ => rfl
  have F25 := fun_mk (st := sStand) l25 c25 k25
  have b25 := F25.binds (ps := ["pool"]) fun _ _ _ _ _ _ us hl => @len1 (fun us => bindArgs _ ⟨us, []⟩ = pure (List.zip _ us)) us hl fun _ => rfl
  have F26 := fun_mk (st := sKind18) l26 c26 k26
  have b26 := F26.binds (ps := ["way", "thing"]) fun _ _ _ _ _ _ us hl => @len2 (fun us => bindArgs _ ⟨us, []⟩ = pure (List.zip _ us)) us hl fun _ _ => rfl
  have F27 := fun_mk (st := sOdd18) l27 c27 k27
  have b27 := F27.binds (ps := ["pool", "standing"]) fun _ _ _ _ _ _ us hl => @len2 (fun us => bindArgs _ ⟨us, []⟩ = pure (List.zip _ us)) us hl fun _ _ => rfl
  have F28 := fun_mk (st := sLaw) l28 c28 k28
  refine ⟨PySem.W.fnOf "law" "law" (defArgs sLaw) (defBody sLaw) (defScope sLaw) .none kV28 dc28 pm28 an28 cd28 ct28, fun s v => .of_eq rfl, fun base _ _ => ?_⟩
  have m := fun {x : Str} {v : Value} (a : PySem.W.nsIn K mainGlobals x = some (some v)) => PySem.W.mg_of X G a
  have mLEAST_WAYS := m y0
  have mMOST_WAYS := m y1
  have mMOST_ROWS := m y2
  let XX : Excs K mg := ⟨ec0, ec1, ec2, ec3, ec4, ec5, ec6, ec7, ec8, ec9, ec10, ec11, ec12, m ex0, m ex1, m ex2, m ex3, m ex4, m ex5, m ex6, m ex7, m ex8, m ex9, m ex10, m ex11, m ex12, exnd⟩
  have tabNoStanding : ExcTab K XX.reel XX.nStand XX.all := ExcTab.of etNoStanding
  have tabNoPhase : ExcTabI K XX.reel XX.nPhase fiNoPhase XX.all := ExcTabI.of etiNoPhase
  have FINoPhase := fun_mk (st := sInit) liNoPhase ciNoPhase kiNoPhase
  have hbNoPhase := FINoPhase.binds (ps := ["self", "at"]) fun _ _ _ _ _ _ us hl => @len2 (fun us => bindArgs _ ⟨us, []⟩ = pure (List.zip _ us)) us hl fun _ _ => rfl
  have okNoPhase := ok_init (P := l.prog) (w := w) (mg := mg) (base := base) FINoPhase tabNoPhase.ok
  have Cis_whole : Cal l.prog w K mg base 1 "is_whole" ["thing"] (spWholeA K) _ _ := ⟨ok_wholeA F0 T, m a0, k0, b0⟩
  have Cwhole : Cal l.prog w K mg base 1 "is_whole" ["thing"] spWhole _ _ := ⟨(ok_wholeA F0 T).imp (fun vs H Q E ⟨i, e, q⟩ => ⟨.int i, "int", e, ⟨.int i, by decide⟩, q⟩), m a0, k0, b0⟩
  have CwholeV : Cal l.prog w K mg base 1 "is_whole" ["thing"] (spWholeV K) _ _ := ⟨(ok_wholeA F0 T).imp (fun vs H Q E ⟨x, T, e, ty, m, q⟩ => ⟨x, T, e, ⟨ty, (by decide : ∀ T ∈ elT, T ∈ anT) T m⟩, q⟩), m a0, k0, b0⟩
  have Cis_place : Cal l.prog w K mg base 2 "is_place" ["thing", "many"] spPlaceN _ _ := ⟨ok_placeN F1 T CwholeV, m a1, k1, b1⟩
  have CplaceB : Cal l.prog w K mg base 2 "is_place" ["thing", "many"] spPlaceB _ _ := ⟨(ok_placeN F1 T CwholeV).imp fun _ _ _ _ h => B_place h, m a1, k1, b1⟩
  have Cis_listed : Cal l.prog w K mg base 1 "is_listed" ["thing"] spListedB _ _ := ⟨ok_listedB F2 T, m a2, k2, b2⟩
  have Cis_tuple_of : Cal l.prog w K mg base 1 "is_tuple_of" ["thing", "many"] spTupOf _ _ := ⟨ok_tupof F3 T, m a3, k3, b3⟩
  have Cfirst_counts : Cal l.prog w K mg base 1 "first_counts" ["p"] spFirst _ _ := ⟨ok_first F4 T, m a4, k4, b4⟩
  have Cnext_counts : Cal l.prog w K mg base 1 "next_counts" ["counts"] (spNext K) _ _ := ⟨ok_next F5 T, m a5, k5, b5⟩
  have Cis_standing : Cal l.prog w K mg base 2 "is_standing" ["thing"] (spIsSt K) _ _ := ⟨ok_isst F6 T mLEAST_WAYS mMOST_WAYS mMOST_ROWS Cwhole, m a6, k6, b6⟩
  have CisstA : Cal l.prog w K mg base 2 "is_standing" ["thing"] (spIsStA K) _ _ := ⟨ok_isstA F6 T mLEAST_WAYS mMOST_WAYS mMOST_ROWS Cis_whole, m a6, k6, b6⟩
  have Ccheck_standing : Cal l.prog w K mg base 3 "check_standing" ["standing"] (spChkSt K) _ _ := ⟨ok_chkst F7 T Cis_standing, m a7, k7, b7⟩
  have CchkE : CalE l.prog w K mg base 3 "check_standing" ["standing"] [] (spN1 K XX.nStand) _ _ := ⟨ok_chkstE F7 XX tabNoStanding.ok CisstA, m a7, k7, [], b7, .nil⟩
  have Cis_phase : Cal l.prog w K mg base 3 "is_phase" ["counts", "phase"] spIsPhB _ _ := ⟨ok_isphB F8 T Cwhole CplaceB Cis_tuple_of, m a8, k8, b8⟩
  have Ccounts_behind : Cal l.prog w K mg base 1 "counts_behind" ["counts", "phase"] spBeh _ _ := ⟨ok_beh F9 T, m a9, k9, b9⟩
  have Cphd2 : CalE l.prog w K mg base 4 "phase_done" ["standing", "phase"] [] (fun vs H Q E => spPhDoneI XX.nPhase vs H Q E ∨ spN2 K XX.nStand vs H Q E) _ _ := ⟨FnOk.or (ok_phdoneI F10 T XX tabNoPhase.ok okNoPhase hbNoPhase Ccheck_standing Cis_phase Ccounts_behind) (ok_phdE F10 CchkE), m a10, k10, [], b10, .nil⟩
  have Cpld : CalE l.prog w K mg base 4 "plan_done" ["standing", "plan"] [] (spPlDoneI K XX.nPhase) _ _ := ⟨ok_pldoneI F11 T (PySem.W.mg_none_of X G zenumerate) XX.mPhase tabNoPhase.ok okNoPhase hbNoPhase Ccheck_standing Cis_phase Ccounts_behind, m a11, k11, [], b11, .nil⟩
  have Cpld2 : CalE l.prog w K mg base 4 "plan_done" ["standing", "plan"] [] (fun vs H Q E => spPlDoneI K XX.nPhase vs H Q E ∨ spN2 K XX.nStand vs H Q E) _ _ := ⟨FnOk.or (ok_pldoneI F11 T (PySem.W.mg_none_of X G zenumerate) XX.mPhase tabNoPhase.ok okNoPhase hbNoPhase Ccheck_standing Cis_phase Ccounts_behind) (ok_pldE F11 CchkE), m a11, k11, [], b11, .nil⟩
  have Cranked : Cal l.prog w K mg base 1 "ranked" ["standing"] spRk _ _ := ⟨ok_rk F12 T, m a12, k12, b12⟩
  have Ccovers : Cal l.prog w K mg base 1 "covers" ["level", "counts"] spCovers _ _ := ⟨ok_covers F13 T, m a13, k13, b13⟩
  have Clevels_to : Cal l.prog w K mg base 2 "levels_to" ["standing"] spLvTo _ _ := ⟨ok_lvto F14 T Cfirst_counts Cnext_counts Cranked Ccovers, m a14, k14, b14⟩
  have Cplan_by : Cal l.prog w K mg base 2 "plan_by" ["levels", "standing"] spPlan _ _ := ⟨ok_plan F15 T (PySem.W.mg_none_of X G zreversed) Ccounts_behind, m a15, k15, b15⟩
  have Cis_bar : Cal l.prog w K mg base 3 "is_bar" ["level", "standing", "bar"] spIsBarN _ _ := ⟨ok_isbarN F16 T Cis_place Cranked, m a16, k16, b16⟩
  have CbarP : Cal l.prog w K mg base 3 "is_bar" ["level", "standing", "bar"] spIsBar _ _ := ⟨(ok_isbarN F16 T Cis_place Cranked).imp fun _ _ _ _ h => N_bar h, m a16, k16, b16⟩
  have Cfirst_bar : Cal l.prog w K mg base 4 "first_bar" ["level", "standing"] spBar _ _ := ⟨ok_bar F17 T CbarP, m a17, k17, b17⟩
  have Cfew2 : CalE l.prog w K mg base 5 "fewest_phases" ["standing"] [] (fun vs H Q E => spFew vs H Q E ∨ spN1 K XX.nStand vs H Q E) _ _ := ⟨FnOk.or (FnOk.toE (ok_few F18 T Ccheck_standing Clevels_to Cfirst_bar Cplan_by)) (ok_fewE F18 CchkE), m a18, k18, [], b18, .nil⟩
  have Cis_plan : Cal l.prog w K mg base 5 "is_plan" ["standing", "plan"] (spIsPlG K) _ _ := ⟨ok_isplG F19 T XX.mPhase tabNoPhase.exmS Cpld, m a19, k19, b19⟩
  have Cphr2 : CalE l.prog w K mg base 6 "phases_right" ["standing", "told"] [] (fun vs H Q E => spPhRG K vs H Q E ∨ spN2 K XX.nStand vs H Q E) _ _ := ⟨FnOk.or (FnOk.toE (ok_phrG F20 T Ccheck_standing Cis_tuple_of Clevels_to Cwhole Cis_listed Cis_plan Cis_bar)) (ok_phrE F20 CchkE), m a20, k20, [], b20, .nil⟩
  have C_law_pool : Cal l.prog w K mg base 1 "_law_pool" ["script", "k"] (spPool K) _ _ := ⟨ok_pool F21 T, m a21, k21, b21⟩
  have C_law_take : Cal l.prog w K mg base 1 "_law_take" ["pool", "many"] spTake _ _ := ⟨ok_take F22 T, m a22, k22, b22⟩
  have C_law_counts : Cal l.prog w K mg base 1 "_law_counts" ["p", "n"] spLCounts _ _ := ⟨ok_lcounts F23 T, m a23, k23, b23⟩
  have C_law_great : Cal l.prog w K mg base 2 "_law_great" ["pool"] spGreat _ _ := ⟨ok_great F24 T C_law_take, m a24, k24, b24⟩
  have C_law_standing : Cal l.prog w K mg base 3 "_law_standing" ["pool"] spStand _ _ := ⟨ok_stand F25 T C_law_take C_law_great C_law_counts, m a25, k25, b25⟩
  have C_law_kind : Cal l.prog w K mg base 7 "_law_kind" ["way", "thing"] (spKind18 K) _ _ := ⟨ok_kind18 F26 T (PySem.W.mg_none_of X G zValueError) XX tabNoStanding tabNoPhase Cphd2 Cpld2 Cfew2 Cphr2, m a26, k26, b26⟩
  have C_law_odd : Cal l.prog w K mg base 2 "_law_odd" ["pool", "standing"] (spOdd18 K) _ _ := ⟨ok_odd18 F27 T C_law_take, m a27, k27, b27⟩
  exact ok_law18 F28 T C_law_pool C_law_standing C_law_odd C_law_kind
theorem walk {l : PySem.W.OpenLaw} {q : Program} {loose : List Str} {XP : (Str → Option Value) → Heap → Prop} {YP : World → Heap → Prop} {d : DefRec} {K : Params → PySem.W.Frag} (hn : l.most = some 63) (hdf : d.params.defaults = [])
    (hY : ∀ (w : World) (h : Heap), YP w h → (K w.params).In h)
    (F : ∀ (w : World) (mg : Str → Option Value) (fa : Addr) (h : Heap), (K w.params).In h → h.Ns mainGlobals mg → mg d.name = some (.ref fa) →
      ∃ fd : FuncData, (∀ (s : Shared) (u : Value), BindsTo s fd ⟨[u], []⟩ [("script", u)]) ∧ ∀ base : Heap, (K w.params).In base → base.Ns mainGlobals mg → FnOk l.prog w (K w.params) mg base CX0 8 fa fd ["script"] (spLaw (K w.params))) :
    PySem.W.WalkO q loose XP YP l.row.toRowW d [] (fun f vs => PySem.call f vs) :=
  L2.walk_of (n := 63) (k := 8) (x := "script") (CX := fun _ => CX0) (sp := fun w => spLaw (K w.params)) hn (by decide) hdf ⟨rfl, by decide, by decide, rfl⟩ hY F (fun _ _ a ns hl _ hS => ⟨a, ns, rfl, hS, hl, fun _ => rfl⟩) fun _ _ _ _ _ z => z
end Fi18
def PySem.W.Fast.tw13697935222777262068 : Unit := ()
def PySem.W.Fast.tw6064490336111109001 : Unit := ()
def PySem.W.Fast.tw8430964779987693983 : Unit := ()
def PySem.W.Fast.tw13567451706730538570 : Unit := ()
def PySem.W.Fast.tw16341704184503745381 : Unit := ()
def PySem.W.Fast.tw13472892067611804068 : Unit := ()
def PySem.W.Fast.tw4691651950907621298 : Unit := ()
def PySem.W.Fast.tw3607216339559233834 : Unit := ()
def PySem.W.Fast.tw493362251958189537 : Unit := ()
def PySem.W.Fast.tw4524745747166591248 : Unit := ()
def PySem.W.Fast.tw18182230489987117465 : Unit := ()
def PySem.W.Fast.tw8833428694808957187 : Unit := ()
def PySem.W.Fast.tw5166934499201783647 : Unit := ()
def PySem.W.Fast.tw17180294222406354514 : Unit := ()
def PySem.W.Fast.tw1476989866648870451 : Unit := ()
def PySem.W.Fast.tw14458351111068636298 : Unit := ()
def PySem.W.Fast.tw9442016554786156625 : Unit := ()
def PySem.W.Fast.tw8553323207018631423 : Unit := ()
def PySem.W.Fast.tw2659334338201247055 : Unit := ()
def PySem.W.Fast.tw504670348679660705 : Unit := ()
def PySem.W.Fast.tw18125828568709652854 : Unit := ()
def PySem.W.Fast.tw6669224223998176372 : Unit := ()
def PySem.W.Fast.tw1204930841360668870 : Unit := ()
def PySem.W.Fast.tw8143782561625993467 : Unit := ()
def PySem.W.Fast.tw7417193297603091877 : Unit := ()
def PySem.W.Fast.tw12929435357303699469 : Unit := ()
def PySem.W.Fast.tw1020079924322674728 : Unit := ()
def PySem.W.Fast.tw18353992011910599648 : Unit := ()
def PySem.W.Fast.tw10796728517367481860 : Unit := ()
def PySem.W.Fast.tw13669032245897107939 : Unit := ()
def PySem.W.Fast.tw13303991999088553473 : Unit := ()
def PySem.W.Fast.tw4391194305382724191 : Unit := ()
def PySem.W.Fast.tw9005166524847190899 : Unit := ()
def PySem.W.Fast.tw16563806400322248008 : Unit := ()
def PySem.W.Fast.tw16610655108423987282 : Unit := ()
def PySem.W.Fast.tw16945623767875767050 : Unit := ()
def PySem.W.Fast.tw9135141868188145895 : Unit := ()
def PySem.W.Fast.tw8821665243730657529 : Unit := ()
def PySem.W.Fast.tw491731019695887478 : Unit := ()
def PySem.W.Fast.tw16855054145178614778 : Unit := ()
def PySem.W.Fast.tw10034629481694076778 : Unit := ()
def PySem.W.Fast.tw6218393906436595974 : Unit := ()
def PySem.W.Fast.tw5818258727743971832 : Unit := ()
def PySem.W.Fast.tw3924888146498657233 : Unit := ()
def PySem.W.Fast.tw8988651260002166101 : Unit := ()
def PySem.W.Fast.tw16364143184303695028 : Unit := ()
def PySem.W.Fast.tw1046178655356211232 : Unit := ()
def PySem.W.Fast.tw16448242081170617312 : Unit := ()
def PySem.W.Fast.tw15677603427203347350 : Unit := ()
def PySem.W.Fast.tw861928654838336368 : Unit := ()
def PySem.W.Fast.tw13004764574283432639 : Unit := ()
def PySem.W.Fast.tw14862394866274531739 : Unit := ()
def PySem.W.Fast.tw5034031365864898149 : Unit := ()
def PySem.W.Fast.tw9544140702136960876 : Unit := ()
def PySem.W.Fast.tw522422857219667451 : Unit := ()
def PySem.W.Fast.tw17043947059815445778 : Unit := ()
def PySem.W.Fast.tw14230298489540448289 : Unit := ()
def PySem.W.Fast.tw1223568348806146284 : Unit := ()
def PySem.W.Fast.tw1201982683928924085 : Unit := ()
open PySem PySem.W PyProof.Rows
set_option maxRecDepth 100000 in
set_option maxHeartbeats 0 in
theorem PySem.Challenge.cw_fewreels_k18_standings_refused_holds : PySem.Challenge.rw_fewreels_k18_standings_refused.Holds := by
  w_on; o_law; k_head; (case hw => w_witness2)
  k_fill
  refine Fi18.walk (l := PySem.Challenge.rw_fewreels_k18_standings_refused) rfl rfl (fun w h Y => PySem.W.kIn_of Y) ?F
  case F =>
    intro w mg fa h KX G hmg
    refine' Fi18.all_mk KX G hmg ?a0 ?l0 ?c0 ?k0 ?a1 ?l1 ?c1 ?k1 ?a2 ?l2 ?c2 ?k2 ?a3 ?l3 ?c3 ?k3 ?a4 ?l4 ?c4 ?k4 ?a5 ?l5 ?c5 ?k5 ?a6 ?l6 ?c6 ?k6 ?a7 ?l7 ?c7 ?k7 ?a8 ?l8 ?c8 ?k8 ?a9 ?l9 ?c9 ?k9 ?a10 ?l10 ?c10 ?k10 ?a11 ?l11 ?c11 ?k11 ?a12 ?l12 ?c12 ?k12 ?a13 ?l13 ?c13 ?k13 ?a14 ?l14 ?c14 ?k14 ?a15 ?l15 ?c15 ?k15 ?a16 ?l16 ?c16 ?k16 ?a17 ?l17 ?c17 ?k17 ?a18 ?l18 ?c18 ?k18 ?a19 ?l19 ?c19 ?k19 ?a20 ?l20 ?c20 ?k20 ?a21 ?l21 ?c21 ?k21 ?a22 ?l22 ?c22 ?k22 ?a23 ?l23 ?c23 ?k23 ?a24 ?l24 ?c24 ?k24 ?a25 ?l25 ?c25 ?k25 ?a26 ?l26 ?c26 ?k26 ?a27 ?l27 ?c27 ?k27 ?a28 ?l28 ?c28 ?k28 ?y0 ?y1 ?y2 ?ex0 ?ex1 ?ex2 ?ex3 ?ex4 ?ex5 ?ex6 ?ex7 ?ex8 ?ex9 ?ex10 ?ex11 ?ex12 ?exnd ?etNoStanding ?aiNoPhase ?liNoPhase ?ciNoPhase ?kiNoPhase ?etiNoPhase ?z0 ?z1 ?z2 ?z3 ?z4 ?z5 ?z6 ?z7 ?z8 ?z9 ?z10 ?z11 ?z12 ?zenumerate ?zreversed ?zValueError
    (case a0 => k_is); (case l0 => k_is); (case c0 => k_is); (case k0 => k_is); (case a1 => k_is); (case l1 => k_is)
    (case c1 => k_is); (case k1 => k_is); (case a2 => k_is); (case l2 => k_is); (case c2 => k_is); (case k2 => k_is)
    (case a3 => k_is); (case l3 => k_is); (case c3 => k_is); (case k3 => k_is); (case a4 => k_is); (case l4 => k_is)
    (case c4 => k_is); (case k4 => k_is); (case a5 => k_is); (case l5 => k_is); (case c5 => k_is); (case k5 => k_is)
    (case a6 => k_is); (case l6 => k_is); (case c6 => k_is); (case k6 => k_is); (case a7 => k_is); (case l7 => k_is)
    (case c7 => k_is); (case k7 => k_is); (case a8 => k_is); (case l8 => k_is); (case c8 => k_is); (case k8 => k_is)
    (case a9 => k_is); (case l9 => k_is); (case c9 => k_is); (case k9 => k_is); (case a10 => k_is); (case l10 => k_is)
    (case c10 => k_is); (case k10 => k_is); (case a11 => k_is); (case l11 => k_is); (case c11 => k_is); (case k11 => k_is)
    (case a12 => k_is); (case l12 => k_is); (case c12 => k_is); (case k12 => k_is); (case a13 => k_is); (case l13 => k_is)
    (case c13 => k_is); (case k13 => k_is); (case a14 => k_is); (case l14 => k_is); (case c14 => k_is); (case k14 => k_is)
    (case a15 => k_is); (case l15 => k_is); (case c15 => k_is); (case k15 => k_is); (case a16 => k_is); (case l16 => k_is)
    (case c16 => k_is); (case k16 => k_is); (case a17 => k_is); (case l17 => k_is); (case c17 => k_is); (case k17 => k_is)
    (case a18 => k_is); (case l18 => k_is); (case c18 => k_is); (case k18 => k_is); (case a19 => k_is); (case l19 => k_is)
    (case c19 => k_is); (case k19 => k_is); (case a20 => k_is); (case l20 => k_is); (case c20 => k_is); (case k20 => k_is)
    (case a21 => k_is); (case l21 => k_is); (case c21 => k_is); (case k21 => k_is); (case a22 => k_is); (case l22 => k_is)
    (case c22 => k_is); (case k22 => k_is); (case a23 => k_is); (case l23 => k_is); (case c23 => k_is); (case k23 => k_is)
    (case a24 => k_is); (case l24 => k_is); (case c24 => k_is); (case k24 => k_is); (case a25 => k_is); (case l25 => k_is)
    (case c25 => k_is); (case k25 => k_is); (case a26 => k_is); (case l26 => k_is); (case c26 => k_is); (case k26 => k_is)
    (case a27 => k_is); (case l27 => k_is); (case c27 => k_is); (case k27 => k_is); (case a28 => k_is); (case l28 => k_is)
    (case c28 => k_is); (case k28 => k_is); (case y0 => k_is); (case y1 => k_is); (case y2 => k_is); (case ex0 => k_is)
    (case ex1 => k_is); (case ex2 => k_is); (case ex3 => k_is); (case ex4 => k_is); (case ex5 => k_is); (case ex6 => k_is)
    (case ex7 => k_is); (case ex8 => k_is); (case ex9 => k_is); (case ex10 => k_is); (case ex11 => k_is); (case ex12 => k_is)
    (case aiNoPhase => k_is); (case liNoPhase => k_is); (case ciNoPhase => k_is); (case kiNoPhase => k_is); (case z0 => k_is); (case z1 => k_is)
    (case z2 => k_is); (case z3 => k_is); (case z4 => k_is); (case z5 => k_is); (case z6 => k_is); (case z7 => k_is)
    (case z8 => k_is); (case z9 => k_is); (case z10 => k_is); (case z11 => k_is); (case z12 => k_is); (case zenumerate => k_is)
    (case zreversed => k_is); (case zValueError => k_is)
    (case exnd => decide)
    (case etNoStanding => with_unfolding_all rfl)
    (case etiNoPhase => with_unfolding_all rfl)
