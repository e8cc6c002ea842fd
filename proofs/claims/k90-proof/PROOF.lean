import PyProof.Rows.All
import Wide.All
import OpenK.AllK
import Wide.FinOn
import Lean
import PyProof.EqAt
import PyProof.EqKinds
import PyProof.TupleCall
import PyProof.NeKinds
import PyProof.Draws
import PyProof.SumWalkG
import PyProof.ListRange
import PyProof.ZipIter
import PyProof.Rows.SortRev
import KE.IntBitsLaws
import PyProof.ListMulRoad
import PyProof.TupleKey
import PyProof.ReprRoads
import PyProof.ReprLen
import PyProof.CallStr
import PyProof.Rows.RuleIs
import PyProof.StrLawsRepr
import PyProof.Rows.SortShellK
import KE.KSortTup
import PyProof.Rows.SeqMore2
import KE.KRevIter
import PyProof.RulesTry
import PyProof.StationsW
import PyProof.RulesAs
import PyProof.NsDelKeeps
import PyProof.Rows.Own
import PyProof.Rows.Catch
import KE.KTryMore
import KE.KIsNot
import OpenK.KDescr
import PyProof.ExcAttrAll.ValueError
import PyProof.FString
import PyProof.InstStoreFacts
import OpenK.KMake
import KE.KItemsList
import KE.KPairComp
import PyProof.DictWalks
import KE.KDictSum
import PyProof.Rows.TupAdd
import PyProof.Rows.StrJoin2
import PySem.Challenge.RW_fewreels_k90_whole_plans_played
set_option Elab.async false
set_option linter.all false
set_option maxRecDepth 100000
/-! THE HAND LAYER, for ints, bools, texts, own classes, LISTS and tuples (index, slices, in, append, pop ..), calls, loops. Paste it whole ahead of your own text; what your proof does not reach may be deleted. -/
namespace L2
open PySem PySem.Spec PyProof.Rows

/-- a key: an int or a str -/
abbrev Key := Sum Int Str
def keyIs : Key → Value → Bool
  | .inl k, v => Value.isInt k v
  | .inr x, v => Value.isStrOf x v
def keyH (w : World) : Key → Int
  | .inl k => hashInt k
  | .inr x => hashStr w x
theorem keyIs_shape : ∀ {k : Key} {v : Value}, keyIs k v = true → (∃ i t, k = Sum.inl i ∧ v = Value.int i t) ∨ (∃ x t, k = Sum.inr x ∧ v = Value.str x t)
  | .inl i, v, h => by
    obtain ⟨t, e⟩ := Value.isInt_shape (k := i) (v := v) h
    exact .inl ⟨i, t, rfl, e⟩
  | .inr x, v, h => by
    obtain ⟨t, e⟩ := Value.isStrOf_shape (x := x) (v := v) h
    exact .inr ⟨x, t, rfl, e⟩
theorem key_ll (a b : Int) : decide ((Sum.inl a : Key) = Sum.inl b) = (a == b) := by
  by_cases e : a = b
  · subst e; simp
  · have h : ¬ (Sum.inl a : Key) = Sum.inl b := fun q => e (Sum.inl.inj q)
    rw [decide_eq_false h]
    exact (beq_eq_false_iff_ne.mpr e).symm
theorem key_rr (a b : Str) : decide ((Sum.inr a : Key) = Sum.inr b) = decide (a = b) := by
  by_cases e : a = b
  · subst e; simp
  · have h : ¬ (Sum.inr a : Key) = Sum.inr b := fun q => e (Sum.inr.inj q)
    rw [decide_eq_false h, decide_eq_false e]
theorem key_lr (a : Int) (b : Str) : decide ((Sum.inl a : Key) = Sum.inr b) = false := decide_eq_false (fun q => nomatch q)
theorem key_rl (a : Str) (b : Int) : decide ((Sum.inr a : Key) = Sum.inl b) = false := decide_eq_false (fun q => nomatch q)

def mixKind (prog : Program) (w : World) : PySem.KeyKind prog w Key where
  is := keyIs
  hash := keyH w
  inj := fun v a b ha hb => by
    rcases keyIs_shape ha with ⟨i, t, rfl, rfl⟩ | ⟨x, t, rfl, rfl⟩
    · rcases keyIs_shape hb with ⟨j, u, rfl, e⟩ | ⟨y, u, rfl, e⟩
      · injection e with e1 _; rw [e1]
      · exact nomatch e
    · rcases keyIs_shape hb with ⟨j, u, rfl, e⟩ | ⟨y, u, rfl, e⟩
      · exact nomatch e
      · injection e with e1 _; rw [e1]
  byValue := fun k v h => by
    rcases keyIs_shape h with ⟨i, t, rfl, rfl⟩ | ⟨x, t, rfl, rfl⟩ <;> rfl
  pyHash := fun hv h => by
    rcases keyIs_shape hv with ⟨i, t, rfl, rfl⟩ | ⟨x, t, rfl, rfl⟩
    · exact wpAny_pyHash_int h
    · exact wpAny_pyHash_str h
  eqBool := fun hu hv h => by
    rcases keyIs_shape hu with ⟨i, t, rfl, rfl⟩ | ⟨x, t, rfl, rfl⟩
    · rcases keyIs_shape hv with ⟨j, u, rfl, rfl⟩ | ⟨y, u, rfl, rfl⟩
      · rw [key_ll] at h; exact wpAny_eqBool_int h
      · rw [key_lr] at h; exact SeqAt.EqAt.int_str i t y u _ _ _ _ h
    · rcases keyIs_shape hv with ⟨j, u, rfl, rfl⟩ | ⟨y, u, rfl, rfl⟩
      · rw [key_rl] at h; exact SeqAt.EqAt.str_int x t j u _ _ _ _ h
      · rw [key_rr] at h; exact wpAny_eqBool_str h
  «strs» := fun k x t v h => by
    rcases keyIs_shape h with ⟨i, u, rfl, e⟩ | ⟨y, u, rfl, e⟩
    · exact nomatch e
    · injection e with e1 _
      subst e1
      cases v <;> rfl

end L2

namespace L2
open PySem PySem.Spec PyProof.Rows

/-- a value, without the heap -/
inductive V where
  | non | bl (b : Bool) | int (i : Int) | str (x : Str) | byt (b : Array UInt8) | flt (b : UInt64) | ref (a : Addr) | ty (n : String)
  deriving DecidableEq

def RelV : V → Value → Prop
  | .non, u => u = Value.none
  | .bl b, u => u = Value.bool b
  | .int i, u => ∃ t, u = Value.int i t
  | .str x, u => ∃ t, u = Value.str x t
  | .byt b, u => ∃ t, u = Value.bytes b t
  | .flt b, u => ∃ t, u = Value.float b t
  | .ref a, u => u = Value.ref a
  | .ty n, u => u = Value.type n

abbrev Vals : List V → List Value → Prop := Paired RelV
theorem Vals.length {xs : List V} {us : List Value} (r : Vals xs us) : xs.length = us.length := Paired.length r
theorem Vals.get : ∀ {xs : List V} {us : List Value} {i : Nat} {x : V}, Vals xs us → xs[i]? = some x → ∃ u, us[i]? = some u ∧ RelV x u
  | _, _, _, _, .nil, e => by simp at e
  | _, _, 0, _, .cons r _, e => by simp at e; subst e; exact ⟨_, rfl, r⟩
  | _, _, i + 1, x, .cons _ t, e => by
    obtain ⟨u, h1, h2⟩ := Vals.get (i := i) (x := x) t (by simpa using e)
    exact ⟨u, by simpa using h1, h2⟩
theorem Vals.set {x : V} {u : Value} (r : RelV x u) : ∀ {xs : List V} {us : List Value} (i : Nat), Vals xs us → Vals (xs.set i x) (us.set i u)
  | _, _, _, .nil => .nil
  | _, _, 0, .cons _ t => .cons r t
  | _, _, i + 1, .cons q t => .cons q (Vals.set r i t)
theorem Vals.append : ∀ {xs ys : List V} {us ws : List Value}, Vals xs us → Vals ys ws → Vals (xs ++ ys) (us ++ ws)
  | _, _, _, _, .nil, s => s
  | _, _, _, _, .cons r t, s => .cons r (Vals.append t s)
theorem Vals.take : ∀ {xs : List V} {us : List Value} (n : Nat), Vals xs us → Vals (xs.take n) (us.take n)
  | _, _, 0, _ => .nil
  | _, _, _ + 1, .nil => .nil
  | _, _, n + 1, .cons r t => .cons r (Vals.take n t)
theorem Vals.drop : ∀ {xs : List V} {us : List Value} (n : Nat), Vals xs us → Vals (xs.drop n) (us.drop n)
  | _, _, 0, r => r
  | _, _, _ + 1, .nil => .nil
  | _, _, n + 1, .cons _ t => Vals.drop n t
theorem Vals.none_of : ∀ {xs : List V} {us : List Value} {i : Nat}, Vals xs us → xs[i]? = none → us[i]? = none := fun {xs us i} r e => by
  have h1 := r.length
  have h2 : xs.length ≤ i := List.getElem?_eq_none_iff.mp e
  exact List.getElem?_eq_none_iff.mpr (by omega)

def RelO : Option V → Option Value → Prop
  | some v, some u => RelV v u
  | none, none => True
  | _, _ => False
def KV {κ : Type} : List (κ × V) → List (κ × Value) → Prop := Paired fun (p : κ × V) (q : κ × Value) => p.1 = q.1 ∧ RelV p.2 q.2

/-- a key of a dict (00_mix): an int or a text -/
def kV : Key → V
  | .inl i => .int i
  | .inr x => .str x

/-- what stands at a tracked address -/
inductive HO where
  /-- a list -/
  | lst (xs : List V)
  /-- a tuple (never changes) -/
  | tup (xs : List V)
  /-- a dict whose keys are ints and texts; one whose keys are tuples of ints and texts (the empty one is both) -/
  | dK (kvs : List (Key × V)) | dT (kvs : List (List Key × V))
  /-- a set of ints: its members, its size -/
  | set (S : Int → Bool) (n : Nat)
  /-- an instance of the class at C, its dict at dx, its attributes -/
  | ins (C dx : Addr) (fs : List (Str × V))
  /-- the dict of the instance at x -/
  | own (x : Addr)
  /-- the dict of an exception -/
  | xd (fs : List (Str × V))
  /-- a bound method, f of x -/
  | met (f x : Addr)
  /-- a range object lo, lo + 1, .. below hi -/
  | rng (lo hi : Int)
  /-- a thing that is known to the object (the script; a dict while a loop walks it): read, never written while it is so -/
  | frz (o : Obj) (u : HO)
  /-- a code object's table -/
  | tbl (ps : Array Value)
  /-- any other thing, by what is true of its one object (a def of one's own: SetO a S n := HO.ext fun h => ..) -/
  | ext (φ : Heap → Prop)

abbrev Hp := Addr → Option HO
def upd (H : Hp) (a : Addr) (o : HO) : Hp := fun b => if b = a then some o else H b
theorem upd_same {H : Hp} {a : Addr} {o : HO} : upd H a o a = some o := by unfold upd; rw [if_pos rfl]
theorem upd_ne {H : Hp} {a b : Addr} {o : HO} (h : b ≠ a) : upd H a o b = H b := by unfold upd; rw [if_neg h]
theorem ne_of_none {H : Hp} {a b : Addr} {o : HO} (h : H a = some o) (h' : H b = none) : a ≠ b := by
  intro e; subst e; rw [h] at h'; cases h'

/-- a tuple without a dict of its own -/
def IsTupD (h : Heap) (a : Addr) (items : Array Value) : Prop := ∃ o, h.get? a = some o ∧ o.cls = .type "tuple" ∧ o.dict = none ∧ ∃ n, o.data = .seq items n
theorem IsTupD.tup {h : Heap} {a : Addr} {items : Array Value} (x : IsTupD h a items) : IsTup h a items := let ⟨o, e, c, _, d⟩ := x; ⟨o, e, c, d⟩
theorem IsTupD.new (h : Heap) (items : Array Value) : IsTupD (h.push { cls := .type "tuple", data := .seq items }) h.objs.size items := ⟨_, Heap.get?_push_size _ rfl, rfl, rfl, _, rfl⟩
section
variable (P : Program) (w : World)
def ObjOk (H : Hp) (h : Heap) (a : Addr) : HO → Prop
  | .lst xs => xs.length ≤ sizeLine ∧ ∃ (its : List Value) (n : Nat), Vals xs its ∧ h.get? a = some { cls := .type "list", data := .seq its.toArray n }
  | .tup xs => xs.length ≤ sizeLine ∧ ∃ its : List Value, Vals xs its ∧ IsTupD h a its.toArray
  | .dK kvs => kvs.length ≤ sizeLine ∧ (a == sysModules) = false ∧ ∃ vs, KV kvs vs ∧ h.DictOf (mixKind P w) a vs
  | .dT kvs => kvs.length ≤ sizeLine ∧ (a == sysModules) = false ∧ ∃ xs : List (List Key × Addr × Value),
      Paired (fun (p : List Key × V) (q : List Key × Addr × Value) => p.1 = q.1 ∧ H q.2.1 = some (.tup (p.1.map kV)) ∧ RelV p.2 q.2.2) kvs xs ∧
      ∃ o es ep, h.get? a = some o ∧ o.ExactDict ∧ o.data = .dict es ep ∧ es.toList = xs.map (entryOfKey (tupleKind (mixKind P w))) ∧ (xs.map (·.1)).Nodup
  | .set S n => h.SetOf (intKind P w) a S n
  | .ins C dx fs => H dx = some (.own a) ∧ fs.length ≤ 1000 ∧ dx ≠ a ∧ h.get? a = some (PySem.W.instObj C dx) ∧
      ∃ mA, h.Ns1 dx mA ∧ (∀ f, RelO (fs.lookup f) (mA f)) ∧ PySem.Within mA (fs.map (·.1))
  | .own _ => ∃ o, h.get? a = some o
  | .xd fs => ∃ mA, h.Ns1 a mA ∧ ∀ f, RelO (fs.lookup f) (mA f)
  | .rng lo hi => ∃ t u v, h.get? a = some { cls := .type "range", data := .fields #[.int lo t, .int hi u, .int 1 v] }
  | .frz o u => h.get? a = some o ∧ ObjOk H h a u
  | .tbl ps => h.get? a = some { cls := .none, data := .fields ps }
  | .met f x => h.get? a = some (PySem.W.methodObj (.ref f) (.ref x))
  | .ext φ => φ h ∧ (∃ o, h.get? a = some o) ∧ ∀ h1 h2 : Heap, φ h1 → (∀ o, h1.get? a = some o → h2.get? a = some o) → φ h2
/-- the abstract heap is held -/
def HOk (H : Hp) (h : Heap) : Prop := ∀ a o, H a = some o → ObjOk P w H h a o
end

section
variable {P : Program} {w : World} {H H' : Hp} {h h' : Heap} {a : Addr} {o : HO}
theorem ObjOk.lt (x : ObjOk P w H h a o) : a < h.objs.size := by
  cases o with
  | lst xs => obtain ⟨_, _, _, _, e⟩ := x; exact Heap.lt_size e
  | tup xs => obtain ⟨_, _, _, p⟩ := x; exact p.tup.lt
  | dK kvs => obtain ⟨_, _, _, _, o, _, _, e, _⟩ := x; exact Heap.lt_size e
  | dT kvs => obtain ⟨_, _, _, _, o, _, _, e, _⟩ := x; exact Heap.lt_size e
  | set S n => obtain ⟨o, _, _, _, e, _⟩ := x; exact Heap.lt_size e
  | ins C dx fs => obtain ⟨_, _, _, e, _⟩ := x; exact Heap.lt_size e
  | own y => obtain ⟨_, e⟩ := x; exact Heap.lt_size e
  | xd fs => obtain ⟨_, ⟨_, _, _, e, _⟩, _⟩ := x; exact Heap.lt_size e
  | rng lo hi => obtain ⟨_, _, _, e⟩ := x; exact Heap.lt_size e
  | frz ob u => obtain ⟨e, _⟩ := x; exact Heap.lt_size e
  | tbl ps => exact Heap.lt_size (show h.get? a = some _ from x)
  | met f y => exact Heap.lt_size (show h.get? a = some _ from x)
  | ext φ => obtain ⟨_, ⟨_, e⟩, _⟩ := x; exact Heap.lt_size e
theorem Paired.mapP {α β : Type} {F G : α → β → Prop} : ∀ {l₁ : List α} {l₂ : List β}, Paired F l₁ l₂ → (∀ a b, F a b → G a b) → Paired G l₁ l₂
  | _, _, .nil, _ => .nil
  | _, _, .cons r t, f => .cons (f _ _ r) (Paired.mapP t f)
/-- what an object's description leans on: its own object, its own dict, the tuples -/
theorem ObjOk.stay (x : ObjOk P w H h a o) (k : ∀ b u, (b = a ∨ H b = some (.own a)) → h.get? b = some u → h'.get? b = some u)
    (ho : ∀ b, H b = some (.own a) → H' b = some (.own a)) (ht : ∀ b xs, H b = some (.tup xs) → H' b = some (.tup xs)) : ObjOk P w H' h' a o := by
  induction o with
  | lst xs => obtain ⟨z, its, n, r, e⟩ := x; exact ⟨z, its, n, r, k _ _ (.inl rfl) e⟩
  | tup xs => obtain ⟨z, its, r, ob, e, c⟩ := x; exact ⟨z, its, r, ob, k _ _ (.inl rfl) e, c⟩
  | dK kvs => obtain ⟨z, y, vs, r, ob, es, ep, e, c⟩ := x; exact ⟨z, y, vs, r, ob, es, ep, k _ _ (.inl rfl) e, c⟩
  | dT kvs =>
    obtain ⟨z, y, xs, r, ob, es, ep, e, c⟩ := x
    exact ⟨z, y, xs, Paired.mapP r fun p q z => ⟨z.1, ht _ _ z.2.1, z.2.2⟩, ob, es, ep, k _ _ (.inl rfl) e, c⟩
  | set S n => obtain ⟨ob, es, ep, t, e, c⟩ := x; exact ⟨ob, es, ep, t, k _ _ (.inl rfl) e, c⟩
  | ins C dx fs =>
    obtain ⟨d, z, ne, e, mA, ⟨od, es, ep, e2, c⟩, r⟩ := x
    exact ⟨ho _ d, z, ne, k _ _ (.inl rfl) e, mA, ⟨od, es, ep, k _ _ (.inr d) e2, c⟩, r⟩
  | own y => obtain ⟨ob, e⟩ := x; exact ⟨ob, k _ _ (.inl rfl) e⟩
  | xd fs => obtain ⟨mA, ⟨od, es, ep, e, c⟩, r⟩ := x; exact ⟨mA, ⟨od, es, ep, k _ _ (.inl rfl) e, c⟩, r⟩
  | rng lo hi => obtain ⟨t, u, v, e⟩ := x; exact ⟨t, u, v, k _ _ (.inl rfl) e⟩
  | frz ob u ih => obtain ⟨e, q⟩ := x; exact ⟨k _ _ (.inl rfl) e, ih q⟩
  | tbl ps =>
    have e : h.get? a = some { cls := .none, data := .fields ps } := x
    show h'.get? a = some { cls := .none, data := .fields ps }
    exact k a _ (.inl rfl) e
  | met f y =>
    have e : h.get? a = some (PySem.W.methodObj (.ref f) (.ref y)) := x
    show h'.get? a = some (PySem.W.methodObj (.ref f) (.ref y))
    exact k a _ (.inl rfl) e
  | ext φ => obtain ⟨p, ⟨o, e⟩, st⟩ := x; exact ⟨st _ _ p fun o q => k _ _ (.inl rfl) q, ⟨o, k _ _ (.inl rfl) e⟩, st⟩
theorem HOk.lt (x : HOk P w H h) (e : H a = some o) : a < h.objs.size := (x a o e).lt
theorem HOk.fresh (x : HOk P w H h) (e : h.objs.size ≤ a) : H a = none := by
  cases q : H a with
  | none => rfl
  | some u => exact absurd (Nat.lt_of_lt_of_le (x.lt q) e) (Nat.lt_irrefl _)
/-- every object of the heap is kept -/
theorem HOk.kept (x : HOk P w H h) (k : ∀ b u, h.get? b = some u → h'.get? b = some u) : HOk P w H h' := fun a o e =>
  (x a o e).stay (fun b u _ q => k b u q) (fun _ q => q) fun _ _ q => q
/-- a new object is laid and tracked -/
theorem HOk.laid (x : HOk P w H h) (k : ∀ b u, h.get? b = some u → h'.get? b = some u) (hp : h.objs.size ≤ a) (new : ObjOk P w (upd H a o) h' a o) : HOk P w (upd H a o) h' := fun b u e => by
  have hn := x.fresh hp
  by_cases hb : b = a
  · subst hb; rw [upd_same] at e; cases e; exact new
  · rw [upd_ne hb] at e
    exact (x b u e).stay (fun c v _ q => k c v q) (fun c q => by rw [upd_ne (ne_of_none q hn)]; exact q) fun c xs q => by rw [upd_ne (ne_of_none q hn)]; exact q
end

/-- what may be read as u: it is u, or a known u -/
def Rd (H : Hp) (a : Addr) (u : HO) : Prop := H a = some u ∨ ∃ o, H a = some (.frz o u)
theorem Rd.ok {P : Program} {w : World} {H : Hp} {h : Heap} {a : Addr} {u : HO} (r : Rd H a u) (x : HOk P w H h) : ObjOk P w H h a u := by
  rcases r with r | ⟨o, r⟩
  · exact x a u r
  · obtain ⟨_, q⟩ := x a _ r
    exact q
/-- what may be written -/
def Mut : Option HO → Prop
  | some (.lst _) => True
  | some (.dK _) => True
  | some (.dT _) => True
  | some (.set _ _) => True
  | some (.ins _ _ _) => True
  | some (.ext _) => True
  | _ => False
section
variable {P : Program} {w : World} {H : Hp} {h h' : Heap} {x e : Addr} {o' : HO}
/-- the object at e is changed: x itself, or the dict of the instance x -/
theorem HOk.write (ok : HOk P w H h) (mu : Mut (H x)) (he : e = x ∨ H e = some (.own x)) (k : ∀ b u, b ≠ e → h.get? b = some u → h'.get? b = some u) (heo : ∃ u, h'.get? e = some u)
    (new : ObjOk P w (upd H x o') h' x o') : HOk P w (upd H x o') h' := fun b u q => by
  have nown : ∀ c y, H c = some (.own y) → c ≠ x := fun c y r z => by subst z; rw [r] at mu; exact mu
  have ntup : ∀ c xs, H c = some (.tup xs) → c ≠ x := fun c xs r z => by subst z; rw [r] at mu; exact mu
  by_cases hb : b = x
  · subst hb; rw [upd_same] at q; cases q; exact new
  · rw [upd_ne hb] at q
    by_cases hbe : b = e
    · have q' : H b = some (.own x) := by
        rcases he with z | z
        · exact absurd (hbe.trans z) hb
        · rw [hbe]; exact z
      rw [q] at q'; cases q'
      obtain ⟨v, hv⟩ := heo
      exact ⟨v, by rw [hbe]; exact hv⟩
    · refine (ok b u q).stay (fun c v hc r => k c v ?_ r) (fun c r => by rw [upd_ne (nown c b r)]; exact r) fun c xs r => by rw [upd_ne (ntup c xs r)]; exact r
      rcases hc with rfl | hc
      · exact hbe
      · rintro rfl
        rcases he with z | z
        · exact nown c b hc z
        · rw [hc] at z; cases z; exact hb rfl
end

/-! ### kept unless tracked; of the frames at fs (the callers') the slots may change (an exception that passes writes there); of the records at ex (iterators) nothing is said -/
structure Un (fs ex : List Addr) (H H' : Hp) (h h' : Heap) : Prop where
  keep : ∀ b o, h.get? b = some o → H b = none → b ∉ fs → b ∉ ex → h'.get? b = some o
  slot : ∀ b o, h.get? b = some o → H b = none → b ∈ fs → b ∉ ex → ∃ sl, h'.get? b = some { o with slots := sl }
  free : ∀ b o, h.get? b = some o → H b = none → b ∉ ex → H' b = none
  there : ∀ b o, h.get? b = some o → b ∉ ex → ∃ o', h'.get? b = some o'
  tups : ∀ b xs, H b = some (.tup xs) → H' b = some (.tup xs)
  frzs : ∀ b o u, H b = some (.frz o u) → H' b = some (.frz o u)
  tbls : ∀ b ps, H b = some (.tbl ps) → ∃ more, H' b = some (.tbl (ps ++ more))
section
variable {fs fs' ex ex' : List Addr} {H H1 H2 : Hp} {h h1 h2 h' : Heap} {a x e : Addr} {o : HO}
theorem Un.any (u : Un fs ex H H1 h h1) {b : Addr} {ob : Obj} (q : h.get? b = some ob) (n : H b = none) (hx : b ∉ ex) : ∃ sl, h1.get? b = some { ob with slots := sl } := by
  by_cases hb : b ∈ fs
  · exact u.slot b ob q n hb hx
  · exact ⟨ob.slots, u.keep b ob q n hb hx⟩
theorem Un.kept (k : ∀ b u, h.get? b = some u → h'.get? b = some u) : Un fs ex H H h h' :=
  ⟨fun b ob q _ _ _ => k b ob q, fun b ob q _ _ _ => ⟨ob.slots, k b ob q⟩, fun _ _ _ n _ => n, fun b ob q _ => ⟨ob, k b ob q⟩, fun _ _ q => q, fun _ _ _ q => q, fun _ ps q => ⟨#[], by rw [q]; simp⟩⟩
theorem Un.refl : Un fs ex H H h h := Un.kept fun _ _ q => q
theorem Un.laid (k : ∀ b u, h.get? b = some u → h'.get? b = some u) (hp : h.objs.size ≤ a) (hn : H a = none) : Un fs ex H (upd H a o) h h' where
  keep := fun b u q _ _ _ => k b u q
  slot := fun b u q _ _ _ => ⟨u.slots, k b u q⟩
  free := fun b u q n _ => by rw [upd_ne (Nat.ne_of_lt (Nat.lt_of_lt_of_le (Heap.lt_size q) hp))]; exact n
  there := fun b u q _ => ⟨u, k b u q⟩
  tups := fun b xs q => by rw [upd_ne (ne_of_none q hn)]; exact q
  frzs := fun b u xs q => by rw [upd_ne (ne_of_none q hn)]; exact q
  tbls := fun b ps q => ⟨#[], by rw [upd_ne (ne_of_none q hn), q]; simp⟩
theorem Un.write (mu : Mut (H x)) (he : e = x ∨ H e = some (.own x)) (k : ∀ b u, b ≠ e → h.get? b = some u → h'.get? b = some u) (heo : ∃ u, h'.get? e = some u) : Un fs ex H (upd H x o) h h' := by
  have hx : ∀ b, H b = none → b ≠ x := fun b n z => by subst z; rw [n] at mu; exact mu
  have hb : ∀ b, H b = none → b ≠ e := fun b n z => by
    subst z
    rcases he with r | r
    · exact hx b n r
    · rw [n] at r; cases r
  have hm : ∀ b u, H b = some u → ¬ Mut (some u) → b ≠ x := fun b u q nm z => by subst z; rw [q] at mu; exact nm mu
  refine ⟨fun b u q n _ _ => k b u (hb b n) q, fun b u q n _ _ => ⟨u.slots, k b u (hb b n) q⟩, fun b u q n _ => by rw [upd_ne (hx b n)]; exact n, fun b u q _ => ?_,
    fun b xs q => by rw [upd_ne (hm b _ q fun z => z)]; exact q, fun b u xs q => by rw [upd_ne (hm b _ q fun z => z)]; exact q, fun b ps q => ⟨#[], by rw [upd_ne (hm b _ q fun z => z), q]; simp⟩⟩
  by_cases hbe : b = e
  · subst hbe; exact heo
  · exact ⟨u, k b u hbe q⟩
end

/-! ### the heap without what is tracked -/
def trk (h : Heap) (H : Hp) : List Addr := (List.range h.objs.size).filter fun a => (H a).isSome
def hidT (h : Heap) (H : Hp) : Heap := PySem.W.hideAll h (trk h H)
theorem hidT_size (h : Heap) (H : Hp) : (hidT h H).objs.size = h.objs.size := PySem.W.hideAll_size _ _
theorem hidT_get {h : Heap} {H : Hp} {b : Addr} {o : Obj} (e : h.get? b = some o) (n : H b = none) : (hidT h H).get? b = some o :=
  PySem.W.hideAll_get _ e fun hm => by
    have q : (H b).isSome = true := (List.mem_filter.mp hm).2
    rw [n] at q; simp at q
theorem of_hidT {h : Heap} {H : Hp} {b : Addr} {o : Obj} (e : (hidT h H).get? b = some o) : h.get? b = some o ∧ H b = none := by
  have e' : h.get? b = some o := PySem.W.of_hideAll (trk h H) e
  refine ⟨e', ?_⟩
  cases q : H b with
  | none => rfl
  | some x =>
    have hm : b ∈ trk h H := List.mem_filter.mpr ⟨List.mem_range.mpr (Heap.lt_size e'), by simp [q]⟩
    have z : (hidT h H).get? b = none := PySem.W.hideAll_none (trk h H) hm
    rw [z] at e; cases e

/-! ### OpenK's ledger, filled with every new object but one -/
def allNews (g h : Heap) (L : Addr) : List (Addr × Obj) := (List.range h.objs.size).filterMap fun a => if a = L ∨ (g.get? a).isSome = true then none else (h.get? a).map fun o => (a, o)
def rest (g h : Heap) (L d : Addr) : List (Addr × Obj) := (allNews g h L).filter fun p => decide (p.1 ≠ d)
end L2

namespace L2
open PySem PySem.Spec PyProof.Rows

/-- the module's facts, over the base: the heap at the law's entry without what is tracked there -/
structure Mod (K : PySem.W.Frag) (mg : Str → Option Value) (base : Heap) : Prop where
  kin : K.In base
  glob : base.Ns mainGlobals mg
  blt : ∃ mb, base.Ns builtinsNs mb ∧ ∀ x : Str, x ≠ "__name__" → mb x = bootBuiltins x
  nolimit : base.NoLimit

/-- the context: a def's body (or a comprehension's block) running. base: fixed through the whole law; s₀, H₀: the entry; outer: the frames whose slots others may change (a def's callers); stack: all frames that run;
   ex: iterators that were made ahead of the entry and are walked here (a comprehension's); fn: the names whose cells were made at the entry (a def: all; a comprehension's block: its own); calm: not within an except suite; pn: pins that every state bears; xe: what is wanted of an exception that leaves the code -/
structure Cx where
  prog : Program
  w : World
  K : PySem.W.Frag
  mg : Str → Option Value
  base : Heap
  A : Around
  N : List Str
  s₀ : Shared
  H₀ : Hp
  env : Env
  outer : List Env
  stack : List Env
  ex : List Addr
  fn : Str → Bool
  calm : Bool
  pn : List (Addr × Obj)
  xe : Value → Shared → Prop
/-- the callers' frames -/
def frs (l : List Env) : List Addr := l.filterMap (·.frame)
abbrev Cx.fs (X : Cx) : List Addr := frs X.outer

def Vis (sc : Scope) (x : Str) : Prop := sc.names.lookup x = some .local ∨ sc.names.lookup x = some .cell ∨ sc.names.lookup x = some .free
def Loc (sc : Scope) (x : Str) : Prop := sc.names.lookup x = some .local ∨ sc.names.lookup x = some .cell
def Look (env : Env) (h : Heap) (m : Str → Option Value) (x : Str) (u : Value) : Prop :=
  (env.kindOf x = some .local ∧ m x = some u) ∨ ((env.kindOf x = some .cell ∨ env.kindOf x = some .free) ∧ ∃ c, env.cells.lookup x = some c ∧ h.IsCell c (some u))

structure Cx.Ok (X : Cx) : Prop where
  mod : Mod X.K X.mg X.base
  kind : X.env.scope.kind = .function
  glob : X.env.globals = mainGlobals
  blt : X.env.builtins = builtinsNs
  above : X.s₀.heap.objs.size ≤ X.env.locals
  inj : ∀ x y c, X.env.cells.lookup x = some c → X.env.cells.lookup y = some c → x = y
  has : ∀ x, (X.env.kindOf x = some .cell ∨ X.env.kindOf x = some .free) → ∃ c, X.env.cells.lookup x = some c
  cab : ∀ x c, X.fn x = true → X.env.cells.lookup x = some c → X.s₀.heap.objs.size ≤ c
  hd : X.calm = true → X.A.handled = none
  frames : X.A.frames = some X.stack
  stk : X.stack = X.outer ∨ (X.stack = X.env :: X.outer ∧ X.env.frame = some X.env.locals)
  exf : ∀ b ∈ X.ex, b ≠ X.env.locals ∧ ∀ x c, X.env.cells.lookup x = some c → c ≠ b
  bs : ∀ b o, X.base.get? b = some o → X.s₀.heap.get? b = some o ∧ X.H₀ b = none
  bsz : X.base.objs.size ≤ X.s₀.heap.objs.size
  noex : ∀ b o, X.base.get? b = some o → b ∉ X.ex
  exfs : ∀ b ∈ X.ex, b ∉ X.fs
  funs : X.s₀.heap.FunFrames X.base X.outer
  frf : ∀ b ∈ X.fs, X.H₀ b = none

structure Inv (X : Cx) (pins : List (Addr × Obj)) (σ : List (Option V)) (H : Hp) (s : Shared) : Prop where
  ok : X.Ok
  os : s.os = X.s₀.os
  bare : AllBare s.gens
  base : Un X.fs X.ex X.H₀ H X.s₀.heap s.heap
  loc : ∃ m, s.heap.Ns X.env.locals m ∧ ∀ (i : Nat) (x : Str) (v : V), X.N[i]? = some x → σ[i]? = some (some v) → Vis X.env.scope x → ∃ u, RelV v u ∧ Look X.env s.heap m x u
  cell : ∀ x c, X.env.cells.lookup x = some c → ∃ v, s.heap.IsCell c v
  free : H X.env.locals = none
  freeC : ∀ x c, X.env.cells.lookup x = some c → H c = none
  pin : ∀ p ∈ X.pn ++ pins, s.heap.get? p.1 = some p.2 ∧ H p.1 = none ∧ p.1 ≠ X.env.locals ∧ p.1 ∉ X.fs ∧ ∀ v, p.2.data ≠ .cell v
  hok : HOk X.prog X.w H s.heap
  len : σ.length = X.N.length

section
variable {X : Cx} {pins : List (Addr × Obj)} {σ : List (Option V)} {H H' : Hp} {s : Shared} {h' : Heap}

theorem Cx.Ok.nofr (ok : X.Ok) {b : Addr} {o : Obj} (e : X.base.get? b = some o) : b ∉ X.fs := fun hb => by
  have := (ok.funs.mem hb).1
  rw [e] at this; cases this
theorem Inv.bs (I : Inv X pins σ H s) : ∀ b o, X.base.get? b = some o → s.heap.get? b = some o ∧ H b = none := fun b o e =>
  ⟨I.base.keep b o (I.ok.bs b o e).1 (I.ok.bs b o e).2 (I.ok.nofr e) (I.ok.noex b o e), I.base.free b o (I.ok.bs b o e).1 (I.ok.bs b o e).2 (I.ok.noex b o e)⟩
theorem Inv.bk (I : Inv X pins σ H s) : ∀ b o, X.base.get? b = some o → s.heap.get? b = some o := fun b o e => (I.bs b o e).1
theorem Inv.mod (I : Inv X pins σ H s) : Mod X.K X.mg X.base := I.ok.mod
theorem Inv.kIn (I : Inv X pins σ H s) : X.K.In s.heap := I.ok.mod.kin.keeps I.bk
theorem Inv.lt (I : Inv X pins σ H s) : X.env.locals < s.heap.objs.size := let ⟨_, hn, _⟩ := I.loc; hn.lt
theorem Inv.sz (I : Inv X pins σ H s) : X.s₀.heap.objs.size ≤ s.heap.objs.size := Nat.le_trans I.ok.above (Nat.le_of_lt I.lt)
theorem Inv.nofs (I : Inv X pins σ H s) {a : Addr} (h : s.heap.objs.size ≤ a) : a ∉ X.fs := fun hb => by
  obtain ⟨_, o, ho, _⟩ := I.ok.funs.mem hb
  exact absurd (Nat.lt_of_lt_of_le (Heap.lt_size ho) (Nat.le_trans I.sz h)) (Nat.lt_irrefl _)
theorem Inv.cne (I : Inv X pins σ H s) : ∀ x c, X.env.cells.lookup x = some c → c ≠ X.env.locals := fun x c e z => by
  obtain ⟨v, o, ho, hd⟩ := I.cell x c e
  obtain ⟨m, ⟨o', es, ep, ho', hd', _⟩, _⟩ := I.loc
  rw [z, ho'] at ho; cases ho; rw [hd'] at hd; cases hd
theorem Inv.funs (I : Inv X pins σ H s) : s.heap.FunFrames X.base X.outer := by
  have all : ∀ (l : List Env), (∀ b ∈ frs l, b ∈ X.fs) → X.s₀.heap.FunFrames X.base l → s.heap.FunFrames X.base l := by
    intro l
    induction l with
    | nil => intro _ _; trivial
    | cons env r ih =>
      intro hs hl
      obtain ⟨hk, ⟨L, o, hf, hn, ho, hd⟩, hr⟩ := hl
      have hL : L ∈ X.fs := hs L (by unfold frs; rw [List.filterMap_cons, hf]; exact List.mem_cons_self)
      obtain ⟨sl, e⟩ := I.base.slot L o ho (I.ok.frf L hL) hL fun z => I.ok.exfs L z hL
      exact ⟨hk, ⟨L, _, hf, hn, e, hd⟩, ih (fun b hb => hs b (by unfold frs; rw [List.filterMap_cons, hf]; exact List.mem_cons_of_mem _ hb)) hr⟩
  exact all X.outer (fun _ hb => hb) I.ok.funs

/-- the frames that run, for a call -/
theorem Inv.stack (I : Inv X pins σ H s) : s.heap.FunFrames X.base X.stack := by
  rcases I.ok.stk with e | ⟨e, hf⟩
  · rw [e]; exact I.funs
  · rw [e]
    obtain ⟨m, hn, _⟩ := I.loc
    refine .cons (by rw [I.ok.kind]; decide) hf hn ?_ I.funs
    exact Heap.get?_none_of_le (Nat.le_trans I.ok.bsz I.ok.above)
theorem Inv.stkSub (I : Inv X pins σ H s) : ∀ b ∈ frs X.stack, b ∈ X.env.locals :: X.fs := fun b hb => by
  rcases I.ok.stk with e | ⟨e, hf⟩
  · rw [e] at hb; exact List.mem_cons_of_mem _ hb
  · rw [e] at hb
    unfold frs at hb
    rw [List.filterMap_cons, hf] at hb
    exact hb
theorem Inv.stkFree (I : Inv X pins σ H s) : ∀ b ∈ frs X.stack, H b = none := fun b hb => by
  rcases List.mem_cons.mp (I.stkSub b hb) with e | hb
  · rw [e]; exact I.free
  · obtain ⟨_, o, ho, _⟩ := I.ok.funs.mem hb
    exact I.base.free b o ho (I.ok.frf b hb) fun z => I.ok.exfs b z hb

/-- THE STEP: the untracked objects but the frame and the records at ch are kept (the callers' frames up to slots), the frame's map is kept, the new abstract heap is held -/
theorem Inv.step {g' : Array GenState} {t' : Nat} {d' : Drawn} {ch : List Addr} (I : Inv X pins σ H s)
    (hch : ∀ b ∈ ch, (b ∈ X.ex ∨ X.s₀.heap.objs.size ≤ b) ∧ b ≠ X.env.locals ∧ (∀ x c, X.env.cells.lookup x = some c → c ≠ b) ∧ ∀ p ∈ X.pn ++ pins, p.1 ≠ b)
    (keep : ∀ b o, b ≠ X.env.locals → b ∉ X.fs → b ∉ ch → s.heap.get? b = some o → H b = none → h'.get? b = some o)
    (slot : ∀ b o, b ≠ X.env.locals → b ∈ X.fs → b ∉ ch → s.heap.get? b = some o → H b = none → ∃ sl, h'.get? b = some { o with slots := sl }) (free : ∀ b o, b ∉ ch → s.heap.get? b = some o → H b = none → H' b = none)
    (there : ∀ b o, b ∉ ch → s.heap.get? b = some o → ∃ o', h'.get? b = some o')
    (tups : ∀ b xs, H b = some (.tup xs) → H' b = some (.tup xs)) (frzs : ∀ b o u, H b = some (.frz o u) → H' b = some (.frz o u)) (tbls : ∀ b ps, H b = some (.tbl ps) → ∃ more, H' b = some (.tbl (ps ++ more)))
    (ns : ∀ m, s.heap.Ns X.env.locals m → h'.Ns X.env.locals m) (hok : HOk X.prog X.w H' h') (hg : AllBare g') :
    Inv X pins σ H' { s with heap := h', gens := g', drawn := d', toks := t' } := by
  have neL : ∀ b o, X.s₀.heap.get? b = some o → b ≠ X.env.locals := fun b o e => Nat.ne_of_lt (Nat.lt_of_lt_of_le (Heap.lt_size e) I.ok.above)
  have neC : ∀ b o, X.s₀.heap.get? b = some o → b ∉ X.ex → b ∉ ch := fun b o e hx hb => by
    rcases (hch b hb).1 with z | z
    · exact hx z
    · exact absurd (Nat.lt_of_lt_of_le (Heap.lt_size e) z) (Nat.lt_irrefl _)
  have cellK : ∀ x c, X.env.cells.lookup x = some c → ∀ v, s.heap.IsCell c v → h'.IsCell c v := fun x c e v ⟨o, ho, hd⟩ => by
    have nch : c ∉ ch := fun z => (hch c z).2.2.1 x c e rfl
    by_cases hc : c ∈ X.fs
    · obtain ⟨sl, q⟩ := slot c o (I.cne x c e) hc nch ho (I.freeC x c e)
      exact ⟨_, q, hd⟩
    · exact ⟨o, keep c o (I.cne x c e) hc nch ho (I.freeC x c e), hd⟩
  refine ⟨I.ok, I.os, hg, ⟨fun b o e n hb hx => ?_, fun b o e n hb hx => ?_, fun b o e n hx => ?_, fun b o e hx => ?_, fun b xs e => tups b xs (I.base.tups b xs e), fun b o xs e => frzs b o xs (I.base.frzs b o xs e), fun b ps e => ?_⟩, ?_, fun x c e => ?_, ?_, fun x c e => ?_, fun p hp => ?_, hok, I.len⟩
  · exact keep b o (neL b o e) hb (neC b o e hx) (I.base.keep b o e n hb hx) (I.base.free b o e n hx)
  · obtain ⟨sl, e1⟩ := I.base.slot b o e n hb hx
    obtain ⟨sl', e2⟩ := slot b _ (neL b o e) hb (neC b o e hx) e1 (I.base.free b o e n hx)
    exact ⟨sl', e2⟩
  · obtain ⟨o', e1⟩ := I.base.there b o e hx
    exact free b o' (neC b o e hx) e1 (I.base.free b o e n hx)
  · obtain ⟨o', e1⟩ := I.base.there b o e hx
    exact there b o' (neC b o e hx) e1
  · obtain ⟨m1, e1⟩ := I.base.tbls b ps e
    obtain ⟨m2, e2⟩ := tbls b _ e1
    exact ⟨m1 ++ m2, by rw [e2, Array.append_assoc]⟩
  · obtain ⟨m, hn, hl⟩ := I.loc
    refine ⟨m, ns m hn, fun i x v e1 e2 e3 => ?_⟩
    obtain ⟨u, r, l⟩ := hl i x v e1 e2 e3
    refine ⟨u, r, ?_⟩
    rcases l with l | ⟨k, c, e, z⟩
    · exact .inl l
    · exact .inr ⟨k, c, e, cellK x c e _ z⟩
  · obtain ⟨v, z⟩ := I.cell x c e
    exact ⟨v, cellK x c e v z⟩
  · obtain ⟨m, ⟨o, _, _, ho, _⟩, _⟩ := I.loc
    exact free _ o (fun z => (hch _ z).2.1 rfl) ho I.free
  · obtain ⟨v, o, ho, hd⟩ := I.cell x c e
    exact free c o (fun z => (hch c z).2.2.1 x c e rfl) ho (I.freeC x c e)
  · obtain ⟨e, n, ne, nf, d⟩ := I.pin p hp
    have nch : p.1 ∉ ch := fun z => (hch p.1 z).2.2.2 p hp rfl
    exact ⟨keep p.1 p.2 ne nf nch e n, free p.1 p.2 nch e n, ne, nf, d⟩
/-- .. where the frame's own object is kept too -/
theorem Inv.un {t' : Nat} (I : Inv X pins σ H s) (u : Un X.fs [] H H' s.heap h') (hok : HOk X.prog X.w H' h') : Inv X pins σ H' { s with heap := h', toks := t' } := by
  obtain ⟨m, ⟨o, es, ep, ho, r⟩, _⟩ := id I.loc
  obtain ⟨sl, hL⟩ := u.any ho I.free (by simp)
  exact I.step (g' := s.gens) (d' := s.drawn) (ch := []) (fun _ z => nomatch z) (fun b o _ hb _ e n => u.keep b o e n hb (by simp)) (fun b o _ hb _ e n => u.slot b o e n hb (by simp)) (fun b o _ e n => u.free b o e n (by simp)) (fun b o _ e => u.there b o e (by simp)) u.tups u.frzs u.tbls (fun m' hm => by
    obtain ⟨o', es', ep', ho', r'⟩ := hm
    rw [ho] at ho'; cases ho'
    exact ⟨_, es', ep', hL, r'⟩) hok I.bare
/-- behind a call (or a comprehension's block): the slots of this frame may have changed too, the records at ch may have turned -/
theorem Inv.call {g' : Array GenState} {t' : Nat} {d' : Drawn} {ch : List Addr} (I : Inv X pins σ H s) (u : Un (frs X.stack) ch H H' s.heap h') (hok : HOk X.prog X.w H' h') (hg : AllBare g')
    (hch : ∀ b ∈ ch, (b ∈ X.ex ∨ X.s₀.heap.objs.size ≤ b) ∧ b ≠ X.env.locals ∧ (∀ x c, X.env.cells.lookup x = some c → c ≠ b) ∧ ∀ p ∈ X.pn ++ pins, p.1 ≠ b) :
    Inv X pins σ H' { s with heap := h', gens := g', drawn := d', toks := t' } := by
  obtain ⟨m, ⟨o, es, ep, ho, r⟩, _⟩ := id I.loc
  obtain ⟨sl, hL⟩ := u.any ho I.free fun z => (hch _ z).2.1 rfl
  exact I.step (ch := ch) hch (fun b o hL hb hc e n => u.keep b o e n (fun z => (List.mem_cons.mp (I.stkSub b z)).elim hL hb) hc) (fun b o _ _ hc e n => u.any e n hc) (fun b o hc e n => u.free b o e n hc) (fun b o hc e => u.there b o e hc) u.tups u.frzs u.tbls (fun m' hm => by
    obtain ⟨o', es', ep', ho', r'⟩ := hm
    rw [ho] at ho'; cases ho'
    exact ⟨_, es', ep', hL, r'⟩) hok hg
/-- an untracked record of ours (an iterator) has turned -/
theorem Inv.turned {t' : Nat} {it : Addr} (I : Inv X pins σ H s) (k : ∀ b o, b ≠ it → s.heap.get? b = some o → h'.get? b = some o) (hn : H it = none) (hL : it ≠ X.env.locals)
    (h1 : it ∈ X.ex ∨ X.s₀.heap.objs.size ≤ it) (h2 : ∀ x c, X.env.cells.lookup x = some c → c ≠ it) (h3 : ∀ p ∈ X.pn ++ pins, p.1 ≠ it) : Inv X pins σ H { s with heap := h', toks := t' } := by
  have nit : ∀ b u, H b = some u → b ≠ it := fun b u e z => by rw [z, hn] at e; cases e
  refine I.step (g' := s.gens) (d' := s.drawn) (ch := [it]) (fun b hb => ?_) (fun b o _ _ hc e _ => k b o (fun z => hc (by simp [z])) e) (fun b o _ _ hc e _ => ⟨o.slots, k b o (fun z => hc (by simp [z])) e⟩) (fun _ _ _ _ n => n)
    (fun b o hc e => ⟨o, k b o (fun z => hc (by simp [z])) e⟩) (fun _ _ e => e) (fun _ _ _ e => e) (fun b ps e => ⟨#[], by rw [e]; simp⟩) (fun m hm => ?_) (fun b u e => ?_) I.bare
  · have e : b = it := by simpa using hb
    subst e
    exact ⟨h1, hL, h2, h3⟩
  · obtain ⟨o, es, ep, ho, r⟩ := hm
    exact ⟨o, es, ep, k _ o (Ne.symm hL) ho, r⟩
  · refine (I.hok b u e).stay (fun c v hc q => k c v ?_ q) (fun _ q => q) fun _ _ q => q
    rcases hc with z | z
    · rw [z]; exact nit b u e
    · exact nit c _ z
theorem Inv.tok (I : Inv X pins σ H s) (t : Nat) : Inv X pins σ H { s with toks := t } := I.un (h' := s.heap) (t' := t) Un.refl I.hok
/-- all objects kept -/
theorem Inv.kept {t' : Nat} (I : Inv X pins σ H s) (k : ∀ b u, s.heap.get? b = some u → h'.get? b = some u) : Inv X pins σ H { s with heap := h', toks := t' } := I.un (Un.kept k) (I.hok.kept k)
/-- a new object laid and tracked -/
theorem Inv.laid {a : Addr} {o : HO} {t' : Nat} (I : Inv X pins σ H s) (k : ∀ b u, s.heap.get? b = some u → h'.get? b = some u) (hp : s.heap.objs.size ≤ a) (new : ObjOk X.prog X.w (upd H a o) h' a o) :
    Inv X pins σ (upd H a o) { s with heap := h', toks := t' } := I.un (Un.laid k hp (I.hok.fresh hp)) (I.hok.laid k hp new)
/-- an object written -/
theorem Inv.write {x e : Addr} {o : HO} {t' : Nat} (I : Inv X pins σ H s) (mu : Mut (H x)) (he : e = x ∨ H e = some (.own x)) (k : ∀ b u, b ≠ e → s.heap.get? b = some u → h'.get? b = some u) (heo : ∃ u, h'.get? e = some u)
    (new : ObjOk X.prog X.w (upd H x o) h' x o) : Inv X pins σ (upd H x o) { s with heap := h', toks := t' } := I.un (Un.write mu he k heo) (I.hok.write mu he k heo new)
/-- forgetting slots, pins -/
theorem Inv.weak {σ' : List (Option V)} (I : Inv X pins σ H s) (hl : σ'.length = σ.length) (w : ∀ (i : Nat) v, σ'[i]? = some (some v) → σ[i]? = some (some v)) : Inv X pins σ' H s :=
  ⟨I.ok, I.os, I.bare, I.base, let ⟨m, hn, hl'⟩ := I.loc; ⟨m, hn, fun i x v e1 e2 e3 => hl' i x v e1 (w i v e2) e3⟩, I.cell, I.free, I.freeC, I.pin, I.hok, hl.trans I.len⟩
theorem Inv.pins_of {pins' : List (Addr × Obj)} (I : Inv X pins σ H s) (h : ∀ p ∈ pins', s.heap.get? p.1 = some p.2 ∧ H p.1 = none ∧ p.1 ≠ X.env.locals ∧ p.1 ∉ X.fs ∧ ∀ v, p.2.data ≠ .cell v) : Inv X pins' σ H s :=
  ⟨I.ok, I.os, I.bare, I.base, I.loc, I.cell, I.free, I.freeC, fun p hp => (List.mem_append.mp hp).elim (fun z => I.pin p (List.mem_append_left _ z)) (h p), I.hok, I.len⟩

theorem nodup_ix {N : List Str} (hN : N.Nodup) {i j : Nat} {x : Str} (a : N[i]? = some x) (b : N[j]? = some x) : i = j := by
  obtain ⟨h1, e1⟩ := List.getElem?_eq_some_iff.mp a
  obtain ⟨h2, e2⟩ := List.getElem?_eq_some_iff.mp b
  exact (List.getElem_inj hN).mp (e1.trans e2.symm)

/-- a name is stored; what changed -/
theorem store_ok2 {M : Model} {A : Around} {E : Value → Shared → Prop} {i : Nat} {x : Str} {v : V} {u : Value} {Q : Unit → Shared → Prop} (I : Inv X pins σ H s) (hN : X.N.Nodup) (hi : X.N[i]? = some x) (hx : Loc X.env.scope x) (r : RelV v u)
    (h : ∀ s', Inv X pins (σ.set i (some v)) H s' → (∃ a, Heap.SameBut a s.heap s'.heap ∧ (a = X.env.locals ∨ X.env.cells.lookup x = some a)) → Q () s') (hf : X.fn x = true ∨ X.env.scope.names.lookup x = some .local := by first | exact .inl rfl | exact .inr rfl | assumption) : wpAny M A (storeName X.env x u) Q E s := by
  obtain ⟨m, hn, hl⟩ := id I.loc
  have hcls : (X.env.scope.kind == .class || (X.env.scope.kind == .module && X.env.locals != X.env.globals)) = false := by rw [I.ok.kind]; rfl
  have hiσ : i < σ.length := by rw [I.len]; exact (List.getElem?_eq_some_iff.mp hi).1
  have cne := I.cne
  have tracked : ∀ {a : Addr} {h' : Heap}, (∃ o, s.heap.get? a = some o ∧ H a = none) → Heap.SameBut a s.heap h' → HOk X.prog X.w H h' := fun {a h'} ha hs b ob e => by
    obtain ⟨_, _, hfree⟩ := ha
    refine (I.hok b ob e).stay (fun c w' hc q => (hs.2 c ?_).trans q) (fun _ q => q) fun _ _ q => q
    rintro rfl
    rcases hc with rfl | hc
    · rw [hfree] at e; cases e
    · rw [hfree] at hc; cases hc
  rcases hx with hk | hk
  · refine wpAny_storeName_local hk hn (fun h' hn' hs => ?_) hcls
    obtain ⟨oL, _, _, hoL, _⟩ := id hn
    refine h _ ⟨I.ok, I.os, I.bare, ⟨fun b o e n hb hx => ?_, fun b o e n hb hx => ?_, I.base.free, fun b o e hx => ?_, I.base.tups, I.base.frzs, I.base.tbls⟩, ⟨_, hn', fun j y v' e1 e2 e3 => ?_⟩, fun y c e => ?_, I.free, I.freeC, fun p hp => ?_, tracked ⟨oL, hoL, I.free⟩ hs, by simpa using I.len⟩ ⟨_, hs, .inl rfl⟩
    · exact (hs.2 b (Nat.ne_of_lt (Nat.lt_of_lt_of_le (Heap.lt_size e) I.ok.above))).trans (I.base.keep b o e n hb hx)
    · obtain ⟨sl, e1⟩ := I.base.slot b o e n hb hx
      exact ⟨sl, (hs.2 b (Nat.ne_of_lt (Nat.lt_of_lt_of_le (Heap.lt_size e) I.ok.above))).trans e1⟩
    · obtain ⟨o', e1⟩ := I.base.there b o e hx
      exact ⟨o', (hs.2 b (Nat.ne_of_lt (Nat.lt_of_lt_of_le (Heap.lt_size e) I.ok.above))).trans e1⟩
    · by_cases hj : j = i
      · subst hj
        rw [hi] at e1; cases e1
        rw [List.getElem?_set_self hiσ] at e2
        cases e2
        exact ⟨u, r, .inl ⟨hk, by simp⟩⟩
      · rw [List.getElem?_set_ne (Ne.symm hj)] at e2
        obtain ⟨u', r', q⟩ := hl j y v' e1 e2 e3
        refine ⟨u', r', ?_⟩
        rcases q with ⟨k, e⟩ | ⟨k, c, e, z⟩
        · refine .inl ⟨k, ?_⟩
          have : y ≠ x := fun e => hj (nodup_ix hN e1 (e ▸ hi))
          simp [this, e]
        · exact .inr ⟨k, c, e, z.sameBut hs (cne y c e)⟩
    · obtain ⟨w', z⟩ := I.cell y c e
      exact ⟨w', z.sameBut hs (cne y c e)⟩
    · obtain ⟨e, n, ne, nf, d⟩ := I.pin p hp
      exact ⟨(hs.2 p.1 ne).trans e, n, ne, nf, d⟩
  · have hfn : X.fn x = true := by
      rcases hf with z | z
      · exact z
      · rw [z] at hk; cases hk
    obtain ⟨c, hc⟩ := I.ok.has x (.inl hk)
    obtain ⟨w', z⟩ := I.cell x c hc
    refine wpAny_storeName_cell I.ok.kind hk hc z (fun h' hc' hs => ?_)
    obtain ⟨oc, hoc, hocd⟩ := id z
    refine h { s with heap := h' } ⟨I.ok, I.os, I.bare, ⟨fun b o e n hb hx => ?_, fun b o e n hb hx => ?_, I.base.free, fun b o e hx => ?_, I.base.tups, I.base.frzs, I.base.tbls⟩, ⟨m, hn.sameBut hs (Ne.symm (cne x c hc)), fun j y v' e1 e2 e3 => ?_⟩, fun y c' e => ?_, I.free, I.freeC, fun p hp => ?_, tracked ⟨oc, hoc, I.freeC x c hc⟩ hs, by simpa using I.len⟩ ⟨c, hs, .inr hc⟩
    · exact (hs.2 b (Nat.ne_of_lt (Nat.lt_of_lt_of_le (Heap.lt_size e) (I.ok.cab x c hfn hc)))).trans (I.base.keep b o e n hb hx)
    · obtain ⟨sl, e1⟩ := I.base.slot b o e n hb hx
      exact ⟨sl, (hs.2 b (Nat.ne_of_lt (Nat.lt_of_lt_of_le (Heap.lt_size e) (I.ok.cab x c hfn hc)))).trans e1⟩
    · obtain ⟨o', e1⟩ := I.base.there b o e hx
      exact ⟨o', (hs.2 b (Nat.ne_of_lt (Nat.lt_of_lt_of_le (Heap.lt_size e) (I.ok.cab x c hfn hc)))).trans e1⟩
    · by_cases hj : j = i
      · subst hj
        rw [hi] at e1; cases e1
        rw [List.getElem?_set_self hiσ] at e2
        cases e2
        exact ⟨u, r, .inr ⟨.inl hk, c, hc, hc'⟩⟩
      · rw [List.getElem?_set_ne (Ne.symm hj)] at e2
        obtain ⟨u', r', q⟩ := hl j y v' e1 e2 e3
        refine ⟨u', r', ?_⟩
        rcases q with q | ⟨k, c', e, z'⟩
        · exact .inl q
        · refine .inr ⟨k, c', e, z'.sameBut hs ?_⟩
          rintro rfl
          exact hj (nodup_ix hN e1 (I.ok.inj _ _ _ e hc ▸ hi))
    · by_cases hcc : c' = c
      · subst hcc; exact ⟨_, hc'⟩
      · obtain ⟨w2, z2⟩ := I.cell y c' e
        exact ⟨w2, z2.sameBut hs hcc⟩
    · obtain ⟨e, n, ne, nf, d⟩ := I.pin p hp
      refine ⟨(hs.2 p.1 ?_).trans e, n, ne, nf, d⟩
      intro q
      rw [q, hoc] at e
      have q' : oc = p.2 := Option.some.inj e
      exact d w' (by rw [← q']; exact hocd)
theorem store_ok {M : Model} {A : Around} {E : Value → Shared → Prop} {i : Nat} {x : Str} {v : V} {u : Value} {Q : Unit → Shared → Prop} (I : Inv X pins σ H s) (hN : X.N.Nodup) (hi : X.N[i]? = some x) (hx : Loc X.env.scope x) (r : RelV v u)
    (h : ∀ s', Inv X pins (σ.set i (some v)) H s' → Q () s') (hf : X.fn x = true ∨ X.env.scope.names.lookup x = some .local := by first | exact .inl rfl | exact .inr rfl | assumption) : wpAny M A (storeName X.env x u) Q E s :=
  store_ok2 I hN hi hx r (fun s' I' _ => h s' I') hf
/-- behind a call or a block, the state as it is -/
theorem Inv.call' {s' : Shared} {ch : List Addr} (I : Inv X pins σ H s) (ho : s'.os = s.os) (u : Un (frs X.stack) ch H H' s.heap s'.heap) (hok : HOk X.prog X.w H' s'.heap) (hg : AllBare s'.gens)
    (hch : ∀ b ∈ ch, (b ∈ X.ex ∨ X.s₀.heap.objs.size ≤ b) ∧ b ≠ X.env.locals ∧ (∀ x c, X.env.cells.lookup x = some c → c ≠ b) ∧ ∀ p ∈ X.pn ++ pins, p.1 ≠ b) : Inv X pins σ H' s' := by
  obtain ⟨h', g', d', t', o'⟩ := s'
  have e : o' = s.os := ho
  subst e
  exact I.call (g' := g') (t' := t') (d' := d') u hok hg hch
end

/-! ### the judgements -/
/-- an exception: its class, its own dict's address (where it has one), the abstract heap behind it -/
abbrev XK := Value → Option Addr → Hp → Prop
abbrev St := List (Option V)
abbrev VK := V → Hp → Prop
/-- an expression's reading; a test's; an argument list's -/
abbrev TE := St → Hp → VK → Prop
abbrev TT := St → Hp → (Bool → Hp → Prop) → Prop
abbrev TA := St → Hp → (List V → Hp → Prop) → Prop
/-- what is wanted behind a statement -/
structure Ends where
  nx : St → Hp → Prop
  rt : VK
  bk : St → Hp → Prop := fun _ _ => False
  ct : St → Hp → Prop := fun _ _ => False
abbrev TS := Ends → St → Hp → Prop

def EP (X : Cx) (pins : List (Addr × Obj)) (σ : St) (Q : VK) (u : Value) (s' : Shared) : Prop := ∃ v H', Inv X pins σ H' s' ∧ RelV v u ∧ Q v H'
def TP (X : Cx) (pins : List (Addr × Obj)) (σ : St) (Q : Bool → Hp → Prop) (b : Bool) (s' : Shared) : Prop := ∃ H', Inv X pins σ H' s' ∧ Q b H'
def AP (X : Cx) (pins : List (Addr × Obj)) (σ : St) (Q : List V → Hp → Prop) (us : List Value) (s' : Shared) : Prop := ∃ vs H', Inv X pins σ H' s' ∧ Vals vs us ∧ Q vs H'
def SP (X : Cx) (pins : List (Addr × Obj)) (D : Ends) (f : Flow) (s' : Shared) : Prop :=
  match f with
  | .next => ∃ σ' H', Inv X pins σ' H' s' ∧ D.nx σ' H'
  | .brk => ∃ σ' H', Inv X pins σ' H' s' ∧ D.bk σ' H'
  | .cont => ∃ σ' H', Inv X pins σ' H' s' ∧ D.ct σ' H'
  | .ret u => ∃ v σ' H', Inv X pins σ' H' s' ∧ RelV v u ∧ D.rt v H'

def PE (X : Cx) (e : Expr) (t : TE) : Prop :=
  ∀ (pins : List (Addr × Obj)) (s : Shared) (σ : St) (H : Hp) (Q : VK), Inv X pins σ H s → t σ H Q → wpAny (model X.prog X.w) X.A (eval e X.env) (EP X pins σ Q) X.xe s
def PT (X : Cx) (e : Expr) (t : TT) : Prop :=
  ∀ (pins : List (Addr × Obj)) (s : Shared) (σ : St) (H : Hp) (Q : Bool → Hp → Prop), Inv X pins σ H s → t σ H Q → wpAny (model X.prog X.w) X.A (isTrue e X.env (eval e X.env)) (TP X pins σ Q) X.xe s
/-- a test whatever its 'whole' is (and, or) -/
def PW (X : Cx) (e : Expr) (t : TT) : Prop :=
  ∀ (whole : Sem Value) (pins : List (Addr × Obj)) (s : Shared) (σ : St) (H : Hp) (Q : Bool → Hp → Prop), Inv X pins σ H s → t σ H Q → wpAny (model X.prog X.w) X.A (isTrue e X.env whole) (TP X pins σ Q) X.xe s
theorem PW.pt {X : Cx} {e : Expr} {t : TT} (h : PW X e t) : PT X e t := h _
/-- an argument list (no star), from the left -/
def PA (X : Cx) (es : List Expr) (t : TA) : Prop :=
  ∀ (pos : Pos) (pins : List (Addr × Obj)) (s : Shared) (σ : St) (H : Hp) (Q : List V → Hp → Prop), Inv X pins σ H s → t σ H Q → wpAny (model X.prog X.w) X.A (spliced (backTo pos (starEach es X.env))) (AP X pins σ Q) X.xe s
def PS (X : Cx) (st : Stmt) (t : TS) : Prop :=
  ∀ (pins : List (Addr × Obj)) (s : Shared) (σ : St) (H : Hp) (D : Ends), Inv X pins σ H s → t D σ H → wpAny (model X.prog X.w) X.A (exec st X.env) (SP X pins D) X.xe s
def PSs (X : Cx) (st : List Stmt) (t : TS) : Prop :=
  ∀ (pins : List (Addr × Obj)) (s : Shared) (σ : St) (H : Hp) (D : Ends), Inv X pins σ H s → t D σ H → wpAny (model X.prog X.w) X.A (execs st X.env) (SP X pins D) X.xe s
/-- weaken the end -/
theorem thn {α : Type} {t : Sem α} {Q Q' : α → Shared → Prop} {M : Model} {A : Around} {E : Value → Shared → Prop} {s : Shared} (h : wpAny M A t Q E s) (hQ : ∀ a s, Q a s → Q' a s) : wpAny M A t Q' E s := wpAny_mono h hQ fun _ _ x => x
end L2

namespace L2
open PySem PySem.Spec PyProof.Rows
section
variable {X : Cx}

/-! ### names and constants -/
def tVar (i : Nat) : TE := fun σ H Q => ∃ v, σ[i]? = some (some v) ∧ Q v H
def tC (v : V) : TE := fun _ H Q => Q v H
theorem pe_var {i : Nat} {x : Str} {pos : Pos} (hN : X.N[i]? = some x) (hv : Vis X.env.scope x) (hd : (x == ("__debug__" : Str)) = false := by decide) (hcd : (x == ("__classdict__" : Str)) = false := by decide) : PE X (.Name x pos) (tVar i) := by
  intro pins s σ H Q I h
  obtain ⟨v, e, h⟩ := h
  obtain ⟨m, hn, hl⟩ := I.loc
  obtain ⟨u, r, l⟩ := hl i x v hN e hv
  have fin : EP X pins σ Q u s := ⟨v, H, I, r, h⟩
  rcases l with ⟨hk, hm⟩ | ⟨hk, c, hc, hcell⟩
  · exact wpAny_Name (wpAny_loadName_local I.ok.kind hk hn hm fin) hd
  · rcases hk with hk | hk
    · exact wpAny_Name (wpAny_loadName_cell I.ok.kind hk hc hcell fin) hd
    · exact wpAny_Name (wpAny_loadName_free I.ok.kind hk hc hcell fin hcd) hd
theorem pe_int {i j pos} : PE X (.Constant (.int i) j pos) (tC (.int i)) := fun _ _ _ H _ I h => wpAny_Constant_int ⟨.int i, H, I.tok _, ⟨_, rfl⟩, h⟩
theorem pe_bl {b j pos} : PE X (.Constant (.bool b) j pos) (tC (.bl b)) := fun _ _ _ H _ I h => Constant_bool ⟨.bl b, H, I, rfl, h⟩
theorem pe_non {j pos} : PE X (.Constant .none j pos) (tC .non) := fun _ _ _ H _ I h => Constant_none ⟨.non, H, I, rfl, h⟩
/-- a global name of the def -/
def Gl (X : Cx) (x : Str) : Prop := X.env.kindOf x = some .globalImplicit
theorem ld_glob {E : Value → Shared → Prop} {pins : List (Addr × Obj)} {s : Shared} {σ : St} {H : Hp} {x : Str} {u : Value} {pos : Pos} {Q : Value → Shared → Prop} (I : Inv X pins σ H s) (hg : Gl X x) (hm : X.mg x = some u) (h : Q u s)
    (hd : (x == ("__debug__" : Str)) = false := by decide) : wpAny (model X.prog X.w) X.A (eval (.Name x pos) X.env) Q E s :=
  Calls.Name_function_global I.ok.kind hg (Calls.loadGlobal_global (by rw [I.ok.glob]; exact I.mod.glob.keeps I.bk) hm h) hd
theorem ld_blt {E : Value → Shared → Prop} {pins : List (Addr × Obj)} {s : Shared} {σ : St} {H : Hp} {x : Str} {u : Value} {pos : Pos} {Q : Value → Shared → Prop} (I : Inv X pins σ H s) (hg : Gl X x) (hm : X.mg x = none) (hv : bootBuiltins x = some u) (h : Q u s)
    (hn : x ≠ "__name__" := by decide) (hd : (x == ("__debug__" : Str)) = false := by decide) : wpAny (model X.prog X.w) X.A (eval (.Name x pos) X.env) Q E s := by
  obtain ⟨mb, h1, h2⟩ := I.mod.blt
  exact Calls.Name_function_global I.ok.kind hg (Calls.loadGlobal_builtin (by rw [I.ok.glob]; exact I.mod.glob.keeps I.bk) hm (by rw [I.ok.blt]; exact h1.keeps I.bk) ((h2 x hn).trans hv) h) hd
/-- a module's constant, a class, a function, as a value -/
theorem pe_glob {x : Str} {v : V} {u : Value} {pos : Pos} (hg : Gl X x) (hm : X.mg x = some u) (r : RelV v u) (hd : (x == ("__debug__" : Str)) = false := by decide) : PE X (.Name x pos) (tC v) :=
  fun _ _ _ H _ I h => ld_glob I hg hm ⟨v, H, I, r, h⟩ hd
theorem pe_bltn {x : Str} {v : V} {u : Value} {pos : Pos} (hg : Gl X x) (hm : X.mg x = none) (hv : bootBuiltins x = some u) (r : RelV v u) (hn : x ≠ "__name__" := by decide) (hd : (x == ("__debug__" : Str)) = false := by decide) : PE X (.Name x pos) (tC v) :=
  fun _ _ _ H _ I h => ld_blt I hg hm hv ⟨v, H, I, r, h⟩ hn hd

/-! ### arithmetic -/
variable {a b : Expr} {ta tb : TE} {pos : Pos}
/-! ### comparisons -/
def PC (X : Cx) (op : CmpOp) (a b : Expr) (t : TE) : Prop :=
  ∀ (pins : List (Addr × Obj)) (s : Shared) (σ : St) (H : Hp) (Q : VK), Inv X pins σ H s → t σ H Q →
    wpAny (model X.prog X.w) X.A (eval a X.env) (fun v s₁ => wpAny (model X.prog X.w) X.A (eval b X.env) (fun u s₂ => wpAny (model X.prog X.w) X.A (compareOp op v u) (EP X pins σ Q) X.xe s₂) X.xe s₁) X.xe s
theorem nobehind (b : Expr) {op : CmpOp} (h : op ≠ .In) (h2 : op ≠ .NotIn) : behindInMarks op b = false := by
  have e1 : (op == CmpOp.In) = false := by cases op <;> first | rfl | exact absurd rfl h
  have e2 : (op == CmpOp.NotIn) = false := by cases op <;> first | rfl | exact absurd rfl h2
  cases b <;> simp [behindInMarks, e1, e2]
/-- is None -/
def tIsN (ta : TE) : TE := fun σ H Q => ta σ H fun x H1 => Q (.bl (decide (x = .non))) H1
theorem RelV.none_iff {x : V} {v : Value} (r : RelV x v) : (v == Value.none) = decide (x = .non) := by
  cases x with
  | non => cases r; rfl
  | bl _ => cases r; rfl
  | int _ => obtain ⟨t, rfl⟩ := r; rfl
  | str _ => obtain ⟨t, rfl⟩ := r; rfl
  | byt _ => obtain ⟨t, rfl⟩ := r; rfl
  | flt _ => obtain ⟨t, rfl⟩ := r; rfl
  | ref _ => cases r; rfl
  | ty _ => cases r; rfl
theorem pc_isN {j pos'} (ha : PE X a ta) : PC X .Is a (.Constant .none j pos') (tIsN ta) := by
  intro pins s σ H Q I h
  refine thn (ha pins s σ H _ I h) fun v s1 ⟨x, H1, I1, r1, q1⟩ => ?_
  exact Constant_none (is_none_gen ⟨.bl _, H1, I1, by rw [r1.none_iff]; rfl, q1⟩)
/-- a comparison as a value, as a test -/
def tB (t : TE) : TT := fun σ H Q => t σ H fun x H1 => ∃ c, x = .bl c ∧ Q c H1
theorem pe_cmp {op : CmpOp} {t : TE} (h : PC X op a b t) (h1 : behindInMarks op b = false := by first | exact nobehind _ (by decide) (by decide) | rfl) : PE X (.Compare a [op] [b] pos) t := fun pins s σ H Q I hw => wpAny_Compare1 (h pins s σ H Q I hw) h1
/-- an expression whose value is a bool, as a test -/
theorem pt_val {e : Expr} {t : TE} (h : PE X e t) (he : ∀ whole, isTrue e X.env whole = (do let v ← whole; standAt e.pos; holding [v] (truthy v)) := by intro _; rfl) : PT X e (tB t) := by
  intro pins s σ H Q I hw
  refine isTrue_plain (thn (h pins s σ H _ I hw) fun v s1 ⟨x, H1, I1, r1, q1⟩ => ?_) (he _)
  obtain ⟨d, rfl, q⟩ := q1
  cases r1
  exact wpAny_truthy_bool ⟨H1, I1, q⟩

/-! ### and, or, not -/
variable {tA tB' : TT} {rest : List Expr}
def tOr (t u : TT) : TT := fun σ H Q => t σ H fun c H1 => if c = true then Q true H1 else u σ H1 Q
def tNot (t : TT) : TT := fun σ H Q => t σ H fun c H1 => Q (!c) H1
theorem pw_or1 (ha : PT X a tA) : PW X (.BoolOp .Or [a] pos) tA := by
  intro wh pins s σ H Q I h
  refine isTrue_or (thn (ha pins s σ H Q I h) fun c s1 e => ?_)
  cases c with
  | false => exact isTrue_or_nil e
  | true => exact e
theorem pw_or (ha : PT X a tA) (hb : PW X (.BoolOp .Or (b :: rest) pos) tB') : PW X (.BoolOp .Or (a :: b :: rest) pos) (tOr tA tB') := by
  intro wh pins s σ H Q I h
  refine isTrue_or (thn (ha pins s σ H _ I h) fun c s1 ⟨H1, I1, q1⟩ => ?_)
  cases c with
  | true => exact ⟨H1, I1, q1⟩
  | false => exact hb wh pins s1 σ H1 Q I1 q1
theorem pt_not (ha : PT X a tA) : PT X (.UnaryOp .Not a pos) (tNot tA) := by
  intro pins s σ H Q I h
  exact isTrue_not (ha pins s σ H (fun c H1 => Q (!c) H1) I h)
/-- .. as values (bools) -/
def tAndV (ta tb : TE) : TE := fun σ H Q => ta σ H fun x H1 => ∃ c, x = .bl c ∧ if c = true then tb σ H1 Q else Q (.bl false) H1
def tNotV (ta : TE) : TE := fun σ H Q => ta σ H fun x H1 => ∃ c, x = .bl c ∧ Q (.bl (!c)) H1
theorem pe_one {op} {t : TE} (h : PE X a t) : PE X (.BoolOp op [a] pos) t := fun pins s σ H Q I hw => BoolOp_one (h pins s σ H Q I hw)
theorem pe_and (ha : PE X a ta) (hb : PE X (.BoolOp .And (b :: rest) pos) tb) : PE X (.BoolOp .And (a :: b :: rest) pos) (tAndV ta tb) := by
  intro pins s σ H Q I h
  refine BoolOp_and (thn (ha pins s σ H _ I h) fun v s1 ⟨x, H1, I1, r1, q1⟩ => ?_)
  obtain ⟨c, rfl, q1⟩ := q1
  cases r1
  refine wpAny_truthy_bool ?_
  cases c with
  | true => exact hb pins s1 σ H1 Q I1 q1
  | false => exact ⟨.bl false, H1, I1, rfl, q1⟩
theorem pe_not (ha : PE X a ta) : PE X (.UnaryOp .Not a pos) (tNotV ta) := by
  intro pins s σ H Q I h
  refine UnaryOp_ (thn (ha pins s σ H _ I h) fun v s1 ⟨x, H1, I1, r1, q1⟩ => ?_)
  obtain ⟨c, rfl, q1⟩ := q1
  cases r1
  exact not_of (wpAny_truthy_bool ⟨.bl (!c), H1, I1, rfl, q1⟩)
/-- a if t else b -/
def tIf (t : TT) (ta tb : TE) : TE := fun σ H Q => t σ H fun c H1 => if c = true then ta σ H1 Q else tb σ H1 Q
theorem pe_ifExp {c : Expr} (hc : PT X c tA) (ha : PE X a ta) (hb : PE X b tb) : PE X (.IfExp c a b pos) (tIf tA ta tb) := by
  intro pins s σ H Q I h
  refine wpAny_IfExp (thn (hc pins s σ H _ I h) fun d s1 ⟨H1, I1, q1⟩ => ?_)
  cases d with
  | true => exact ha pins s1 σ H1 Q I1 q1
  | false => exact hb pins s1 σ H1 Q I1 q1
end
end L2

namespace L2
open PySem PySem.Spec PyProof.Rows

/-! ### a list, a tuple that is read: tracked, frozen, or an object of the module -/
def SqL (K : PySem.W.Frag) (H : Hp) (a : Addr) (xs : List V) : Prop :=
  Rd H a (.lst xs) ∨
    ∃ (o : Obj) (its : Array Value) (n : Nat), K.lookup a = some o ∧ o.cls = .type "list" ∧ o.dict = none ∧ o.data = .seq its n ∧ its.size ≤ sizeLine ∧ Vals xs its.toList
def SqT (K : PySem.W.Frag) (H : Hp) (a : Addr) (xs : List V) : Prop :=
  Rd H a (.tup xs) ∨
    ∃ (o : Obj) (its : Array Value) (n : Nat), K.lookup a = some o ∧ o.cls = .type "tuple" ∧ o.data = .seq its n ∧ its.size ≤ sizeLine ∧ Vals xs its.toList
def absV : Value → Option V
  | .none => some .non
  | .bool b => some (.bl b)
  | .int i _ => some (.int i)
  | .str x _ => some (.str x)
  | .bytes b _ => some (.byt b)
  | .float b _ => some (.flt b)
  | .ref a => some (.ref a)
  | .type n => some (.ty n)
  | _ => none
theorem RelV.abs {x : V} {u : Value} (r : RelV x u) : absV u = some x := by
  cases x with
  | non => cases r; rfl
  | bl _ => cases r; rfl
  | int _ => obtain ⟨t, rfl⟩ := r; rfl
  | str _ => obtain ⟨t, rfl⟩ := r; rfl
  | byt _ => obtain ⟨t, rfl⟩ := r; rfl
  | flt _ => obtain ⟨t, rfl⟩ := r; rfl
  | ref _ => cases r; rfl
  | ty _ => cases r; rfl
theorem RelV.inj {x y : V} {u : Value} (r : RelV x u) (q : RelV y u) : x = y := Option.some.inj (r.abs.symm.trans q.abs)
theorem Vals.inj : ∀ {xs ys : List V} {us : List Value}, Vals xs us → Vals ys us → xs = ys
  | _, _, _, .nil, .nil => rfl
  | _, _, _, .cons r t, .cons r' t' => by rw [r.inj r', Vals.inj t t']
section
variable {X : Cx} {pins : List (Addr × Obj)} {σ : St} {H : Hp} {s : Shared} {a : Addr} {xs ys : List V}
theorem SqL.of {K : PySem.W.Frag} (h : H a = some (.lst xs)) : SqL K H a xs := .inl (.inl h)
theorem SqT.of {K : PySem.W.Frag} (h : H a = some (.tup xs)) : SqT K H a xs := .inl (.inl h)
theorem Inv.list (I : Inv X pins σ H s) (h : SqL X.K H a xs) : ∃ its : List Value, Vals xs its ∧ PlainL s.heap a its.toArray ∧ xs.length ≤ sizeLine := by
  rcases h with h | ⟨o, its, n, hk, hc, hd, hs, hz, r⟩
  · obtain ⟨z, its, n, r, e⟩ := h.ok I.hok
    exact ⟨its, r, ⟨_, n, e, rfl, rfl, rfl⟩, z⟩
  · refine ⟨its.toList, r, ⟨o, n, I.kIn a o hk, hc, hd, by simpa using hs⟩, ?_⟩
    have e := r.length
    simp only [Array.length_toList] at e
    omega
theorem Inv.tuple (I : Inv X pins σ H s) (h : SqT X.K H a xs) : ∃ its : List Value, Vals xs its ∧ IsTup s.heap a its.toArray ∧ xs.length ≤ sizeLine := by
  rcases h with h | ⟨o, its, n, hk, hc, hs, hz, r⟩
  · obtain ⟨z, its, r, p⟩ := h.ok I.hok
    exact ⟨its, r, p.tup, z⟩
  · refine ⟨its.toList, r, ⟨o, I.kIn a o hk, hc, n, by simpa using hs⟩, ?_⟩
    have e := r.length
    simp only [Array.length_toList] at e
    omega
theorem Inv.list_inj (I : Inv X pins σ H s) (h : SqL X.K H a xs) (h' : SqL X.K H a ys) : xs = ys := by
  obtain ⟨its, r, ⟨o, n, e, _, _, d⟩, _⟩ := I.list h
  obtain ⟨its', r', ⟨o', n', e', _, _, d'⟩, _⟩ := I.list h'
  rw [e] at e'; cases e'
  rw [d] at d'
  injection d' with d1 _
  have : its = its' := by simpa using congrArg Array.toList d1
  subst this
  exact r.inj r'
theorem Inv.tuple_inj (I : Inv X pins σ H s) (h : SqT X.K H a xs) (h' : SqT X.K H a ys) : xs = ys := by
  obtain ⟨its, r, ⟨o, e, _, n, d⟩, _⟩ := I.tuple h
  obtain ⟨its', r', ⟨o', e', _, n', d'⟩, _⟩ := I.tuple h'
  rw [e] at e'; cases e'
  rw [d] at d'
  injection d' with d1 _
  have : its = its' := by simpa using congrArg Array.toList d1
  subst this
  exact r.inj r'
end

/-! ### another wish about exceptions -/
abbrev Cx.wish (X : Cx) (E : Value → Shared → Prop) : Cx := { X with xe := E }
/-- no exception leaves -/
abbrev Cx.nox (X : Cx) : Cx := X.wish fun _ _ => False
theorem Cx.Ok.wish {X : Cx} (ok : X.Ok) (E : Value → Shared → Prop) : (X.wish E).Ok :=
  ⟨ok.mod, ok.kind, ok.glob, ok.blt, ok.above, ok.inj, ok.has, ok.cab, ok.hd, ok.frames, ok.stk, ok.exf, ok.bs, ok.bsz, ok.noex, ok.exfs, ok.funs, ok.frf⟩
theorem Cx.Ok.unwish {X : Cx} {E : Value → Shared → Prop} (ok : (X.wish E).Ok) : X.Ok :=
  ⟨ok.mod, ok.kind, ok.glob, ok.blt, ok.above, ok.inj, ok.has, ok.cab, ok.hd, ok.frames, ok.stk, ok.exf, ok.bs, ok.bsz, ok.noex, ok.exfs, ok.funs, ok.frf⟩
section
variable {X : Cx} {pins : List (Addr × Obj)} {σ : St} {H : Hp} {s : Shared} {E : Value → Shared → Prop}
theorem Inv.wish (I : Inv X pins σ H s) (E : Value → Shared → Prop) : Inv (X.wish E) pins σ H s := ⟨I.ok.wish E, I.os, I.bare, I.base, I.loc, I.cell, I.free, I.freeC, I.pin, I.hok, I.len⟩
theorem Inv.unwish (I : Inv (X.wish E) pins σ H s) : Inv X pins σ H s := ⟨I.ok.unwish, I.os, I.bare, I.base, I.loc, I.cell, I.free, I.freeC, I.pin, I.hok, I.len⟩
theorem SP.unwish {D : Ends} {f : Flow} {s' : Shared} (h : SP (X.wish E) pins D f s') : SP X pins D f s' := by
  cases f with
  | next => obtain ⟨σ', H', I, q⟩ := h; exact ⟨σ', H', I.unwish, q⟩
  | brk => obtain ⟨σ', H', I, q⟩ := h; exact ⟨σ', H', I.unwish, q⟩
  | cont => obtain ⟨σ', H', I, q⟩ := h; exact ⟨σ', H', I.unwish, q⟩
  | ret u => obtain ⟨v, σ', H', I, r, q⟩ := h; exact ⟨v, σ', H', I.unwish, r, q⟩
theorem PSs.nox {st : List Stmt} {t : TS} (h : PSs X.nox st t) : PSs X st t := fun pins s σ H D I hw =>
  wpAny_mono (h pins s σ H D (I.wish _) hw) (fun _ _ q => q.unwish) fun _ _ z => False.elim z
end

/-! ### blocks and small statements -/
section
variable {X : Cx} {st : Stmt} {rest : List Stmt} {t u : TS} {e : Expr} {te : TE} {pos : Pos}
def tNext : TS := fun D σ H => D.nx σ H
def tSeq (t u : TS) : TS := fun D σ H => t { D with nx := u D } σ H
theorem pss_nil : PSs X [] tNext := fun _ _ σ H _ I h => wpAny_execs_nil ⟨σ, H, I, h⟩
theorem pss_cons (h1 : PS X st t) (h2 : PSs X rest u) : PSs X (st :: rest) (tSeq t u) := by
  intro pins s σ H D I h
  refine wpAny_execs_cons (thn (h1 pins s σ H { D with nx := u D } I h) fun f s1 q => ?_)
  cases f with
  | next =>
    obtain ⟨σ', H', I', q⟩ := q
    exact h2 pins s1 σ' H' D I' q
  | ret v => exact q
  | brk => exact q
  | cont => exact q
theorem pss_one (h1 : PS X st t) : PSs X [st] t := by
  intro pins s σ H D I h
  refine wpAny_execs_cons (thn (h1 pins s σ H D I h) fun f s1 q => ?_)
  cases f with
  | next => exact wpAny_execs_nil q
  | ret v => exact q
  | brk => exact q
  | cont => exact q
/-- in a def's body nothing is shown -/
theorem Inv.quiet {pins : List (Addr × Obj)} {σ : St} {H : Hp} {s : Shared} (I : Inv X pins σ H s) : interactive X.env = false := by simp [interactive, I.ok.kind]
/-- an expression whose value is dropped -/
def tDrop (te : TE) : TS := fun D σ H => te σ H fun _ H1 => D.nx σ H1
theorem ps_expr (he : PE X e te) (hs : swapsWith e none pos.line X.env = pure false := by rfl) : PS X (.Expr e pos) (tDrop te) := by
  intro pins s σ H D I h
  exact wpAny_Expr_any (thn (he pins s σ H _ I h) fun v s1 ⟨x, H1, I1, r1, q1⟩ => ⟨σ, H1, I1, q1⟩) I.quiet hs
def tRet (te : TE) : TS := fun D σ H => te σ H D.rt
theorem ps_ret (he : PE X e te) : PS X (.Return (some e) pos) (tRet te) := by
  intro pins s σ H D I h
  exact wpAny_Return_some (thn (he pins s σ H _ I h) fun v s1 ⟨x, H1, I1, r1, q1⟩ => ⟨x, σ, H1, I1, r1, q1⟩)
def tIfS (c : TT) (t u : TS) : TS := fun D σ H => c σ H fun b H1 => if b = true then t D σ H1 else u D σ H1
theorem ps_if {c : Expr} {a b : List Stmt} {tc : TT} (hc : PT X c tc) (ha : PSs X a t) (hb : PSs X b u) : PS X (.If c a b pos) (tIfS tc t u) := by
  intro pins s σ H D I h
  refine wpAny_If (thn (hc pins s σ H _ I h) fun d s1 ⟨H1, I1, q1⟩ => ?_)
  cases d with
  | true => exact ha pins s1 σ H1 D I1 q1
  | false => exact hb pins s1 σ H1 D I1 q1
/-- code that the proof never comes to -/
def tNever : TS := fun _ _ _ => False
theorem pss_never {sts : List Stmt} : PSs X sts tNever := fun _ _ _ _ _ _ h => h.elim
end

/-! ### targets -/
abbrev TG := V → St → Hp → (St → Hp → Prop) → Prop
abbrev TGs := List V → St → Hp → (St → Hp → Prop) → Prop
def PG (X : Cx) (target : Expr) (t : TG) : Prop :=
  ∀ (pins : List (Addr × Obj)) (s : Shared) (σ : St) (H : Hp) (v : V) (u : Value) (Q : St → Hp → Prop), Inv X pins σ H s → RelV v u → t v σ H Q →
    wpAny (model X.prog X.w) X.A (assign target X.env u) (fun _ s' => ∃ σ' H', Inv X pins σ' H' s' ∧ Q σ' H') X.xe s
/-- several targets, one after another -/
def PGs (X : Cx) (ts : List Expr) (t : TGs) : Prop :=
  ∀ (pins : List (Addr × Obj)) (s : Shared) (σ : St) (H : Hp) (vs : List V) (us : List Value) (Q : St → Hp → Prop), Inv X pins σ H s → Vals vs us → t vs σ H Q →
    wpAny (model X.prog X.w) X.A (assignInOrder ((assignEach ts X.env).map (·.2)) us) (fun _ s' => ∃ σ' H', Inv X pins σ' H' s' ∧ Q σ' H') X.xe s
/-- o[i] = v, by values -/
abbrev TSet := V → V → V → Hp → (Hp → Prop) → Prop
def PSet (X : Cx) (t : TSet) : Prop :=
  ∀ (pins : List (Addr × Obj)) (s : Shared) (σ : St) (H : Hp) (o i v : V) (ov iv u : Value) (Q : Hp → Prop), Inv X pins σ H s → RelV o ov → RelV i iv → RelV v u → t o i v H Q →
    wpAny (model X.prog X.w) X.A (setItem ov iv u) (fun _ s' => ∃ H', Inv X pins σ H' s' ∧ Q H') X.xe s
section
variable {X : Cx} {pos : Pos}
def gName (i : Nat) : TG := fun v σ H Q => Q (σ.set i (some v)) H
theorem pg_name {i : Nat} {x : Str} (hN : X.N.Nodup) (hi : X.N[i]? = some x) (hx : Loc X.env.scope x) (hf : X.fn x = true ∨ X.env.scope.names.lookup x = some .local := by first | exact .inl rfl | exact .inr rfl | assumption) : PG X (.Name x pos) (gName i) := by
  intro pins s σ H v u Q I r h
  exact wpAny_assign_Name (store_ok I hN hi hx r (fun s' I' => ⟨_, H, I', h⟩) hf)
def gNil : TGs := fun vs σ H Q => vs = [] ∧ Q σ H
def gCons (t : TG) (u : TGs) : TGs := fun vs σ H Q => ∃ v r, vs = v :: r ∧ t v σ H fun σ' H' => u r σ' H' Q
theorem pgs_nil : PGs X [] gNil := by
  intro pins s σ H vs us Q I r h
  obtain ⟨e, h⟩ := h
  subst e
  cases r
  exact assignInOrder_nil ⟨σ, H, I, h⟩
theorem pgs_cons {e : Expr} {es : List Expr} {t : TG} {u : TGs} (h1 : PG X e t) (h2 : PGs X es u)
    (hs : (assignEach (e :: es) X.env).map (·.2) = assign e X.env :: (assignEach es X.env).map (·.2) := by rfl) : PGs X (e :: es) (gCons t u) := by
  intro pins s σ H vs us Q I r h
  obtain ⟨v, vr, e1, h⟩ := h
  subst e1
  cases r with
  | cons r rr =>
    rw [hs]
    refine assignInOrder_cons (thn (h1 pins s σ H _ _ _ I r h) fun _ s1 ⟨σ1, H1, I1, q1⟩ => ?_)
    exact h2 pins s1 σ1 H1 _ _ Q I1 rr q1
/-- (a, b, ..) = a tuple of that length -/
def gTup (K : PySem.W.Frag) (n : Nat) (t : TGs) : TG := fun v σ H Q => ∃ a xs, v = .ref a ∧ SqT K H a xs ∧ xs.length = n ∧ t xs σ H Q
theorem pg_tup {es : List Expr} {k : Nat} {t : TGs} {n : Nat} (hc : X.calm = true) (h : PGs X es t)
    (hn : (assignEach es X.env).length = n := by rfl) (hst : (assignEach es X.env).findIdx? (·.1) = none := by rfl) : PG X (.Tuple es k pos) (gTup X.K n t) := by
  intro pins s σ H v u Q I r hw
  obtain ⟨a, xs, e1, hq, hl, hw⟩ := hw
  subst e1
  cases r
  obtain ⟨its, rv, ht, hz⟩ := I.tuple hq
  refine assign_Tuple_tuple (I.ok.hd hc) ht (by simp [hn, ← hl, rv.length]) hst fun h' hx => ?_
  have I1 : Inv X pins σ H { s with heap := h' } := I.kept (t' := s.toks) fun b o e => hx b o (Nat.ne_of_lt (Heap.lt_size e)) e
  exact h pins _ σ H xs _ Q I1 (by simpa using rv) hw
/-- o[i] = .. -/
def gSub (to ti : TE) (t : TSet) : TG := fun v σ H Q => to σ H fun o H1 => ti σ H1 fun i H2 => t o i v H2 fun H3 => Q σ H3
theorem pg_sub {o i : Expr} {to ti : TE} {t : TSet} (ho : PE X o to) (hi : PE X i ti) (hs : PSet X t)
    (ha : ∀ v, assign (.Subscript o i pos) X.env v = (do
      let ov ← holding [v] (eval o X.env)
      let iv ← holding [v, ov] (eval i X.env)
      standAt pos
      holding [v, ov, iv] (setItem ov iv v)
      release [v, ov, iv] []) := by intro _; rfl) : PG X (.Subscript o i pos) (gSub to ti t) := by
  intro pins s σ H v u Q I r h
  rw [ha]
  refine wpAny_bind (wpAny_holding (thn (ho pins s σ H _ I h) fun ov s1 ⟨x, H1, I1, r1, q1⟩ => ?_))
  refine wpAny_bind (wpAny_holding (thn (hi pins s1 σ H1 _ I1 q1) fun iv s2 ⟨y, H2, I2, r2, q2⟩ => ?_))
  refine wpAny_bind (wpAny_standAt (wpAny_bind (wpAny_holding (thn (hs pins s2 σ H2 x y v ov iv u _ I2 r1 r2 r q2) fun _ s3 ⟨H3, I3, q3⟩ => ?_))))
  exact wpAny_release ⟨σ, H3, I3, q3⟩
/-- target = value -/
def tAsg (te : TE) (g : TG) : TS := fun D σ H => te σ H fun x H1 => g x σ H1 D.nx
theorem ps_asg {tg e : Expr} {te : TE} {g : TG} (he : PE X e te) (hg : PG X tg g) (hs : swapsWithSole [tg] e pos.line X.env = pure false := by rfl) (hw : swappedStores [tg] e X.env = pure none := by rfl)
    (h1 : (assignEach [tg] X.env).map (·.2) = [assign tg X.env] := by rfl) : PS X (.Assign [tg] e pos) (tAsg te g) := by
  intro pins s σ H D I h
  refine wpAny_Assign_stores (thn (he pins s σ H _ I h) fun v s1 ⟨x, H1, I1, r1, q1⟩ => ?_) hs hw
  rw [h1]
  exact thn (hg pins s1 σ H1 x v _ I1 r1 q1) fun _ s2 q => q
/-- name = value -/
theorem ps_set {i : Nat} {x : Str} {e : Expr} {te : TE} {pos' : Pos} (hN : X.N.Nodup) (hi : X.N[i]? = some x) (hx : Loc X.env.scope x) (he : PE X e te) (hs : swapsWith e (some (.Name x pos')) pos.line X.env = pure false := by rfl) (hf : X.fn x = true ∨ X.env.scope.names.lookup x = some .local := by first | exact .inl rfl | exact .inr rfl | assumption) :
    PS X (.Assign [.Name x pos'] e pos) (tAsg te (gName i)) := by
  intro pins s σ H D I h
  refine wpAny_Assign_Name (thn (he pins s σ H _ I h) fun v s1 ⟨y, H1, I1, r1, q1⟩ => ?_) hs
  exact store_ok I1 hN hi hx r1 (fun s2 I2 => ⟨_, H1, I2, q1⟩) hf
end

/-! ### while -/
section
variable {X : Cx} {pos : Pos}
/-- the invariant W with its measure -/
def tWhile (c : TT) (tb : TS) : TS := fun D σ H => ∃ W : Nat → St → Hp → Prop, (∃ m, W m σ H) ∧ ∀ m σ H, W m σ H →
  c σ H fun b H1 => if b = true then ∃ N : St → Hp → Prop, (∀ σ' H', N σ' H' → ∃ m', m' < m ∧ W m' σ' H') ∧ tb { D with nx := N, ct := N, bk := D.nx } σ H1 else D.nx σ H1
theorem ps_while {c : Expr} {body : List Stmt} {tc : TT} {tb : TS} (hp : PassesOwn (model X.prog X.w) X.A X.env X.xe) (hc : PT X c tc) (hb : PSs X body tb) : PS X (.While c body [] pos) (tWhile tc tb) := by
  intro pins s σ H D I h
  obtain ⟨W, ⟨m0, w0⟩, turn⟩ := h
  refine wpAny_While (codeAny_whileLoop (fun n s' => ∃ σ' H', Inv X pins σ' H' s' ∧ W n σ' H') ?_ m0 ⟨σ, H, I, w0⟩)
  rintro n s1 ⟨σ1, H1, I1, w1⟩
  refine wpAny_passesOwn hp (thn (hc pins s1 σ1 H1 _ I1 (turn n σ1 H1 w1)) fun b s2 ⟨H2, I2, q2⟩ => ?_)
  cases b with
  | true =>
    obtain ⟨N, hN, q2⟩ := q2
    rw [if_pos rfl]
    refine wpAny_passesOwn hp (thn (hb pins s2 σ1 H2 _ I2 q2) fun f s3 q3 => ?_)
    cases f with
    | next =>
      obtain ⟨σ3, H3, I3, n3⟩ := q3
      obtain ⟨m', hm, w3⟩ := hN σ3 H3 n3
      exact ⟨m', hm, σ3, H3, I3, w3⟩
    | cont =>
      obtain ⟨σ3, H3, I3, n3⟩ := q3
      obtain ⟨m', hm, w3⟩ := hN σ3 H3 n3
      exact ⟨m', hm, σ3, H3, I3, w3⟩
    | brk => exact q3
    | ret v => exact q3
  | false =>
    rw [if_neg Bool.false_ne_true]
    exact wpAny_execs_nil ⟨σ1, H2, I2, q2⟩
end

/-! ### what a loop or a comprehension walks -/
/-- at turn i: it yields x (the heap may grow), or it stops -/
structure It where
  go : Nat → Hp → Prop
  yld : Nat → Hp → V → Hp → Prop
  stop : Nat → Hp → Prop
/-- the iterator's own objects may turn: they are not the frame's, not pinned, younger than the entry (or a comprehension's own) -/
def FpOk (X : Cx) (pins : List (Addr × Obj)) (H : Hp) (b : Addr) : Prop :=
  H b = none ∧ b ≠ X.env.locals ∧ b ∉ X.fs ∧ (b ∈ X.ex ∨ X.s₀.heap.objs.size ≤ b) ∧ (∀ x c, X.env.cells.lookup x = some c → c ≠ b) ∧ ∀ p ∈ X.pn ++ pins, p.1 ≠ b
theorem Inv.fpOk {X : Cx} {pins : List (Addr × Obj)} {σ : St} {H H' : Hp} {s : Shared} {b : Addr} (I : Inv X pins σ H s) (hb : s.heap.objs.size ≤ b) (hn : H' b = none) : FpOk X pins H' b := by
  refine ⟨hn, Nat.ne_of_gt (Nat.lt_of_lt_of_le I.lt hb), I.nofs hb, .inr (Nat.le_trans I.sz hb), fun x c e z => ?_, fun p hp z => ?_⟩
  · obtain ⟨v, q⟩ := I.cell x c e
    exact absurd (Nat.lt_of_lt_of_le q.lt (by rw [z]; exact hb)) (Nat.lt_irrefl _)
  · exact absurd (Nat.lt_of_lt_of_le (Heap.lt_size (I.pin p hp).1) (by rw [z]; exact hb)) (Nat.lt_irrefl _)
structure Turn (P : Program) (w : World) (K : PySem.W.Frag) (tg : Expr) (J : It) (fp : List Addr) (it : Addr) (tn : Nat → Heap → Prop) : Prop where
  mem : it ∈ fp
  obj : ∀ i h, tn i h → ∀ b ∈ fp, ∃ o, h.get? b = some o ∧ ∀ v, o.data ≠ .cell v
  keep : ∀ i h h', tn i h → (∀ b ∈ fp, ∀ o, h.get? b = some o → h'.get? b = some o) → tn i h'
  item : ∀ (X : Cx), X.prog = P → X.w = w → X.K = K → X.calm = true → ∀ (i : Nat) (pins : List (Addr × Obj)) (s : Shared) (σ : St) (H : Hp) (E : Value → Shared → Prop), Inv X pins σ H s → (∀ b ∈ fp, FpOk X pins H b) → tn i s.heap → J.go i H →
    wpAny (model P w) X.A (pyNext (.ref it)) (fun r s1 => ∃ u, r = some u ∧
      wpAny (model P w) X.A (letOwnedTupleGo tg (.ref it) u) (fun _ s2 => ∃ x H', Inv X pins σ H' s2 ∧ RelV x u ∧ J.yld i H x H' ∧ tn (i + 1) s2.heap ∧ ∀ b ∈ fp, H' b = none) E s1) E s
  done : ∀ (X : Cx), X.prog = P → X.w = w → X.K = K → X.calm = true → ∀ (i : Nat) (pins : List (Addr × Obj)) (s : Shared) (σ : St) (H : Hp) (E : Value → Shared → Prop), Inv X pins σ H s → (∀ b ∈ fp, FpOk X pins H b) → tn i s.heap → J.stop i H →
    wpAny (model P w) X.A (pyNext (.ref it)) (fun r s1 => r = none ∧ Inv X pins σ H s1) E s
  self : ∀ (A : Around) (i : Nat) (s : Shared) (Q : Value → Shared → Prop) (E : Value → Shared → Prop), tn i s.heap → Q (.ref it) s → wpAny (model P w) A (pyIter (.ref it)) Q E s
abbrev TI := St → Hp → (It → Hp → Prop) → Prop
/-- an iterator has come -/
def PIE (X : Cx) (pins : List (Addr × Obj)) (σ : St) (tg : Expr) (R : It → Hp → Prop) (itv : Value) (s2 : Shared) : Prop :=
  ∃ (it : Addr) (fp : List Addr) (tn : Nat → Heap → Prop) (J : It) (H' : Hp), itv = .ref it ∧ Inv X pins σ H' s2 ∧ Turn X.prog X.w X.K tg J fp it tn ∧ tn 0 s2.heap ∧ (∀ b ∈ fp, FpOk X pins H' b) ∧ R J H'
def PI (X : Cx) (tg iter : Expr) (wi : TI) : Prop :=
  ∀ (pins : List (Addr × Obj)) (s : Shared) (σ : St) (H : Hp) (R : It → Hp → Prop), Inv X pins σ H s → wi σ H R →
    wpAny (model X.prog X.w) X.A (eval iter X.env) (fun v s1 => wpAny (model X.prog X.w) X.A (pyIter v) (PIE X pins σ tg R) X.xe s1) X.xe s

/-- the step ahead of the store is nothing for an iterator that keeps no tuple -/
theorem go_of {M : Model} {A : Around} {E : Value → Shared → Prop} {s : Shared} {tg : Expr} {it : Addr} {u : Value} {o : Obj} {n : String} {vs : Array Value} {Q : Unit → Shared → Prop} (ho : s.heap.get? it = some o) (hc : o.cls = .type n) (hd : o.data = .fields vs)
    (hn : ["enumerate", "zip", "dict_itemiterator", "dict_reverseitemiterator", "odict_iterator", "itertools.zip_longest", "itertools.pairwise"].contains n = false) (hQ : Q () s) : wpAny M A (letOwnedTupleGo tg (.ref it) u) Q E s := by
  unfold letOwnedTupleGo
  cases tg <;> first
    | exact wpAny_pure hQ
    | (cases u <;> first
        | exact wpAny_pure hQ
        | (refine wpAny_bind (wpAny_load ho ?_)
           rw [hc, hd]
           show wpAny M A (if (["enumerate", "zip", "dict_itemiterator", "dict_reverseitemiterator", "odict_iterator", "itertools.zip_longest", "itertools.pairwise"].contains n && vs[0]? == some (rawInt _)) = true then _ else _) Q E s
           rw [if_neg (by intro h; rw [hn, Bool.false_and] at h; cases h)]
           exact wpAny_pure hQ))

/-- the list at a, as it stands at each turn (a loop may append to it) -/
def Itl (K : PySem.W.Frag) (a : Addr) : It :=
  ⟨fun i H => ∃ xs x, SqL K H a xs ∧ xs[i]? = some x, fun i H x H' => H' = H ∧ ∀ xs, SqL K H a xs → xs[i]? = some x, fun i H => ∃ xs, SqL K H a xs ∧ xs.length ≤ i⟩
def Itt (K : PySem.W.Frag) (a : Addr) : It :=
  ⟨fun i H => ∃ xs x, SqT K H a xs ∧ xs[i]? = some x, fun i H x H' => H' = H ∧ ∀ xs, SqT K H a xs → xs[i]? = some x, fun i H => ∃ xs, SqT K H a xs ∧ xs.length ≤ i⟩
/-- lo, lo + 1, .. (n of them) -/
def Itr (lo : Int) (n : Nat) : It := ⟨fun i _ => i < n, fun i H x H' => H' = H ∧ x = .int (lo + i), fun i _ => n ≤ i⟩
theorem turn_list {P : Program} {w : World} {K : PySem.W.Frag} {tg : Expr} (a it : Addr) : Turn P w K tg (Itl K a) [it] it (fun i h => h.IsListIter it a i) where
  mem := by simp
  obj := fun i h st b hb => by
    have e : b = it := by simpa using hb
    subst e
    obtain ⟨o, e, c, d⟩ := st
    exact ⟨o, e, fun v z => by rw [d] at z; cases z⟩
  keep := fun i h h' st k => st.at fun o e => k it (by simp) o e
  item := by
    intro X hP hw hK hc i pins s σ H E I hf st hg
    subst hP hw hK
    obtain ⟨xs, x, hq, hx⟩ := hg
    obtain ⟨its, rv, p, hz⟩ := I.list hq
    obtain ⟨u, hu, ru⟩ := rv.get hx
    obtain ⟨f0, f1, f2, f3, f4, f5⟩ := hf it (by simp)
    refine wpAny_pyNext_list_item st p.isList (x := u) (by simpa using hu) fun h' st' sb => ?_
    have I1 : Inv X pins σ H { s with heap := h' } := I.turned (t' := s.toks) (fun b o hb e => (sb.2 b hb).trans e) f0 f1 f3 f4 f5
    obtain ⟨o, e, c, d⟩ := id st'
    exact ⟨u, rfl, go_of (s := { s with heap := h' }) e c d (by decide) ⟨x, H, I1, ru, ⟨rfl, fun ys hy => by rw [I.list_inj hy hq]; exact hx⟩, st', fun b hb => (hf b hb).1⟩⟩
  done := by
    intro X hP hw hK hc i pins s σ H E I hf st hg
    subst hP hw hK
    obtain ⟨xs, hq, hx⟩ := hg
    obtain ⟨its, rv, p, hz⟩ := I.list hq
    obtain ⟨f0, f1, f2, f3, f4, f5⟩ := hf it (by simp)
    have hl := rv.length
    exact wpAny_pyNext_list_end (I.ok.hd hc) st p.isList (by simp; omega) fun h' eb => ⟨rfl, I.turned (t' := s.toks) (fun b o hb e => eb b o hb e) f0 f1 f3 f4 f5⟩
  self := fun _ _ _ _ _ st h => wpAny_pyIter_listiter st h
theorem turn_tuple {P : Program} {w : World} {K : PySem.W.Frag} {tg : Expr} (a it : Addr) : Turn P w K tg (Itt K a) [it] it (fun i h => h.IsTupleIter it a i) where
  mem := by simp
  obj := fun i h st b hb => by
    have e : b = it := by simpa using hb
    subst e
    obtain ⟨o, e, c, d⟩ := st
    exact ⟨o, e, fun v z => by rw [d] at z; cases z⟩
  keep := fun i h h' st k => st.at fun o e => k it (by simp) o e
  item := by
    intro X hP hw hK hc i pins s σ H E I hf st hg
    subst hP hw hK
    obtain ⟨xs, x, hq, hx⟩ := hg
    obtain ⟨its, rv, p, hz⟩ := I.tuple hq
    obtain ⟨u, hu, ru⟩ := rv.get hx
    obtain ⟨f0, f1, f2, f3, f4, f5⟩ := hf it (by simp)
    refine wpAny_pyNext_tuple_item st (show s.heap.IsTuple a its.toArray from p) (x := u) (by simpa using hu) fun h' st' sb => ?_
    have I1 : Inv X pins σ H { s with heap := h' } := I.turned (t' := s.toks) (fun b o hb e => (sb.2 b hb).trans e) f0 f1 f3 f4 f5
    obtain ⟨o, e, c, d⟩ := id st'
    exact ⟨u, rfl, go_of (s := { s with heap := h' }) e c d (by decide) ⟨x, H, I1, ru, ⟨rfl, fun ys hy => by rw [I.tuple_inj hy hq]; exact hx⟩, st', fun b hb => (hf b hb).1⟩⟩
  done := by
    intro X hP hw hK hc i pins s σ H E I hf st hg
    subst hP hw hK
    obtain ⟨xs, hq, hx⟩ := hg
    obtain ⟨its, rv, p, hz⟩ := I.tuple hq
    obtain ⟨f0, f1, f2, f3, f4, f5⟩ := hf it (by simp)
    have hl := rv.length
    exact wpAny_pyNext_tuple_end (I.ok.hd hc) st (show s.heap.IsTuple a its.toArray from p) (by simp; omega) fun h' eb => ⟨rfl, I.turned (t' := s.toks) (fun b o hb e => eb b o hb e) f0 f1 f3 f4 f5⟩
  self := fun _ _ _ _ _ st h => wpAny_pyIter_tupleiter st h
theorem turn_range {P : Program} {w : World} {K : PySem.W.Frag} {tg : Expr} (it : Addr) (lo : Int) (n : Nat) : Turn P w K tg (Itr lo n) [it] it (fun i h => IsRangeIter h it (lo + (i : Nat) * 1) ((n : Int) - (i : Nat)) 1) where
  mem := by simp
  obj := fun i h st b hb => by
    have e : b = it := by simpa using hb
    subst e
    exact ⟨_, st, fun v z => by
      have z' : Data.fields _ = Data.cell v := z
      cases z'⟩
  keep := fun i h h' st k => k it (by simp) _ st
  item := by
    intro X hP hw hK hc i pins s σ H E I hf st hg
    subst hP hw hK
    obtain ⟨f0, f1, f2, f3, f4, f5⟩ := hf it (by simp)
    have W := Walks.range (prog := X.prog) (w := X.w) (I.ok.hd hc) it lo 1 n
    refine W.item i s _ _ hg st fun v h' tk hv st' kk => ?_
    obtain ⟨t, rfl⟩ := hv
    have I1 : Inv X pins σ H { s with heap := h', toks := tk } := I.turned (fun b o hb e => kk b o (by simpa using hb) e) f0 f1 f3 f4 f5
    refine ⟨_, rfl, go_of (s := { s with heap := h', toks := tk }) (n := "range_iterator") st' rfl rfl (by decide) ⟨.int (lo + i), H, I1, ⟨t, ?_⟩, ⟨rfl, rfl⟩, st', fun b hb => (hf b hb).1⟩⟩
    rw [Int.mul_one]
  done := by
    intro X hP hw hK hc i pins s σ H E I hf st hg
    subst hP hw hK
    obtain ⟨f0, f1, f2, f3, f4, f5⟩ := hf it (by simp)
    exact wpAny_pyNext_range_end (I.ok.hd hc) st (by have : n ≤ i := hg; omega) fun h' eb => ⟨rfl, I.turned (t' := s.toks) (fun b o hb e => eb b o hb e) f0 f1 f3 f4 f5⟩
  self := fun _ _ _ _ _ st h => wpAny_pyIter_rangeiter st h
end L2

namespace L2
open PySem PySem.Spec PyProof.Rows
section
variable {X : Cx} {tg : Expr}
def iTup (K : PySem.W.Frag) (tl : TE) : TI := fun σ H R => tl σ H fun x H1 => ∃ a, x = .ref a ∧ (∃ xs, SqT K H1 a xs) ∧ R (Itt K a) H1
theorem pi_tup {l : Expr} {tl : TE} (hl : PE X l tl) : PI X tg l (iTup X.K tl) := by
  intro pins s σ H R I h
  refine thn (hl pins s σ H _ I h) fun v s1 ⟨x, H1, I1, r1, q1⟩ => ?_
  obtain ⟨a, e, ⟨xs, hq⟩, q⟩ := q1
  subst e
  cases r1
  obtain ⟨its, rv, p, hz⟩ := I1.tuple hq
  refine wpAny_pyIter_tuple (show s1.heap.IsTuple a its.toArray from p) ?_
  refine ⟨s1.heap.objs.size, [s1.heap.objs.size], _, _, H1, rfl, I1.kept (t' := s1.toks) fun b o e => Heap.get?_push_of_some _ e, turn_tuple a _, ⟨_, Heap.get?_push_size _ rfl, rfl, rfl⟩, fun b hb => ?_, q⟩
  have e : b = s1.heap.objs.size := by simpa using hb
  subst e
  exact I1.fpOk (Nat.le_refl _) (I1.hok.fresh (Nat.le_refl _))
/-- a range object just made, walked -/
theorem range_it {pins : List (Addr × Obj)} {σ : St} {H : Hp} {s : Shared} {R : It → Hp → Prop} {E : Value → Shared → Prop} {lo hi : Int} {t u v : Tok} {tk : Nat} (I : Inv X pins σ H s) (h1 : -(2 ^ 62) ≤ lo) (h2 : lo < 2 ^ 62) (h3 : -(2 ^ 62) ≤ hi) (h4 : hi < 2 ^ 62)
    (q : R (Itr lo (hi - lo).toNat) H) : wpAny (model X.prog X.w) X.A (pyIter (.ref s.heap.objs.size)) (PIE X pins σ tg R) E { s with heap := s.heap.push { cls := .type "range", data := .fields #[.int lo t, .int hi u, .int 1 v] }, toks := tk } := by
  refine wpAny_pyIter_range (IsRange.new ..) (small_one h1 h2 h3 h4) ?_
  have I1 : Inv X pins σ H { s with heap := s.heap.push { cls := .type "range", data := .fields #[.int lo t, .int hi u, .int 1 v] }, toks := tk } := I.kept fun b o e => Heap.get?_push_of_some _ e
  refine ⟨(s.heap.push { cls := .type "range", data := .fields #[.int lo t, .int hi u, .int 1 v] }).objs.size, [(s.heap.push { cls := .type "range", data := .fields #[.int lo t, .int hi u, .int 1 v] }).objs.size], _, _, H, rfl,
    I1.kept (t' := tk) fun b o e => Heap.get?_push_of_some _ e, turn_range _ lo (hi - lo).toNat, ?_, fun b hb => ?_, q⟩
  · have e1 : lo + ((0 : Nat) : Int) * 1 = lo := by simp
    have e2 : (((hi - lo).toNat : Nat) : Int) - ((0 : Nat) : Int) = Builtin.Range.rangeSize lo hi 1 := by rw [rangeSize_one]; split <;> omega
    show IsRangeIter _ _ (lo + ((0 : Nat) : Int) * 1) ((((hi - lo).toNat : Nat) : Int) - ((0 : Nat) : Int)) 1
    rw [e1, e2]
    exact Heap.get?_push_size _ rfl
  · have e : b = (s.heap.push { cls := .type "range", data := .fields #[.int lo t, .int hi u, .int 1 v] }).objs.size := by simpa using hb
    subst e
    exact I1.fpOk (Nat.le_refl _) (I1.hok.fresh (Nat.le_refl _))
def iRng1 (ta : TA) : TI := fun σ H R => ta σ H fun vs H1 => ∃ j : Int, vs = [.int j] ∧ -(2 ^ 62) ≤ j ∧ j < 2 ^ 62 ∧ R (Itr 0 j.toNat) H1
theorem pi_range1 {a : Expr} {ta : TA} {p pos : Pos} (hg : Gl X "range") (hm : X.mg "range" = none) (ha : PA X [a] ta) (hs : starEach [a] X.env = [(false, eval a X.env)] := by rfl) : PI X tg (.Call (.Name "range" p) [a] [] pos) (iRng1 ta) := by
  intro pins s σ H R I h
  refine Call_ (ld_blt I hg hm boot_range (PyProof.Rows.callWith_type1 (thn (ha pos pins s σ H _ I h) fun us s1 ⟨vs, H1, I1, r1, q1⟩ => ?_) hs rfl))
  obtain ⟨j, e, q1, q2, q⟩ := q1
  subst e
  cases r1 with
  | cons r rr =>
    cases rr
    obtain ⟨t, rfl⟩ := r
    exact call_range_1 (range_it I1 (by omega) (by omega) q1 q2 (by simpa using q))
/-! ### for -/
/-- W: the invariant by the turn and a measure; N: what the body is to reach -/
def tFor (wi : TI) (g : TG) (tb : TS) : TS := fun D σ H => wi σ H fun J H1 => ∃ W : Nat → Nat → St → Hp → Prop, (∃ m, W 0 m σ H1) ∧ ∀ i m σ H, W i m σ H →
  (J.stop i H ∧ D.nx σ H) ∨ (J.go i H ∧ ∃ N : St → Hp → Prop, (∀ σ' H', N σ' H' → ∃ m', m' < m ∧ W (i + 1) m' σ' H') ∧ ∀ x H', J.yld i H x H' → g x σ H' fun σ2 H2 => tb { D with nx := N, ct := N, bk := D.nx } σ2 H2)
/-- the records at fp as they stand -/
def pinsAt (fp : List Addr) (h : Heap) : List (Addr × Obj) := fp.filterMap fun b => (h.get? b).map fun o => (b, o)
theorem mem_pinsAt {fp : List Addr} {h : Heap} {b : Addr} {o : Obj} (hb : b ∈ fp) (e : h.get? b = some o) : (b, o) ∈ pinsAt fp h := List.mem_filterMap.mpr ⟨b, hb, by rw [e]; rfl⟩
theorem of_pinsAt {fp : List Addr} {h : Heap} {p : Addr × Obj} (hp : p ∈ pinsAt fp h) : p.1 ∈ fp ∧ h.get? p.1 = some p.2 := by
  obtain ⟨b, hb, e⟩ := List.mem_filterMap.mp hp
  cases q : h.get? b with
  | none => rw [q] at e; cases e
  | some o =>
    rw [q] at e
    have e' : (b, o) = p := Option.some.inj e
    subst e'
    exact ⟨hb, q⟩
theorem Inv.pinned {pins : List (Addr × Obj)} {σ : St} {H : Hp} {s : Shared} {fp : List Addr} (I : Inv X pins σ H s) (hf : ∀ b ∈ fp, FpOk X pins H b) (ho : ∀ b ∈ fp, ∃ o, s.heap.get? b = some o ∧ ∀ v, o.data ≠ .cell v) : Inv X (pins ++ pinsAt fp s.heap) σ H s :=
  I.pins_of fun p hp => (List.mem_append.mp hp).elim (fun z => I.pin p (List.mem_append_right _ z)) fun z => by
    obtain ⟨hb, e⟩ := of_pinsAt z
    obtain ⟨f0, f1, f2, _⟩ := hf p.1 hb
    obtain ⟨o, e', d⟩ := ho p.1 hb
    rw [e] at e'; cases e'
    exact ⟨e, f0, f1, f2, d⟩
theorem Inv.unpinned {pins pl : List (Addr × Obj)} {σ : St} {H : Hp} {s : Shared} (I : Inv X (pins ++ pl) σ H s) : Inv X pins σ H s := I.pins_of fun p hp => I.pin p (List.mem_append_right _ (List.mem_append_left _ hp))
theorem ps_for {iter : Expr} {body : List Stmt} {wi : TI} {g : TG} {tb : TS} {pos : Pos} (hp : PassesOwn (model X.prog X.w) X.A X.env X.xe) (hc : X.calm = true) (hi : PI X tg iter wi) (hg : PG X tg g) (hb : PSs X body tb)
    (hs : ∀ x, foldedSetIterable iter X.env x = pure x := by intro _; rfl) : PS X (.For tg iter body [] pos) (tFor wi g tb) := by
  intro pins s σ H D I h
  refine wpAny_For (thn (hi pins s σ H _ I h) fun v s1 h1 => thn h1 fun itv s2 h2 => ?_) hs
  obtain ⟨it, fp, tn, J, H2, e, I2, T, st2, f2, W, ⟨m0, w0⟩, turn⟩ := h2
  subst e
  -- what stays true of the iterator's objects through the loop
  have stat : ∀ {H' : Hp}, (∀ b ∈ fp, H' b = none) → ∀ b ∈ fp, FpOk X pins H' b := fun hn b hb => ⟨hn b hb, (f2 b hb).2⟩
  refine codeAny_forLoop_any (fun n s' => ∃ i σ' H', Inv X pins σ' H' s' ∧ tn i s'.heap ∧ (∀ b ∈ fp, H' b = none) ∧ W i n σ' H') ?_ m0 ⟨0, σ, H2, I2, st2, fun b hb => (f2 b hb).1, w0⟩
  rintro n s3 ⟨i, σ3, H3, I3, st3, fr3, w3⟩
  rcases turn i n σ3 H3 w3 with ⟨stop, qn⟩ | ⟨go, N, hN, step⟩
  · refine wpAny_passesOwn hp (thn (T.done X rfl rfl rfl hc i pins s3 σ3 H3 X.xe I3 (stat fr3) st3 stop) fun r s4 ⟨hr, I4⟩ => ?_)
    subst hr
    exact wpAny_execs_nil ⟨σ3, H3, I4, qn⟩
  · refine wpAny_passesOwn hp (thn (T.item X rfl rfl rfl hc i pins s3 σ3 H3 X.xe I3 (stat fr3) st3 go) fun r s4 ⟨u, hr, h4⟩ => ?_)
    subst hr
    refine wpAny_passesOwn hp (thn h4 fun _ s5 ⟨x, H5, I5, r5, y5, st5, fr5⟩ => ?_)
    have I5' := I5.pinned (stat fr5) (T.obj _ _ st5)
    refine wpAny_passesOwn hp (thn (hg _ s5 σ3 H5 x u _ I5' r5 (step x H5 y5)) fun _ s6 ⟨σ6, H6, I6, q6⟩ => ?_)
    refine wpAny_passesOwn hp (thn (hb _ s6 σ6 H6 _ I6 q6) fun f s7 q7 => ?_)
    have again : ∀ {σ7 : St} {H7 : Hp}, Inv X (pins ++ pinsAt fp s5.heap) σ7 H7 s7 → N σ7 H7 → ∃ m, m < n ∧ ∃ i σ' H', Inv X pins σ' H' s7 ∧ tn i s7.heap ∧ (∀ b ∈ fp, H' b = none) ∧ W i m σ' H' := fun {σ7 H7} I7 n7 => by
      obtain ⟨m', hm, w7⟩ := hN σ7 H7 n7
      refine ⟨m', hm, i + 1, σ7, H7, I7.unpinned, T.keep _ _ _ st5 fun b hb o e => (I7.pin (b, o) (List.mem_append_right _ (List.mem_append_right _ (mem_pinsAt hb e)))).1, fun b hb => ?_, w7⟩
      obtain ⟨o, e, d⟩ := T.obj _ _ st5 b hb
      exact (I7.pin (b, o) (List.mem_append_right _ (List.mem_append_right _ (mem_pinsAt hb e)))).2.1
    cases f with
    | next => obtain ⟨σ7, H7, I7, n7⟩ := q7; exact again I7 n7
    | cont => obtain ⟨σ7, H7, I7, n7⟩ := q7; exact again I7 n7
    | brk => obtain ⟨σ7, H7, I7, q7⟩ := q7; exact ⟨σ7, H7, I7.unpinned, q7⟩
    | ret v => obtain ⟨x7, σ7, H7, I7, r7, q7⟩ := q7; exact ⟨x7, σ7, H7, I7.unpinned, r7, q7⟩
end

/-! ### the forms one uses -/
theorem for_range {lo : Int} {n : Nat} {g : TG} {tb : TS} {D : Ends} {σ : St} {H : Hp} (Pv : Nat → St → Hp → Prop) (h0 : Pv 0 σ H)
    (hs : ∀ i σ H, i < n → Pv i σ H → g (.int (lo + i)) σ H fun σ2 H2 => tb { D with nx := Pv (i + 1), ct := Pv (i + 1), bk := D.nx } σ2 H2) (hd : ∀ σ H, Pv n σ H → D.nx σ H) :
    ∃ W : Nat → Nat → St → Hp → Prop, (∃ m, W 0 m σ H) ∧ ∀ i m σ H, W i m σ H →
      ((Itr lo n).stop i H ∧ D.nx σ H) ∨ ((Itr lo n).go i H ∧ ∃ N : St → Hp → Prop, (∀ σ' H', N σ' H' → ∃ m', m' < m ∧ W (i + 1) m' σ' H') ∧ ∀ x H', (Itr lo n).yld i H x H' → g x σ H' fun σ2 H2 => tb { D with nx := N, ct := N, bk := D.nx } σ2 H2) := by
  refine ⟨fun i m σ H => m = n - i ∧ i ≤ n ∧ Pv i σ H, ⟨n, by simp, Nat.zero_le _, h0⟩, ?_⟩
  rintro i m σ H ⟨rfl, hi, p⟩
  by_cases hlt : i < n
  · refine .inr ⟨hlt, Pv (i + 1), fun σ' H' p' => ⟨n - (i + 1), by omega, rfl, hlt, p'⟩, fun x H' y => ?_⟩
    obtain ⟨e, y⟩ := y
    subst e y
    exact hs i σ _ hlt p
  · have e : i = n := by omega
    subst e
    exact .inl ⟨Nat.le_refl _, hd σ H p⟩
end L2

namespace L2
open PySem PySem.Spec PyProof.Rows

abbrev R2 := V → V → Hp → VK → Prop
/-- a two-place operation on values: f is binaryOp op, inplaceOp op or compareOp op -/
def OpR (X : Cx) (f : Value → Value → Sem Value) (r : R2) : Prop :=
  ∀ (pins : List (Addr × Obj)) (s : Shared) (σ : St) (H : Hp) (x y : V) (v u : Value) (Q : VK), Inv X pins σ H s → RelV x v → RelV y u → r x y H Q →
    wpAny (model X.prog X.w) X.A (f v u) (EP X pins σ Q) X.xe s
/-- a one-place operation -/
def UnR (X : Cx) (f : Value → Sem Value) (r : V → Hp → VK → Prop) : Prop :=
  ∀ (pins : List (Addr × Obj)) (s : Shared) (σ : St) (H : Hp) (x : V) (v : Value) (Q : VK), Inv X pins σ H s → RelV x v → r x H Q →
    wpAny (model X.prog X.w) X.A (f v) (EP X pins σ Q) X.xe s
/-- a call of a value that is known (a builtin, a type) with values -/
def CallR (X : Cx) (f : Value) (r : List V → Hp → VK → Prop) : Prop :=
  ∀ (pins : List (Addr × Obj)) (s : Shared) (σ : St) (H : Hp) (xs : List V) (us : List Value) (Q : VK), Inv X pins σ H s → Vals xs us → r xs H Q →
    wpAny (model X.prog X.w) X.A (call f us) (EP X pins σ Q) X.xe s
/-- a value's truth -/
def TruR (X : Cx) (r : V → Hp → (Bool → Hp → Prop) → Prop) : Prop :=
  ∀ (pins : List (Addr × Obj)) (s : Shared) (σ : St) (H : Hp) (x : V) (v : Value) (Q : Bool → Hp → Prop), Inv X pins σ H s → RelV x v → r x H Q →
    wpAny (model X.prog X.w) X.A (truthy v) (TP X pins σ Q) X.xe s

def tOp (r : R2) (ta tb : TE) : TE := fun σ H Q => ta σ H fun x H1 => tb σ H1 fun y H2 => r x y H2 Q
def tUn (r : V → Hp → VK → Prop) (ta : TE) : TE := fun σ H Q => ta σ H fun x H1 => r x H1 Q
/-- ints in, under C, and a value out -/
def rI (C : Int → Int → Prop) (g : Int → Int → V) : R2 := fun x y H Q => ∃ i j, x = .int i ∧ y = .int j ∧ C i j ∧ Q (g i j) H
def rI0 (g : Int → Int → V) : R2 := fun x y H Q => ∃ i j, x = .int i ∧ y = .int j ∧ Q (g i j) H
def rU (g : Int → V) : V → Hp → VK → Prop := fun x H Q => ∃ i, x = .int i ∧ Q (g i) H

section
variable {X : Cx} {a b c : Expr} {ta tb tc : TE} {pos : Pos}

theorem binT (ha : PE X a ta) (hb : PE X b tb) {pins : List (Addr × Obj)} {s : Shared} {σ : St} {H : Hp} {R : V → V → Hp → Prop} (I : Inv X pins σ H s)
    (h : ta σ H fun x H1 => tb σ H1 fun y H2 => R x y H2) {Q : Value → Shared → Prop} {f : Value → Value → Sem Value}
    (hf : ∀ v u s2 x y H2, Inv X pins σ H2 s2 → RelV x v → RelV y u → R x y H2 → wpAny (model X.prog X.w) X.A (f v u) Q X.xe s2) :
    wpAny (model X.prog X.w) X.A (eval a X.env) (fun v s₁ => wpAny (model X.prog X.w) X.A (eval b X.env) (fun u s₂ => wpAny (model X.prog X.w) X.A (f v u) Q X.xe s₂) X.xe s₁) X.xe s := by
  refine thn (ha pins s σ H _ I h) fun v s1 ⟨x, H1, I1, r1, q1⟩ => ?_
  refine thn (hb pins s1 σ H1 _ I1 q1) fun u s2 ⟨y, H2, I2, r2, q2⟩ => ?_
  exact hf v u s2 x y H2 I2 r1 r2 q2

theorem pe_op {op : Operator} {r : R2} (ho : OpR X (binaryOp op) r) (ha : PE X a ta) (hb : PE X b tb) : PE X (.BinOp a op b pos) (tOp r ta tb) := by
  intro pins s σ H Q I h
  exact wpAny_BinOp (binT ha hb I h fun v u s2 x y H2 I2 rx ry q => ho pins s2 σ H2 x y v u Q I2 rx ry q)
theorem pe_un {op : UnaryOp} {r : V → Hp → VK → Prop} (ho : UnR X (unaryOp op) r) (ha : PE X a ta) : PE X (.UnaryOp op a pos) (tUn r ta) := by
  intro pins s σ H Q I h
  exact UnaryOp_ (thn (ha pins s σ H _ I h) fun v s1 ⟨x, H1, I1, r1, q1⟩ => ho pins s1 σ H1 x v Q I1 r1 q1)
/-! ### ints -/
theorem opI {f : Value → Value → Sem Value} {C : Int → Int → Prop} {g : Int → Int → Int}
    (rule : ∀ (i j : Int) (t u : Tok) (s : Shared) (Q : Value → Shared → Prop) (E : Value → Shared → Prop), C i j → Q (.int (g i j) s.toks) { s with toks := s.toks + 1 } → wpAny (model X.prog X.w) X.A (f (.int i t) (.int j u)) Q E s) :
    OpR X f (rI C fun i j => .int (g i j)) := by
  intro pins s σ H x y v u Q I rx ry h
  obtain ⟨i, j, rfl, rfl, hc, q⟩ := h
  obtain ⟨t, rfl⟩ := rx
  obtain ⟨t', rfl⟩ := ry
  exact rule i j t t' s _ _ hc ⟨.int (g i j), H, I.tok _, ⟨_, rfl⟩, q⟩
theorem opI0 {f : Value → Value → Sem Value} {g : Int → Int → Int}
    (rule : ∀ (i j : Int) (t u : Tok) (s : Shared) (Q : Value → Shared → Prop) (E : Value → Shared → Prop), Q (.int (g i j) s.toks) { s with toks := s.toks + 1 } → wpAny (model X.prog X.w) X.A (f (.int i t) (.int j u)) Q E s) :
    OpR X f (rI0 fun i j => .int (g i j)) := by
  intro pins s σ H x y v u Q I rx ry h
  obtain ⟨i, j, rfl, rfl, q⟩ := h
  obtain ⟨t, rfl⟩ := rx
  obtain ⟨t', rfl⟩ := ry
  exact rule i j t t' s _ _ ⟨.int (g i j), H, I.tok _, ⟨_, rfl⟩, q⟩
theorem opB0 {f : Value → Value → Sem Value} {g : Int → Int → Bool}
    (rule : ∀ (i j : Int) (t u : Tok) (s : Shared) (Q : Value → Shared → Prop) (E : Value → Shared → Prop), Q (.bool (g i j)) s → wpAny (model X.prog X.w) X.A (f (.int i t) (.int j u)) Q E s) :
    OpR X f (rI0 fun i j => .bl (g i j)) := by
  intro pins s σ H x y v u Q I rx ry h
  obtain ⟨i, j, rfl, rfl, q⟩ := h
  obtain ⟨t, rfl⟩ := rx
  obtain ⟨t', rfl⟩ := ry
  exact rule i j t t' s _ _ ⟨.bl (g i j), H, I, rfl, q⟩

def CDiv (i j : Int) : Prop := 0 < j ∧ j < 1073741824
def CPow (i j : Int) : Prop := 0 ≤ j ∧ j ≤ 1000000 ∧ i.natAbs < 2 ^ 64
def CMul (i j : Int) : Prop := (-(2 ^ 64) < i ∧ i < 2 ^ 64) ∨ (-(2 ^ 64) < j ∧ j < 2 ^ 64)
theorem CMul.ok {i j : Int} (h : CMul i j) : IntMulOk i j := by
  rcases h with ⟨h1, h2⟩ | ⟨h1, h2⟩
  · exact .of_left (intBits_le_64 h1 h2)
  · exact .of_right (intBits_le_64 h1 h2)
theorem op_add : OpR X (binaryOp .Add) (rI0 fun i j => .int (i + j)) := opI0 fun _ _ _ _ _ _ _ q => add_int q
theorem op_sub : OpR X (binaryOp .Sub) (rI0 fun i j => .int (i - j)) := opI0 fun _ _ _ _ _ _ _ q => sub_int q
theorem op_mul : OpR X (binaryOp .Mult) (rI CMul fun i j => .int (i * j)) := opI fun _ _ _ _ _ _ _ hc q => mul_int q hc.ok
/-- // by a positive divisor -/
theorem op_fdiv : OpR X (binaryOp .FloorDiv) (rI CDiv fun i j => .int (i / j)) := opI fun i j _ _ _ _ _ hc q => by
  have h1 : (0 : Int) < j := hc.1
  have h2 : j < 1073741824 := hc.2
  exact floordiv_int (by omega) (by rw [Int.fdiv_eq_ediv_of_nonneg i (by omega)]; exact q) (.inl (PyProof.noPylong_small (by omega)))
/-- % by a positive divisor of any size -/
theorem op_mod : OpR X (binaryOp .Mod) (rI (fun _ j => 0 < j) fun i j => .int (i % j)) := opI fun i j _ _ _ _ _ hc q => by
  have h1 : (0 : Int) < j := hc
  exact mod_int' (by omega) (by rw [Int.fmod_eq_emod_of_nonneg i (by omega)]; exact q)
theorem op_pow : OpR X (binaryOp .Pow) (rI CPow fun i j => .int (i ^ j.toNat)) := opI fun _ _ _ _ _ _ _ hc q => pow_int_small hc.1 hc.2.1 hc.2.2 q
theorem unI {f : Value → Sem Value} {g : Int → Int}
    (rule : ∀ (i : Int) (t : Tok) (s : Shared) (Q : Value → Shared → Prop) (E : Value → Shared → Prop), Q (.int (g i) s.toks) { s with toks := s.toks + 1 } → wpAny (model X.prog X.w) X.A (f (.int i t)) Q E s) :
    UnR X f (rU fun i => .int (g i)) := by
  intro pins s σ H x v Q I rx h
  obtain ⟨i, rfl, q⟩ := h
  obtain ⟨t, rfl⟩ := rx
  exact rule i t s _ _ ⟨.int (g i), H, I.tok _, ⟨_, rfl⟩, q⟩
theorem un_neg : UnR X (unaryOp .USub) (rU fun i => .int (-i)) := unI fun _ _ _ _ _ q => neg_int q
/-! ### bools among ints: n += (a < b) -/
end

/-! ### comparisons -/
/-- the scalars that == tells apart as data does -/
def scal : V → V → Bool
  | .non, .non => true | .non, .int _ => true | .int _, .non => true | .non, .bl _ => true | .bl _, .non => true | .non, .str _ => true | .str _, .non => true
  | .int _, .int _ => true | .bl _, .bl _ => true | .str _, .str _ => true | .byt _, .byt _ => true
  | .int _, .str _ => true | .str _, .int _ => true | .bl _, .str _ => true | .str _, .bl _ => true
  | _, _ => false
def rEq : R2 := fun x y H Q => scal x y = true ∧ Q (.bl (decide (x = y))) H
def rNe : R2 := fun x y H Q => scal x y = true ∧ Q (.bl (!decide (x = y))) H

theorem dec_int {i j : Int} : decide (V.int i = V.int j) = (i == j) := by
  rw [Bool.eq_iff_iff]
  simp
theorem dec_bl {i j : Bool} : decide (V.bl i = V.bl j) = (i == j) := by
  rw [Bool.eq_iff_iff]
  simp
theorem dec_str {i j : Str} : decide (V.str i = V.str j) = (i == j) := by
  rw [Bool.eq_iff_iff]
  simp
theorem dec_byt {i j : Array UInt8} : decide (V.byt i = V.byt j) = (i.toList == j.toList) := by
  rw [Bool.eq_iff_iff]
  cases i
  cases j
  simp

section
variable {X : Cx} {a b c : Expr} {ta tb tc : TE} {pos : Pos}
theorem fin_bl {pins : List (Addr × Obj)} {σ : St} {H : Hp} {s : Shared} {Q : VK} {k k' : Bool} (I : Inv X pins σ H s) (q : Q (.bl k) H) (e : k = k') : EP X pins σ Q (.bool k') s := by
  subst e
  exact ⟨.bl k, H, I, rfl, q⟩
theorem op_eq : OpR X (compareOp .Eq) rEq := by
  intro pins s σ H x y v u Q I rx ry h
  obtain ⟨hs, q⟩ := h
  cases x with
  | non =>
    cases rx
    cases y with
    | non => cases ry; exact PySem.EqNone.eq_none_none (fin_bl I q (by simp))
    | bl j => cases ry; exact PySem.EqNone.eq_none_bool (fin_bl I q (by simp))
    | int j => obtain ⟨t', rfl⟩ := ry; exact PySem.EqNone.eq_none_int (fin_bl I q (by simp))
    | str j => obtain ⟨t', rfl⟩ := ry; exact PySem.EqNone.eq_none_str (fin_bl I q (by simp))
    | _ => exact absurd (show false = true from hs) Bool.false_ne_true
  | bl i =>
    cases rx
    cases y with
    | non => cases ry; exact PySem.EqNone.eq_bool_none (fin_bl I q (by simp))
    | bl j => cases ry; exact eq_bool (fin_bl I q dec_bl)
    | str j => obtain ⟨t', rfl⟩ := ry; exact PySem.EqMixed.eq_bool_str (fin_bl I q (by simp))
    | _ => exact absurd (show false = true from hs) Bool.false_ne_true
  | int i =>
    obtain ⟨t, rfl⟩ := rx
    cases y with
    | non => cases ry; exact PySem.EqNone.eq_int_none (fin_bl I q (by simp))
    | int j => obtain ⟨t', rfl⟩ := ry; exact eq_int (fin_bl I q dec_int)
    | str j => obtain ⟨t', rfl⟩ := ry; exact PySem.EqMixed.eq_int_str (fin_bl I q (by simp))
    | _ => exact absurd (show false = true from hs) Bool.false_ne_true
  | str i =>
    obtain ⟨t, rfl⟩ := rx
    cases y with
    | non => cases ry; exact PySem.EqNone.eq_str_none (fin_bl I q (by simp))
    | bl j => cases ry; exact PySem.EqMixed.eq_str_bool (fin_bl I q (by simp))
    | int j => obtain ⟨t', rfl⟩ := ry; exact PySem.EqMixed.eq_str_int (fin_bl I q (by simp))
    | str j => obtain ⟨t', rfl⟩ := ry; exact eq_str (fin_bl I q dec_str)
    | _ => exact absurd (show false = true from hs) Bool.false_ne_true
  | byt i =>
    obtain ⟨t, rfl⟩ := rx
    cases y with
    | byt j => obtain ⟨t', rfl⟩ := ry; exact PySem.W.eq_bytes (fin_bl I q dec_byt)
    | _ => exact absurd (show false = true from hs) Bool.false_ne_true
  | _ => cases y <;> exact absurd (show false = true from hs) Bool.false_ne_true
theorem op_ne : OpR X (compareOp .NotEq) rNe := by
  intro pins s σ H x y v u Q I rx ry h
  obtain ⟨hs, q⟩ := h
  cases x with
  | non =>
    cases rx
    cases y with
    | non => cases ry; exact PySem.EqNone.ne_none_none (fin_bl I q (by simp))
    | bl j => cases ry; exact PySem.EqNone.ne_none_bool (fin_bl I q (by simp))
    | int j => obtain ⟨t', rfl⟩ := ry; exact PySem.EqNone.ne_none_int (fin_bl I q (by simp))
    | str j => obtain ⟨t', rfl⟩ := ry; exact PySem.EqNone.ne_none_str (fin_bl I q (by simp))
    | _ => exact absurd (show false = true from hs) Bool.false_ne_true
  | bl i =>
    cases rx
    cases y with
    | non => cases ry; exact PySem.EqNone.ne_bool_none (fin_bl I q (by simp))
    | bl j => cases ry; exact ne_bool (fin_bl I q (congrArg not dec_bl))
    | str j => obtain ⟨t', rfl⟩ := ry; exact PySem.EqMixed.ne_bool_str (fin_bl I q (by simp))
    | _ => exact absurd (show false = true from hs) Bool.false_ne_true
  | int i =>
    obtain ⟨t, rfl⟩ := rx
    cases y with
    | non => cases ry; exact PySem.EqNone.ne_int_none (fin_bl I q (by simp))
    | int j => obtain ⟨t', rfl⟩ := ry; exact ne_int (fin_bl I q (congrArg not dec_int))
    | str j => obtain ⟨t', rfl⟩ := ry; exact PySem.EqMixed.ne_int_str (fin_bl I q (by simp))
    | _ => exact absurd (show false = true from hs) Bool.false_ne_true
  | str i =>
    obtain ⟨t, rfl⟩ := rx
    cases y with
    | non => cases ry; exact PySem.EqNone.ne_str_none (fin_bl I q (by simp))
    | bl j => cases ry; exact PySem.EqMixed.ne_str_bool (fin_bl I q (by simp))
    | int j => obtain ⟨t', rfl⟩ := ry; exact PySem.EqMixed.ne_str_int (fin_bl I q (by simp))
    | str j => obtain ⟨t', rfl⟩ := ry; exact ne_str (fin_bl I q (congrArg not dec_str))
    | _ => exact absurd (show false = true from hs) Bool.false_ne_true
  | byt i =>
    obtain ⟨t, rfl⟩ := rx
    cases y with
    | byt j => obtain ⟨t', rfl⟩ := ry; exact PySem.W.ne_bytes (fin_bl I q (congrArg not dec_byt))
    | _ => exact absurd (show false = true from hs) Bool.false_ne_true
  | _ => cases y <;> exact absurd (show false = true from hs) Bool.false_ne_true

theorem op_lt : OpR X (compareOp .Lt) (rI0 fun i j => .bl (decide (i < j))) := opB0 fun _ _ _ _ _ _ _ q => lt_int q
theorem op_le : OpR X (compareOp .LtE) (rI0 fun i j => .bl (decide (i ≤ j))) := opB0 fun _ _ _ _ _ _ _ q => le_int q
theorem op_gt : OpR X (compareOp .Gt) (rI0 fun i j => .bl (decide (j < i))) := opB0 fun _ _ _ _ _ _ _ q => gt_int q
theorem op_ge : OpR X (compareOp .GtE) (rI0 fun i j => .bl (decide (j ≤ i))) := opB0 fun _ _ _ _ _ _ _ q => ge_int q
/-- is None, is not None: the right side a value none -/
theorem op_isN : OpR X (compareOp .Is) (fun x y H Q => y = .non ∧ Q (.bl (decide (x = .non))) H) := by
  intro pins s σ H x y v u Q I rx ry h
  obtain ⟨rfl, q⟩ := h
  cases ry
  refine is_none_gen (fin_bl I q ?_)
  cases x <;> first
    | (cases rx; rfl)
    | (obtain ⟨t, rfl⟩ := rx; rfl)
theorem op_notN : OpR X (compareOp .IsNot) (fun x y H Q => y = .non ∧ Q (.bl (!decide (x = .non))) H) := by
  intro pins s σ H x y v u Q I rx ry h
  obtain ⟨rfl, q⟩ := h
  cases ry
  refine isnot_none_gen (fin_bl I q ?_)
  cases x <;> first
    | (cases rx; rfl)
    | (obtain ⟨t, rfl⟩ := rx; rfl)

theorem nomark (b : Expr) {op : CmpOp} (h : op ≠ .In := by decide) (h2 : op ≠ .NotIn := by decide) : behindInMarks op b = false := by
  have e1 : (op == CmpOp.In) = false := by cases op <;> first | rfl | exact absurd rfl h
  have e2 : (op == CmpOp.NotIn) = false := by cases op <;> first | rfl | exact absurd rfl h2
  cases b <;> simp [behindInMarks, e1, e2]
/-- a comparison as a value; hm: nomark b, or (for in, not in) by with_unfolding_all rfl -/
theorem pe_cmpR {op : CmpOp} {r : R2} (ho : OpR X (compareOp op) r) (ha : PE X a ta) (hb : PE X b tb) (hm : behindInMarks op b = false) : PE X (.Compare a [op] [b] pos) (tOp r ta tb) := by
  intro pins s σ H Q I h
  exact wpAny_Compare1 (binT ha hb I h fun v u s2 x y H2 I2 rx ry q => ho pins s2 σ H2 x y v u Q I2 rx ry q) hm
/-- a reading of a value as a test -/
def tTest (t : TE) : TT := fun σ H Q => t σ H fun x H' => ∃ k, x = .bl k ∧ Q k H'
theorem pt_cmpR {op : CmpOp} {r : R2} (ho : OpR X (compareOp op) r) (ha : PE X a ta) (hb : PE X b tb) (hm : behindInMarks op b = false) : PT X (.Compare a [op] [b] pos) (tTest (tOp r ta tb)) := by
  intro pins s σ H Q I h
  refine wpAny_isTrue_Compare1 (thn (ha pins s σ H _ I h) fun v s1 ⟨x, H1, I1, r1, q1⟩ => thn (hb pins s1 σ H1 _ I1 q1) fun u s2 ⟨y, H2, I2, r2, q2⟩ =>
    thn (ho pins s2 σ H2 x y v u _ I2 r1 r2 q2) fun c s3 ⟨z, H3, I3, r3, k, e, q3⟩ => ?_) hm
  subst e
  cases r3
  exact wpAny_truthy_bool ⟨H3, I3, q3⟩
/-- a op1 b op2 c -/
def tChain (r r' : R2) (ta tb tc : TE) : TE := fun σ H Q => ta σ H fun x H1 => tb σ H1 fun y H2 => r x y H2 fun z H3 => ∃ k, z = .bl k ∧
  (if k = true then tc σ H3 fun w' H4 => r' y w' H4 Q else Q (.bl false) H3)
theorem pe_chain {op op' : CmpOp} {r r' : R2} (ho : OpR X (compareOp op) r) (ho' : OpR X (compareOp op') r') (ha : PE X a ta) (hb : PE X b tb) (hc : PE X c tc)
    (hm : lastMarks [op, op'] [b, c] = false := by with_unfolding_all rfl) : PE X (.Compare a [op, op'] [b, c] pos) (tChain r r' ta tb tc) := by
  intro pins s σ H Q I h
  refine Compare_chain (thn (ha pins s σ H _ I h) fun v s1 ⟨x, H1, I1, r1, q1⟩ => chain_link (thn (hb pins s1 σ H1 _ I1 q1) fun u s2 ⟨y, H2, I2, r2, q2⟩ =>
    thn (ho pins s2 σ H2 x y v u _ I2 r1 r2 q2) fun d s3 ⟨z, H3, I3, r3, k, e, q3⟩ => ?_)) hm
  subst e
  cases r3
  refine wpAny_truthy_bool ?_
  cases k with
  | false => exact ite_ff ⟨.bl false, H3, I3, rfl, q3⟩
  | true => exact ite_tt (chain_last (thn (hc pins s3 σ H3 _ I3 q3) fun w' s4 ⟨z', H4, I4, r4, q4⟩ => ho' pins s4 σ H4 y z' u w' Q I4 r2 r4 q4))
theorem pt_chain {op op' : CmpOp} {r r' : R2} (ho : OpR X (compareOp op) r) (ho' : OpR X (compareOp op') r') (ha : PE X a ta) (hb : PE X b tb) (hc : PE X c tc)
    (hm : lastMarks [op, op'] [b, c] = false := by with_unfolding_all rfl) : PT X (.Compare a [op, op'] [b, c] pos) (tTest (tChain r r' ta tb tc)) := by
  intro pins s σ H Q I h
  refine isTrue_chain (thn (ha pins s σ H _ I h) fun v s1 ⟨x, H1, I1, r1, q1⟩ => test_link (thn (hb pins s1 σ H1 _ I1 q1) fun u s2 ⟨y, H2, I2, r2, q2⟩ =>
    thn (ho pins s2 σ H2 x y v u _ I2 r1 r2 q2) fun d s3 ⟨z, H3, I3, r3, k, e, q3⟩ => ?_)) hm
  subst e
  cases r3
  refine wpAny_truthy_bool ?_
  cases k with
  | false =>
    obtain ⟨k', e', q'⟩ := q3
    cases e'
    exact ite_ff ⟨H3, I3, q'⟩
  | true =>
    refine ite_tt (test_last (thn (hc pins s3 σ H3 _ I3 q3) fun w' s4 ⟨z', H4, I4, r4, q4⟩ => thn (ho' pins s4 σ H4 y z' u w' _ I4 r2 r4 q4) fun d' s5 ⟨z2, H5, I5, r5, k2, e2, q5⟩ => ?_))
    subst e2
    cases r5
    exact wpAny_truthy_bool ⟨H5, I5, q5⟩

/-! ### truth -/
/-- a value's truth by the abstract heap -/
def TruV (K : PySem.W.Frag) (x : V) (H : Hp) (k : Bool) : Prop :=
  match x with
  | .non => k = false
  | .bl b => k = b
  | .int i => k = (i != 0)
  | .str y => y.length ≤ sizeLine ∧ k = ((y.length : Int) != 0)
  | .byt y => y.size ≤ sizeLine ∧ k = ((y.size : Int) != 0)
  | .ref p => (∃ xs, SqL K H p xs ∧ k = !xs.isEmpty) ∨ (∃ xs, SqT K H p xs ∧ k = !xs.isEmpty) ∨ ∃ kvs, H p = some (.dK kvs) ∧ k = !kvs.isEmpty
  | _ => False
theorem isEmpty_kv {κ : Type} {kvs : List (κ × V)} {vs : List (κ × Value)} (r : KV kvs vs) : (!vs.isEmpty) = !kvs.isEmpty := by
  cases r <;> rfl
theorem isEmpty_of {xs : List V} {its : List Value} (r : Vals xs its) : (!its.toArray.isEmpty) = !xs.isEmpty := by
  cases r <;> simp
theorem line63 : (sizeLine : Nat) < 2 ^ 63 := by rw [sizeLine_eq]; decide
theorem tru_ok : TruR X (fun x H Q => ∃ k, TruV X.K x H k ∧ Q k H) := by
  intro pins s σ H x v Q I rx h
  obtain ⟨k, e, q⟩ := h
  have hl := line63
  have hs : sizeLine = 16777216 := sizeLine_eq
  cases x with
  | non =>
    cases rx
    have e' : k = false := e
    subst e'
    exact truthy_none ⟨H, I, q⟩
  | bl b =>
    cases rx
    have e' : k = b := e
    subst e'
    exact wpAny_truthy_bool ⟨H, I, q⟩
  | int i =>
    obtain ⟨t, rfl⟩ := rx
    have e' : k = (i != 0) := e
    subst e'
    exact PySem.P.truthy_int ⟨H, I, q⟩
  | str y =>
    obtain ⟨t, rfl⟩ := rx
    obtain ⟨hy, e'⟩ : y.length ≤ sizeLine ∧ k = ((y.length : Int) != 0) := e
    subst e'
    exact PySem.P.truthy_str (by omega) ⟨H, I.tok _, q⟩
  | byt y =>
    obtain ⟨t, rfl⟩ := rx
    obtain ⟨hy, e'⟩ : y.size ≤ sizeLine ∧ k = ((y.size : Int) != 0) := e
    subst e'
    exact PySem.W.truthy_bytes (by omega) ⟨H, I.tok _, q⟩
  | ref p =>
    cases rx
    have e' : (∃ xs, SqL X.K H p xs ∧ k = !xs.isEmpty) ∨ (∃ xs, SqT X.K H p xs ∧ k = !xs.isEmpty) ∨ ∃ kvs, H p = some (.dK kvs) ∧ k = !kvs.isEmpty := e
    rcases e' with ⟨xs, hx, e'⟩ | ⟨xs, hx, e'⟩ | ⟨kvs, hx, e'⟩
    · subst e'
      obtain ⟨its, r, pl, hz⟩ := I.list hx
      have hlen := r.length
      exact wpAny_truthy_list pl.isList (by simp only [List.size_toArray]; omega) ⟨H, I.tok _, by rw [isEmpty_of r]; exact q⟩
    · subst e'
      obtain ⟨its, r, pl, hz⟩ := I.tuple hx
      have hlen := r.length
      exact truthy_tuple pl (by simp only [List.size_toArray]; omega) ⟨H, I.tok _, by rw [isEmpty_of r]; exact q⟩
    · subst e'
      obtain ⟨hz, hS, vs, r, m⟩ : kvs.length ≤ sizeLine ∧ (p == sysModules) = false ∧ ∃ vs, KV kvs vs ∧ s.heap.DictOf (mixKind X.prog X.w) p vs := I.hok p _ hx
      have hlen : kvs.length = vs.length := Paired.length r
      exact wpAny_truthy_dict hS m (by omega) ⟨H, I.tok _, by rw [isEmpty_kv r]; exact q⟩
  | _ => exact (show False from e).elim
/-- any expression whose test is its value's truth (a name, a call, a subscript, a field ..: he by fun _ => rfl) -/
theorem pt_truth (ha : PE X a ta) (he : ∀ whole, isTrue a X.env whole = (do let v ← whole; standAt a.pos; holding [v] (truthy v))) :
    PT X a (fun σ H Q => ta σ H fun x H' => ∃ k, TruV X.K x H' k ∧ Q k H') := by
  intro pins s σ H Q I h
  exact isTrue_plain (thn (ha pins s σ H _ I h) fun v s1 ⟨x, H1, I1, r1, q1⟩ => tru_ok pins s1 σ H1 x v Q I1 r1 q1) (he _)

/-! ### strs and bytes -/
/-! ### scalar builtins, by CallR -/
theorem vals1 {x : V} {us : List Value} (r : Vals [x] us) : ∃ u, us = [u] ∧ RelV x u := by
  cases r with
  | cons r1 r2 => cases r2; exact ⟨_, rfl, r1⟩
theorem vals2 {x y : V} {us : List Value} (r : Vals [x, y] us) : ∃ u w', us = [u, w'] ∧ RelV x u ∧ RelV y w' := by
  cases r with
  | cons r1 r2 =>
    cases r2 with
    | cons r3 r4 => cases r4; exact ⟨_, _, rfl, r1, r3⟩
theorem call_abs : CallR X (.builtin "abs") (fun xs H Q => ∃ i, xs = [.int i] ∧ Q (.int (if i < 0 then -i else i)) H) := by
  intro pins s σ H xs us Q I r h
  obtain ⟨i, rfl, q⟩ := h
  obtain ⟨u, rfl, t, rfl⟩ := vals1 r
  exact call_abs_int fun u tk => ⟨.int (if i < 0 then -i else i), H, I.tok _, ⟨_, rfl⟩, q⟩
theorem call_max2 (hc : X.calm = true) : CallR X (.builtin "max") (fun xs H Q => ∃ i j, xs = [.int i, .int j] ∧ Q (.int (if j > i then j else i)) H) := by
  intro pins s σ H xs us Q I r h
  obtain ⟨i, j, rfl, q⟩ := h
  obtain ⟨u, w', rfl, ⟨t, rfl⟩, ⟨t', rfl⟩⟩ := vals2 r
  refine max_two_ints (I.ok.hd hc) fun h' tk k => ⟨_, H, I.kept k, ?_, q⟩
  by_cases hj : j > i
  · rw [if_pos hj, if_pos hj]; exact ⟨_, rfl⟩
  · rw [if_neg hj, if_neg hj]; exact ⟨_, rfl⟩
theorem call_min2 (hc : X.calm = true) : CallR X (.builtin "min") (fun xs H Q => ∃ i j, xs = [.int i, .int j] ∧ Q (.int (if j < i then j else i)) H) := by
  intro pins s σ H xs us Q I r h
  obtain ⟨i, j, rfl, q⟩ := h
  obtain ⟨u, w', rfl, ⟨t, rfl⟩, ⟨t', rfl⟩⟩ := vals2 r
  refine min_two_ints (I.ok.hd hc) fun h' tk k => ⟨_, H, I.kept k, ?_, q⟩
  by_cases hj : j < i
  · rw [if_pos hj, if_pos hj]; exact ⟨_, rfl⟩
  · rw [if_neg hj, if_neg hj]; exact ⟨_, rfl⟩
end
end L2

namespace L2
open PySem PySem.Spec PyProof.Rows

/-! ### an instance, its attributes a map -/
structure ObjM (h : Heap) (x dx C : Addr) (mA : Str → Option Value) : Prop where
  obj : h.get? x = some (PySem.W.instObj C dx)
  ns : h.Ns1 dx mA
  ne : dx ≠ x

theorem lookIn_ns {h : Heap} {dx : Addr} {mA : Str → Option Value} (n : h.Ns1 dx mA) : ∃ od, h.get? dx = some od ∧ ∀ name, PySem.W.lookIn name od = some (mA name) := by
  obtain ⟨o, es, ep, ho, hd, hk, _, hm⟩ := n
  refine ⟨o, ho, fun name => ?_⟩
  have e := hm name
  unfold nsFind findBy at e
  rw [← Array.find?_toList] at e
  unfold PySem.W.lookIn
  rw [hd]
  dsimp only
  split
  · rename_i y q
    rw [q] at e
    exact congrArg some e
  · rename_i q
    rw [q] at e
    have a : es.toList.any (·.refKey) = false := by
      rw [List.any_eq_false]
      intro y hy
      obtain ⟨z, t, hkey⟩ := hk y (Array.mem_toList_iff.mp hy)
      simp [DictEntry.refKey, hkey]
    have a' : ¬ es.toList.any (·.refKey) = true := by rw [a]; exact Bool.false_ne_true
    rw [if_neg a']
    exact congrArg some e

theorem ObjM.look {h : Heap} {x dx C : Addr} {mA : Str → Option Value} (I : ObjM h x dx C mA) : ∃ od, PySem.W.InstAt h x (PySem.W.instObj C dx) C (some od) ∧ ∀ name, PySem.W.lookIn name od = some (mA name) :=
  let ⟨od, ho, hl⟩ := lookIn_ns I.ns
  ⟨od, ⟨I.obj, rfl, rfl, ho⟩, hl⟩

section
variable {prog : Program} {w : World} {A : Around} {E : Value → Shared → Prop} {s : Shared} {K : PySem.W.Frag} {x dx C f : Addr} {mA : Str → Option Value} {name : Str} {v : Value}

end

/-! ### the attributes as a list of pairs -/
section
variable {P : Program} {w : World} {H H' : Hp} {h h' : Heap} {a C dx : Addr} {fs fs' : List (Str × V)}
theorem ins_get (hok : HOk P w H h) (e : H a = some (.ins C dx fs)) : ∃ mA, ObjM h a dx C mA ∧ (∀ f, RelO (fs.lookup f) (mA f)) ∧ PySem.Within mA (fs.map (·.1)) ∧ fs.length ≤ 1000 ∧ H dx = some (.own a) := by
  obtain ⟨d, z, ne, ob, mA, n, r, q⟩ := (show ObjOk P w H h a (.ins C dx fs) from hok a _ e)
  exact ⟨mA, ⟨ob, n, ne⟩, r, q, z, d⟩
end

/-! ### what of the text a class must have -/
structure Cls (K : PySem.W.Frag) (C : Addr) : Prop where
  pg : PySem.W.plainGet K C Str.empty = true
  hd : PySem.W.hasDictIn K C = true
  po : PySem.W.plainOver K C = true
  sa : PySem.W.findIn K (.ref C) "__setattr__" = some (some (.builtin "object.__setattr__"))
theorem Cls.get {K : PySem.W.Frag} {C : Addr} (c : Cls K C) (f : Str) : PySem.W.plainGet K C f = true := c.pg
/-- a constant of the class -/
structure Con (K : PySem.W.Frag) (C : Addr) (f : Str) (v : V) (u : Value) : Prop where
  at_ : PySem.W.findIn K (.ref C) f = some (some u)
  rel : RelV v u
  get : PySem.W.specialIn K u "__get__" = some none
  cp : PySem.W.copiedNames.contains f = false
/-- a method: a plain def of the class or of one above it -/
structure Meth (K : PySem.W.Frag) (C : Addr) (m : Str) (f : Addr) : Prop where
  at_ : PySem.W.findIn K (.ref C) m = some (some (.ref f))
  fn : PySem.W.isFn K (.ref f) = true
  kp : PySem.W.keepIn K (.ref f) = true

section
variable {X : Cx} {pins : List (Addr × Obj)} {σ : St} {H : Hp} {s : Shared} {a C dx : Addr} {fs : List (Str × V)} {f : Str} {v : V} {A : Around} {E : Value → Shared → Prop}

end

/-! ### readings and rules -/
section
variable {X : Cx} {o e value : Expr} {f : Str} {pos pos' tpos : Pos} {ta tv : TE}
end

/-! ### isinstance -/
section
variable {X : Cx} {pins : List (Addr × Obj)} {σ : St} {H : Hp} {s : Shared} {A : Around} {E : Value → Shared → Prop} {Q : Value → Shared → Prop} {c : Value} {b : Bool}
/-- the type of a value, as the fragment's deciders take it; for an instance its class -/
inductive TyOf (K : PySem.W.Frag) (H : Hp) : V → Value → Prop where
  | non : TyOf K H .non (.type "NoneType")
  | bl (x : Bool) : TyOf K H (.bl x) (.type "bool")
  | int (i : Int) : TyOf K H (.int i) (.type "int")
  | str (x : Str) : TyOf K H (.str x) (.type "str")
  | flt (x : UInt64) : TyOf K H (.flt x) (.type "float")
  | lst {a : Addr} {xs : List V} (e : H a = some (.lst xs)) : TyOf K H (.ref a) (.type "list")
  | frz {a : Addr} {o : Obj} {xs : List V} (e : H a = some (.frz o (.lst xs))) : TyOf K H (.ref a) (.type "list")
  | tup {a : Addr} {xs : List V} (e : H a = some (.tup xs)) : TyOf K H (.ref a) (.type "tuple")
  | dK {a : Addr} {kvs : List (Key × V)} (e : H a = some (.dK kvs)) : TyOf K H (.ref a) (.type "dict")
  | dT {a : Addr} {kvs : List (List Key × V)} (e : H a = some (.dT kvs)) : TyOf K H (.ref a) (.type "dict")
  | ins {a C dx : Addr} {fs : List (Str × V)} (e : H a = some (.ins C dx fs)) (cl : Cls K C) (ha : PySem.W.findIn K (.ref C) "__class__" = some (some (.builtin "object.__class__")))
      (hn : PySem.W.specialIn K (.builtin "object.__class__") "__get__" = some (some (.builtin "getset_descriptor.__get__"))) (htk : PySem.W.takesIn K (.builtin "object.__class__") = some true)
      (hm : PySem.W.mroIn K C (.type "object") = some true) : TyOf K H (.ref a) (.ref C)
/-- isinstance(x, c) for one class c, a built-in or an own one: kitOne's answer -/
theorem isinst_ok {x : V} {u t : Value} (I : Inv X pins σ H s) (rx : RelV x u) (ty : TyOf X.K H x t) (e : PySem.W.kitOne X.K t c = some b) (h : ∀ tk, Q (.bool b) { s with toks := tk }) :
    wpAny (model X.prog X.w) A (call (.builtin "isinstance") [u, c]) Q E s := by
  cases ty with
  | non => cases (show u = Value.none from rx); exact PySem.W.kia_one PySem.W.kitx_none I.kIn True.intro e (fun z => nomatch z) h
  | bl y => cases (show u = Value.bool y from rx); exact PySem.W.kia_one PySem.W.kitx_bool I.kIn True.intro e (fun z => nomatch z) h
  | int i => obtain ⟨t, q⟩ := (show ∃ t, u = Value.int i t from rx); cases q; exact PySem.W.kia_one PySem.W.kitx_int I.kIn True.intro e (fun z => nomatch z) h
  | str y => obtain ⟨t, q⟩ := (show ∃ t, u = Value.str y t from rx); cases q; exact PySem.W.kia_one PySem.W.kitx_str I.kIn True.intro e (fun z => nomatch z) h
  | flt y => obtain ⟨t, q⟩ := (show ∃ t, u = Value.float y t from rx); cases q; exact PySem.W.kia_one PySem.W.kitx_float I.kIn True.intro e (fun z => nomatch z) h
  | @lst a xs ea =>
    cases (show u = Value.ref a from rx)
    obtain ⟨_, _, n, _, h1⟩ := (show ObjOk X.prog X.w H s.heap a (.lst xs) from I.hok a _ ea)
    exact PySem.W.kia_one PySem.W.kitx_list I.kIn ⟨_, h1, rfl⟩ e (fun z => nomatch z) h
  | @frz a ob xs ea =>
    cases (show u = Value.ref a from rx)
    obtain ⟨_, _, _, n, _, h1⟩ := (show ObjOk X.prog X.w H s.heap a (.frz ob (.lst xs)) from I.hok a _ ea)
    exact PySem.W.kia_one PySem.W.kitx_list I.kIn ⟨_, h1, rfl⟩ e (fun z => nomatch z) h
  | @tup a xs ea =>
    cases (show u = Value.ref a from rx)
    obtain ⟨_, _, _, p⟩ := (show ObjOk X.prog X.w H s.heap a (.tup xs) from I.hok a _ ea)
    obtain ⟨o, h1, h2, _⟩ := p
    exact PySem.W.kia_one PySem.W.kitx_tuple I.kIn ⟨o, h1, h2⟩ e (fun z => nomatch z) h
  | @dK a kvs ea =>
    cases (show u = Value.ref a from rx)
    obtain ⟨_, _, vs, _, p⟩ := (show ObjOk X.prog X.w H s.heap a (.dK kvs) from I.hok a _ ea)
    obtain ⟨o, es, ep, h1, h2, _⟩ := p
    exact PySem.W.kia_one PySem.W.kitx_dict I.kIn ⟨o, h1, h2.1⟩ e (fun z => nomatch z) h
  | @dT a kvs ea =>
    cases (show u = Value.ref a from rx)
    obtain ⟨_, _, xs, _, o, es, ep, h1, h2, _⟩ := (show ObjOk X.prog X.w H s.heap a (.dT kvs) from I.hok a _ ea)
    exact PySem.W.kia_one PySem.W.kitx_dict I.kIn ⟨o, h1, h2.1⟩ e (fun z => nomatch z) h
  | @ins a C dx fs ea cl ha hn htk hm =>
    cases (show u = Value.ref a from rx)
    obtain ⟨mA, O, _⟩ := ins_get I.hok ea
    obtain ⟨od, J, _⟩ := O.look
    exact PySem.W.kia_one (PySem.W.kitx_own (cl.get _) cl.hd ha hn htk hm) I.kIn J e (fun z => nomatch z) h
end
end L2

namespace L2
open PySem PySem.Spec PyProof.Rows

/-! ### room -/
structure Room (k : Nat) (A : Around) : Prop where
  hd : A.handled = none
  dp : A.depth + 3 * k + 5 < recursionLimit
  un : A.units + 16 * k + 200 < cLine
  gd : A.guards = some []
theorem Room.mono {j k : Nat} {A : Around} (r : Room k A) (h : j ≤ k) : Room j A := ⟨r.hd, by have := r.dp; omega, by have := r.un; omega, r.gd⟩
theorem Room.deeper {k : Nat} {A : Around} (r : Room (k + 1) A) (env : Env) : Room k (A.deeper env) :=
  ⟨r.hd, by have := r.dp; show A.depth + 1 + 3 * k + 5 < _; omega, by have := r.un; show A.units + 3 + 16 * k + 200 < _; omega, r.gd⟩
theorem Room.depth {k : Nat} {A : Around} (r : Room k A) : A.depth < recursionLimit := by have := r.dp; omega
/-! ### argument lists and displays -/
def tNil : TA := fun _ H Q => Q [] H
def tCons (ta : TE) (tr : TA) : TA := fun σ H Q => ta σ H fun x H1 => tr σ H1 fun xs H2 => Q (x :: xs) H2
section
variable {X : Cx} {e : Expr} {es : List Expr} {te : TE} {t : TA} {pos : Pos}
theorem pa_nil : PA X [] tNil := fun _ _ _ _ H Q I h => Calls.spliced_nil ⟨[], H, I, .nil, h⟩
theorem pa_cons (ha : PE X e te) (hr : PA X es t) (hs : starEach (e :: es) X.env = (false, eval e X.env) :: starEach es X.env := by rfl) : PA X (e :: es) (tCons te t) := by
  intro pos pins s σ H Q I h
  rw [hs]
  show wpAny _ _ (spliced ((false, eval e X.env) :: backTo pos (starEach es X.env))) _ _ s
  refine Calls.spliced_cons (thn (ha pins s σ H _ I h) fun u s1 ⟨x, H1, I1, r1, q1⟩ => ?_)
  exact thn (hr pos pins s1 σ H1 _ I1 q1) fun us s2 ⟨xs, H2, I2, r2, q2⟩ => ⟨x :: xs, H2, I2, .cons r1 r2, q2⟩

/-- a tuple, a list of written items -/
def tTup (t : TA) : TE := fun σ H Q => t σ H fun xs H1 => xs.length ≤ sizeLine ∧ ∀ p, H1 p = none → Q (.ref p) (upd H1 p (.tup xs))
def tLst (t : TA) : TE := fun σ H Q => t σ H fun xs H1 => xs.length ≤ sizeLine ∧ ∀ p, H1 p = none → Q (.ref p) (upd H1 p (.lst xs))
theorem pe_tup {x1} (h : PA X es t) : PE X (.Tuple es x1 pos) (tTup t) := by
  intro pins s σ H Q I hq
  refine wpAny_Tuple_spliced (thn (h pos pins s σ H _ I hq) fun us s1 ⟨xs, H1, I1, r, z, q⟩ => ⟨by rw [← r.length]; exact z, ?_⟩)
  have hf : H1 s1.heap.objs.size = none := I1.hok.fresh (Nat.le_refl _)
  refine ⟨.ref s1.heap.objs.size, upd H1 s1.heap.objs.size (.tup xs), I1.laid (t' := s1.toks) (fun b u e => Heap.get?_push_of_some _ e) (Nat.le_refl _) ?_, rfl, q _ hf⟩
  exact ⟨z, us, r, ⟨_, Heap.get?_push_size _ rfl, rfl, rfl, _, rfl⟩⟩
theorem pe_lst (h : PA X es t) : PE X (.List es pos) (tLst t) := by
  intro pins s σ H Q I hq
  refine wpAny_List_spliced (thn (h pos pins s σ H _ I hq) fun us s1 ⟨xs, H1, I1, r, z, q⟩ => ⟨by rw [← r.length]; exact z, ?_⟩)
  have hf : H1 s1.heap.objs.size = none := I1.hok.fresh (Nat.le_refl _)
  refine ⟨.ref s1.heap.objs.size, upd H1 s1.heap.objs.size (.lst xs), I1.laid (t' := s1.toks) (fun b u e => Heap.get?_push_of_some _ e) (Nat.le_refl _) ?_, rfl, q _ hf⟩
  exact ⟨z, us, 0, r, Heap.get?_push_size _ rfl⟩
end

/-! ### what a def promises -/
/-- a def's promise: the bound arguments in the parameters' order, the heap, the wanted end, the wanted exception -/
abbrev Sp := List V → Hp → VK → XK → Prop
/-- how an exception lies behind a call (file 08 gives it): the callers' frames, abstract heap and state ahead of the call, the wish, the exception, the state -/
abbrev CXT := List Env → Hp → Shared → XK → Value → Shared → Prop

/-- the state at a call -/
structure Env0 (P : Program) (w : World) (K : PySem.W.Frag) (mg : Str → Option Value) (base : Heap) (A : Around) (outer : List Env) (s : Shared) (H : Hp) : Prop where
  frames : A.frames = some outer
  mod : Mod K mg base
  bs : ∀ b o, base.get? b = some o → s.heap.get? b = some o ∧ H b = none
  bsz : base.objs.size ≤ s.heap.objs.size
  funs : s.heap.FunFrames base outer
  frf : ∀ b ∈ frs outer, H b = none
  hok : HOk P w H s.heap
  bare : AllBare s.gens
/-- a call's end -/
def CE (outer : List Env) (P : Program) (w : World) (H : Hp) (s : Shared) (Q : VK) (u : Value) (s' : Shared) : Prop :=
  ∃ v H', s'.os = s.os ∧ AllBare s'.gens ∧ Un (frs outer) [] H H' s.heap s'.heap ∧ HOk P w H' s'.heap ∧ RelV v u ∧ Q v H'
def CR (CX : CXT) (outer : List Env) (P : Program) (w : World) (H : Hp) (s : Shared) (Q : VK) (E : XK) (r : Result) (s' : Shared) : Prop :=
  match r with
  | .ok (.ret u) => CE outer P w H s Q u s'
  | .ok _ => False
  | .error e => CX outer H s E e s'
structure FnOk (P : Program) (w : World) (K : PySem.W.Frag) (mg : Str → Option Value) (base : Heap) (CX : CXT) (k : Nat) (f : Addr) (fd : FuncData) (ps : List Str) (sp : Sp) : Prop where
  len : ∀ vs H Q E, sp vs H Q E → vs.length = ps.length
  run : ∀ (A : Around) (outer : List Env) (s : Shared) (H : Hp) (args : Args) (us : List Value) (vs : List V) (Q : VK) (E : XK), Room k A → Env0 P w K mg base A outer s H → BindsTo s fd args (ps.zip us) → Vals vs us → sp vs H Q E →
    codeAny (model P w) A (.call (.ref f) args) (CR CX outer P w H s Q E) s
theorem FnOk.mono {P : Program} {w : World} {K : PySem.W.Frag} {mg : Str → Option Value} {base : Heap} {CX : CXT} {j k : Nat} {f : Addr} {fd : FuncData} {ps : List Str} {sp : Sp} (F : FnOk P w K mg base CX j f fd ps sp) (h : j ≤ k) :
    FnOk P w K mg base CX k f fd ps sp := ⟨F.len, fun A outer s H args us vs Q E hr => F.run A outer s H args us vs Q E (hr.mono h)⟩
/-- a weaker promise -/
theorem FnOk.imp {P : Program} {w : World} {K : PySem.W.Frag} {mg : Str → Option Value} {base : Heap} {CX : CXT} {k : Nat} {f : Addr} {fd : FuncData} {ps : List Str} {sp sp' : Sp} (F : FnOk P w K mg base CX k f fd ps sp)
    (h : ∀ vs H Q E, sp' vs H Q E → sp vs H Q E) : FnOk P w K mg base CX k f fd ps sp' :=
  ⟨fun vs H Q E q => F.len vs H Q E (h _ _ _ _ q), fun A outer s H args us vs Q E hr he hb hv hs => F.run A outer s H args us vs Q E hr he hb hv (h _ _ _ _ hs)⟩

section
variable {X : Cx} {pins : List (Addr × Obj)} {σ : St} {H : Hp} {s s' : Shared}
/-- from a body: what a callee wants -/
theorem Inv.env0 (I : Inv X pins σ H s) : Env0 X.prog X.w X.K X.mg X.base X.A X.stack s H :=
  ⟨I.ok.frames, I.ok.mod, I.bs, Nat.le_trans I.ok.bsz I.sz, I.stack, I.stkFree, I.hok, I.bare⟩
/-- behind a call -/
theorem Inv.after {Q : VK} {u : Value} (I : Inv X pins σ H s) (h : CE X.stack X.prog X.w H s Q u s') : EP X pins σ Q u s' := by
  obtain ⟨v, H', os, bare, un, hok, r, q⟩ := h
  obtain ⟨hh, g, d, t, os'⟩ := s'
  obtain rfl : os' = s.os := os
  exact ⟨v, H', I.call (h' := hh) (g' := g) (d' := d) (t' := t) (ch := []) un hok bare (fun b z => absurd z (by simp)), r, q⟩
end

/-! ### calls -/
/-- f(..): the written arguments, then the defaults dvs; E: what is wanted of an exception -/
def tCall (sp : Sp) (dvs : List V) (E : XK) (t : TA) : TE := fun σ H Q => t σ H fun vs H1 => sp (vs ++ dvs) H1 Q E
/-- how the parameters are bound: us the positional arguments, kw the keywords' values by name, ds the defaults that fill up -/
def Binds (K : PySem.W.Frag) (fd : FuncData) (ps : List Str) (ds : List Value) : Prop :=
  ∀ (s : Shared) (us : List Value), K.In s.heap → (us ++ ds).length = ps.length → BindsTo s fd ⟨us, []⟩ (ps.zip (us ++ ds))
/-- every parameter is given -/
theorem Binds.all {K : PySem.W.Frag} {fd : FuncData} {ps : List Str} (h : ∀ us : List Value, us.length = ps.length → bindArgs fd ⟨us, []⟩ = pure (ps.zip us)) : Binds K fd ps [] := fun s us _ hl => by
  rw [List.append_nil] at hl ⊢
  exact .of_eq (h us hl)

/-- an exception of a callee reaches what this body wants of exceptions -/
def Passes (CX : CXT) (X : Cx) (E : XK) : Prop := ∀ (pins : List (Addr × Obj)) (σ : St) (H : Hp) (s : Shared) (e : Value) (s' : Shared), Inv X pins σ H s → CX X.stack H s E e s' → X.xe e s'

section
variable {X : Cx} {CX : CXT} {k : Nat} {f C : Addr} {fd : FuncData} {ps : List Str} {sp : Sp} {dvs : List V} {ds : List Value} {E : XK} {x m : Str} {p pos apos : Pos} {e o : Expr} {es : List Expr} {ta : TE} {t : TA}

/-- the callee runs -/
theorem run_fn {pins : List (Addr × Obj)} {σ : St} {H : Hp} {s : Shared} {Q : VK} {us : List Value} {vs : List V} (F : FnOk X.prog X.w X.K X.mg X.base CX k f fd ps sp) (hr : Room k X.A) (hb : Binds X.K fd ps ds) (hd : Vals dvs ds) (hx : Passes CX X E)
    (I : Inv X pins σ H s) (r : Vals vs us) (h : sp (vs ++ dvs) H Q E) : wpAny (model X.prog X.w) X.A (call (.ref f) us) (EP X pins σ Q) X.xe s := by
  have r2 : Vals (vs ++ dvs) (us ++ ds) := r.append hd
  have hl : (us ++ ds).length = ps.length := by rw [← r2.length]; exact F.len _ _ _ _ h
  refine wpAny_call (codeAny_mono (F.run X.A X.stack s H ⟨us, []⟩ (us ++ ds) (vs ++ dvs) Q E hr I.env0 (hb s us I.kIn hl) r2 h) fun r s' hq => ?_)
  cases r with
  | error e => exact hx pins σ H s e s' I hq
  | ok fl =>
    cases fl with
    | ret u => exact I.after hq
    | next => exact False.elim hq
    | brk => exact False.elim hq
    | cont => exact False.elim hq

theorem pe_call (F : FnOk X.prog X.w X.K X.mg X.base CX k f fd ps sp) (hr : Room k X.A) (hg : Gl X x) (hm : X.mg x = some (.ref f)) (hk : PySem.W.keepIn X.K (.ref f) = true) (hb : Binds X.K fd ps ds) (hd : Vals dvs ds) (hx : Passes CX X E)
    (ha : PA X (e :: es) t) (hdb : (x == ("__debug__" : Str)) = false := by decide) (he : starEach (e :: es) X.env = (false, eval e X.env) :: starEach es X.env := by rfl) (hpl : (backTo pos (starEach es X.env)).any (·.1) = false := by rfl) :
    PE X (.Call (.Name x p) (e :: es) [] pos) (tCall sp dvs E t) := by
  intro pins s σ H Q I h
  refine wpAny_Call_Name_kw (ld_glob I hg hm ?_ hdb)
  refine PySem.W.callWith_K (h₀ := X.base) I.ok.mod.kin hk (thn (ha pos pins s σ H _ I h) fun us s1 ⟨vs, H1, I1, r, q⟩ => ⟨I1.kIn, ?_⟩) he hpl
  exact run_fn F hr hb hd hx I1 r q
/-- what a class must have to be made -/
structure Mk (K : PySem.W.Frag) (C f : Addr) : Prop where
  makes : PySem.W.makesIn K C = true
  init : PySem.W.findIn K (.ref C) "__init__" = some (some (.ref f))
  fn : PySem.W.isFn K (.ref f) = true
  kp : PySem.W.keepIn K (.ref C) = true

end

/-! ### keywords -/
/-- the values of the keywords, from the left -/
def PK (X : Cx) (kws : List Keyword) (t : TA) : Prop :=
  ∀ (pos : Pos) (pins : List (Addr × Obj)) (s : Shared) (σ : St) (H : Hp) (Q : List V → Hp → Prop), Inv X pins σ H s → t σ H Q → wpAny (model X.prog X.w) X.A (evalAll ((backToKw pos (keywordEach kws X.env)).map (·.2))) (AP X pins σ Q) X.xe s
section
variable {X : Cx} {CX : CXT} {k : Nat} {f C : Addr} {fd : FuncData} {ps ks : List Str} {sp : Sp} {E : XK} {x m : Str} {p pos apos kpos : Pos} {e o : Expr} {es : List Expr} {kws : List Keyword} {te ta : TE} {t tk : TA} {nm : Option Str}
theorem pk_nil : PK X [] tNil := fun _ _ _ _ H Q I h => wpAny_evalAll_nil ⟨[], H, I, .nil, h⟩
theorem pk_cons (ha : PE X e te) (hr : PK X kws t) : PK X (⟨nm, e, kpos⟩ :: kws) (tCons te t) := by
  intro pos pins s σ H Q I h
  show wpAny _ _ (evalAll ((do let v ← eval e X.env; standAt pos; pure v) :: (backToKw pos (keywordEach kws X.env)).map (·.2))) _ _ s
  refine wpAny_evalAll_cons (wpAny_bind (thn (ha pins s σ H _ I h) fun u s1 ⟨x, H1, I1, r1, q1⟩ => wpAny_bind (wpAny_standAt (wpAny_pure ?_))))
  exact thn (hr pos pins s1 σ H1 _ I1 q1) fun us s2 ⟨xs, H2, I2, r2, q2⟩ => ⟨x :: xs, H2, I2, .cons r1 r2, q2⟩

/-- how a call with keywords binds: g puts the positional values us and the keywords' values ws (names ks) in the parameters' order, defaults among them -/
structure KBinds (K : PySem.W.Frag) (fd : FuncData) (ps ks : List Str) (g : List Value → List Value → List Value) (gV : List V → List V → List V) : Prop where
  to : ∀ (s : Shared) (us ws : List Value), K.In s.heap → (g us ws).length = ps.length → BindsTo s fd ⟨us, ks.zip ws⟩ (ps.zip (g us ws))
  rel : ∀ {vs : List V} {us : List Value} {zs : List V} {ws : List Value}, Vals vs us → Vals zs ws → Vals (gV vs zs) (g us ws)
variable {g : List Value → List Value → List Value} {gV : List V → List V → List V}
end

/-! ### a def's body keeps its promise -/
/-- names: the parameters first -/
structure FnScope (N P : List Str) (sc : Scope) : Prop where
  kind : sc.kind = .function
  co : sc.isCoroutine = false
  gen : sc.isGenerator = false
  nd : N.Nodup
  pre : N.take P.length = P
  par : ∀ x ∈ P, sc.names.lookup x = some .local ∨ sc.names.lookup x = some .cell
  nofree : ∀ y ∈ sc.names, y.2 ≠ .free

theorem bindL_out {kindOf : Str → Option NameKind} {x : Str} : ∀ {binds : List (Str × Value)} {m : Str → Option Value}, (∀ v, (x, v) ∉ binds) → bindL kindOf binds m x = m x
  | [], _, _ => rfl
  | (n, v) :: r, m, h => by
    unfold bindL
    rw [bindL_out fun w hw => h w (List.mem_cons_of_mem _ hw)]
    split
    · have : x ≠ n := by rintro rfl; exact h v List.mem_cons_self
      simp [this]
    · rfl
theorem bindC_out {kindOf : Str → Option NameKind} {x : Str} : ∀ {binds : List (Str × Value)} {m : Str → Option Value}, (∀ v, (x, v) ∉ binds) → bindC kindOf binds m x = m x
  | [], _, _ => rfl
  | (n, v) :: r, m, h => by
    unfold bindC
    rw [bindC_out fun w hw => h w (List.mem_cons_of_mem _ hw)]
    split
    · rfl
    · have : x ≠ n := by rintro rfl; exact h v List.mem_cons_self
      simp [this]
theorem bindL_get {kindOf : Str → Option NameKind} {x : Str} {v : Value} : ∀ {P : List Str} {vs : List Value} {i : Nat} {m : Str → Option Value}, P.Nodup → P[i]? = some x → vs[i]? = some v → kindOf x = some .local →
    bindL kindOf (P.zip vs) m x = some v
  | [], _, _, _, _, h, _, _ => by simp at h
  | _ :: _, [], _, _, _, _, h, _ => by simp at h
  | p :: P, w :: vs, 0, m, nd, h1, h2, hk => by
    simp at h1 h2; subst h1; subst h2
    show bindL kindOf ((p, w) :: P.zip vs) m p = _
    unfold bindL
    rw [bindL_out fun v hv => (List.nodup_cons.mp nd).1 (List.of_mem_zip hv).1, if_pos hk]
    simp
  | p :: P, w :: vs, i + 1, m, nd, h1, h2, hk => by
    show bindL kindOf ((p, w) :: P.zip vs) m x = _
    unfold bindL
    exact bindL_get (i := i) (List.nodup_cons.mp nd).2 (by simpa using h1) (by simpa using h2) hk
theorem bindC_get {kindOf : Str → Option NameKind} {x : Str} {v : Value} : ∀ {P : List Str} {vs : List Value} {i : Nat} {m : Str → Option Value}, P.Nodup → P[i]? = some x → vs[i]? = some v → kindOf x ≠ some .local →
    bindC kindOf (P.zip vs) m x = some v
  | [], _, _, _, _, h, _, _ => by simp at h
  | _ :: _, [], _, _, _, _, h, _ => by simp at h
  | p :: P, w :: vs, 0, m, nd, h1, h2, hk => by
    simp at h1 h2; subst h1; subst h2
    show bindC kindOf ((p, w) :: P.zip vs) m p = _
    unfold bindC
    rw [bindC_out fun v hv => (List.nodup_cons.mp nd).1 (List.of_mem_zip hv).1, if_neg hk]
    simp
  | p :: P, w :: vs, i + 1, m, nd, h1, h2, hk => by
    show bindC kindOf ((p, w) :: P.zip vs) m x = _
    unfold bindC
    exact bindC_get (i := i) (List.nodup_cons.mp nd).2 (by simpa using h1) (by simpa using h2) hk

/-- the names' values at the entry -/
def start (N : List Str) (vs : List V) : St := vs.map some ++ List.replicate (N.length - vs.length) none

/-- the context of a def's body, at its entry; an exception leaves the frame, then lies as CX says -/
def cxOf (CX : CXT) (P : Program) (w : World) (K : PySem.W.Frag) (mg : Str → Option Value) (base : Heap) (N : List Str) (qual : Str) (scope : Scope) (f : Addr) (cd : Value) (A : Around) (outer : List Env) (s : Shared) (H : Hp) (E : XK) : Cx where
  prog := P
  w := w
  K := K
  mg := mg
  base := base
  A := A.deeper (envOfC qual scope s.heap.objs.size f cd)
  N := N
  s₀ := s
  H₀ := H
  env := envOfC qual scope s.heap.objs.size f cd
  outer := outer
  stack := envOfC qual scope s.heap.objs.size f cd :: outer
  ex := []
  calm := true
  fn := fun _ => true
  pn := []
  xe := fun e s' => wpAny (model P w) (A.deeper (envOfC qual scope s.heap.objs.size f cd)) (leaving (envOfC qual scope s.heap.objs.size f cd) e) (fun _ s'' => CX outer H s E e s'') (fun e' s'' => CX outer H s E e' s'') s'

theorem cell_has {sc : Scope} {n : Nat} {x : Str} (h : sc.names.lookup x = some .cell) : ∃ c, (cellsFrom n sc.names []).lookup x = some c := by
  have q := PySem.W.cellsFrom_some sc.names n [] (.inl h)
  exact Option.isSome_iff_exists.mp q

theorem inv_start {CX : CXT} {P : Program} {w : World} {K : PySem.W.Frag} {mg : Str → Option Value} {base : Heap} {N ps : List Str} {qual : Str} {scope : Scope} {f : Addr} {cd : Value} {A : Around} {outer : List Env} {s s1 : Shared} {H : Hp} {E : XK} {us : List Value} {vs : List V}
    (S : FnScope N ps scope) (hd : A.handled = none) (e0 : Env0 P w K mg base A outer s H) (hl : vs.length = ps.length) (r : Vals vs us)
    (x : InCallC s s.heap.objs.size (bindL (envOfC qual scope s.heap.objs.size f cd).kindOf (ps.zip us) fun _ => none) (cellsFrom (s.heap.objs.size + 1) scope.names []) (bindC (envOfC qual scope s.heap.objs.size f cd).kindOf (ps.zip us) fun _ => none) s1) :
    Inv (cxOf CX P w K mg base N qual scope f cd A outer s H E) [] (start N vs) H s1 := by
  have hpl : ps.length ≤ N.length := by have := congrArg List.length S.pre; rw [List.length_take] at this; omega
  obtain ⟨h1, tk, rfl, hk⟩ := x.done
  have noA : ∀ b : Addr, b ∉ (cxOf CX P w K mg base N qual scope f cd A outer s H E).ex := fun b z => absurd (show b ∈ ([] : List Addr) from z) (by simp)
  refine ⟨⟨e0.mod, S.kind, rfl, rfl, Nat.le_refl _, fun y z c h1 h2 => ?_, fun y hy => ?_, fun y c _ h => ?_, fun _ => hd, Around.frames_deeper e0.frames, .inr ⟨rfl, rfl⟩, fun b z => absurd z (noA b), e0.bs, e0.bsz, fun b _ _ => noA b, fun b z => absurd z (noA b), e0.funs, e0.frf⟩,
    rfl, e0.bare, Un.kept hk, ⟨_, x.toInCall.ns, fun i y v h1 h2 h3 => ?_⟩, fun y c h => ⟨_, x.cell y c h⟩, e0.hok.fresh (Nat.le_refl _), fun y c h => ?_, fun p hp => absurd (show p ∈ ([] : List (Addr × Obj)) from hp) (by simp), e0.hok.kept hk, ?_⟩
  · exact name_of_addr x.apart (PySem.mem_of_lookup h1) (PySem.mem_of_lookup h2)
  · have hy : scope.names.lookup y = some .cell ∨ scope.names.lookup y = some .free := hy
    rcases hy with hy | hy
    · exact cell_has hy
    · exact absurd rfl (S.nofree _ (PySem.mem_of_lookup hy))
  · exact Nat.le_of_lt (x.above y c (PySem.mem_of_lookup h))
  · have hi : i < vs.length := by
      unfold start at h2
      by_cases hi : i < vs.length
      · exact hi
      · rw [List.getElem?_append_right (by simpa using hi)] at h2
        rw [List.getElem?_replicate] at h2
        split at h2 <;> cases h2
    have ha : vs[i]? = some v := by
      unfold start at h2
      rw [List.getElem?_append_left (by simpa using hi), List.getElem?_map] at h2
      cases e : vs[i]? with
      | none => rw [e] at h2; cases h2
      | some a => rw [e] at h2; cases h2; rfl
    obtain ⟨u, hu, rv⟩ := r.get ha
    have hp : ps[i]? = some y := by
      rw [← S.pre, List.getElem?_take_of_lt (by omega)]; exact h1
    have ndP : ps.Nodup := by rw [← S.pre]; exact S.nd.sublist (List.take_sublist _ _)
    refine ⟨u, rv, ?_⟩
    rcases S.par y (List.mem_of_getElem? hp) with k | k
    · exact .inl ⟨k, bindL_get ndP hp hu k⟩
    · obtain ⟨c, e⟩ := cell_has (n := s.heap.objs.size + 1) k
      refine .inr ⟨.inl k, c, e, ?_⟩
      have q := x.cell y c e
      rw [bindC_get ndP hp hu (by show scope.names.lookup y ≠ _; rw [k]; decide)] at q
      exact q
  · exact e0.hok.fresh (Nat.le_of_lt (x.above y c (PySem.mem_of_lookup h)))
  · unfold start
    show _ = N.length
    rw [List.length_append, List.length_map, List.length_replicate]
    omega

/-- THE RULE: a def (or a method) of the text, by its body. The body's reading t is chosen for each entry; it is run at the parameters' values -/
theorem fn_of {CX : CXT} {P : Program} {w : World} {K : PySem.W.Frag} {mg : Str → Option Value} {base : Heap} {k : Nat} {f : Addr} {name qual : Str} {params : Arguments} {body : List Stmt} {scope : Scope} {dV kV doc pm cdv ct oc : Value} {an od : Option Addr}
    {osl : Array (Option Value)} {N ps : List Str} {sp : Sp} (lk : K.lookup f = some ⟨oc, od, .func (PySem.W.fnOf name qual params body scope dV kV doc pm an cdv ct), osl⟩) (hcd : PySem.W.codeIn K cdv qual = true) (S : FnScope N ps scope)
    (len : ∀ vs H Q E, sp vs H Q E → vs.length = ps.length)
    (hbody : ∀ (A : Around) (outer : List Env) (s : Shared) (H : Hp) (vs : List V) (Q : VK) (E : XK), Room k (A.deeper (envOfC qual scope s.heap.objs.size f cdv)) → sp vs H Q E →
      ∃ t, PSs (cxOf CX P w K mg base N qual scope f cdv A outer s H E) body t ∧ t { nx := fun _ H' => Q .non H', rt := Q } (start N vs) H) :
    FnOk P w K mg base CX (k + 1) f (PySem.W.fnOf name qual params body scope dV kV doc pm an cdv ct) ps sp := by
  refine ⟨len, fun A outer s H args us vs Q E hr e0 hb r hsp => ?_⟩
  have hl := len _ _ _ _ hsp
  have KX : K.In s.heap := e0.mod.kin.keeps fun b o e => (e0.bs b o e).1
  have lim : s.heap.NoLimit := e0.mod.nolimit.keeps fun b o e => (e0.bs b o e).1
  have hkind : ∀ y ∈ ps.zip us, scope.names.lookup y.1 = some .local ∨ (scope.names.lookup y.1 = some .cell ∧ ((cellsFrom (s.heap.objs.size + 1) scope.names []).lookup y.1).isSome = true) := fun ⟨n, v⟩ hy => by
    rcases S.par n (List.of_mem_zip hy).1 with q | q
    · exact .inl q
    · exact .inr ⟨q, PySem.W.cellsFrom_some _ _ _ (.inl q)⟩
  refine codeAny_call_function hr.depth (KX _ _ lk) rfl S.co S.gen rfl (PySem.W.codeRec_of KX hcd) (hb _ _ _ _ ?_)
  refine wpAny_newFunctionEnv_cells S.kind hkind fun env he s1 x => ?_
  subst he
  refine ⟨lim.keeps x.toInCall.keep, codeAny_func ?_⟩
  obtain ⟨t, ht, hq⟩ := hbody A outer s H vs Q E (hr.deeper _) hsp
  have I : Inv (cxOf CX P w K mg base N qual scope f cdv A outer s H E) [] (start N vs) H s1 := inv_start S hr.hd e0 hl r x
  refine wpAny_mono (ht [] s1 (start N vs) H _ I hq) (fun fl s' hs => ?_) fun e s' hs => hs
  have fin : ∀ {σ' : St} {H' : Hp} {v : V} {u : Value}, Inv (cxOf CX P w K mg base N qual scope f cdv A outer s H E) [] σ' H' s' → RelV v u → Q v H' → CE outer P w H s Q u s' :=
    fun {σ' H' v u} J rv q => ⟨v, H', J.os, J.bare, J.base, J.hok, rv, q⟩
  cases fl with
  | ret u =>
    obtain ⟨v, σ', H', J, rv, q⟩ := hs
    exact fin J rv q
  | next =>
    obtain ⟨σ', H', J, q⟩ := hs
    exact fin (v := V.non) (u := Value.none) J rfl q
  | brk =>
    obtain ⟨_, _, _, q⟩ := hs
    exact False.elim q
  | cont =>
    obtain ⟨_, _, _, q⟩ := hs
    exact False.elim q
end L2

namespace L2
open PySem PySem.Spec PyProof.Rows
section
variable {X : Cx} {x : Str} {p pos : Pos} {e : Expr} {es : List Expr} {t : TA} {id T : String} {r : List V → Hp → VK → Prop}

def tCB (r : List V → Hp → VK → Prop) (t : TA) : TE := fun σ H Q => t σ H fun vs H1 => r vs H1 Q
/-- f(e, ..), f a built-in function -/
theorem pe_callB (hc : CallR X (.builtin id) r) (hg : Gl X x) (hm : X.mg x = none) (hv : bootBuiltins x = some (.builtin id)) (ha : PA X (e :: es) t) (hn : x ≠ "__name__" := by decide) (hdb : (x == ("__debug__" : Str)) = false := by decide)
    (he : starEach (e :: es) X.env = (false, eval e X.env) :: starEach es X.env := by rfl) (hpl : (backTo pos (starEach es X.env)).any (·.1) = false := by rfl) : PE X (.Call (.Name x p) (e :: es) [] pos) (tCB r t) := by
  intro pins s σ H Q I h
  refine wpAny_Call_Name_kw (ld_blt I hg hm hv ?_ hn hdb)
  exact PyProof.Rows.callWith_builtin1 (thn (ha pos pins s σ H _ I h) fun us s1 ⟨vs, H1, I1, r1, q1⟩ => hc pins s1 σ H1 vs us Q I1 r1 q1) he hpl
/-- T(e, ..), T a built-in type -/
theorem pe_callTy (hc : CallR X (.type T) r) (hg : Gl X x) (hm : X.mg x = none) (hv : bootBuiltins x = some (.type T)) (ha : PA X (e :: es) t) (hn : x ≠ "__name__" := by decide) (hdb : (x == ("__debug__" : Str)) = false := by decide)
    (he : starEach (e :: es) X.env = (false, eval e X.env) :: starEach es X.env := by rfl) (hpl : (backTo pos (starEach es X.env)).any (·.1) = false := by rfl) : PE X (.Call (.Name x p) (e :: es) [] pos) (tCB r t) := by
  intro pins s σ H Q I h
  refine wpAny_Call_Name_kw (ld_blt I hg hm hv ?_ hn hdb)
  exact PyProof.Rows.callWith_type1 (thn (ha pos pins s σ H _ I h) fun us s1 ⟨vs, H1, I1, r1, q1⟩ => hc pins s1 σ H1 vs us Q I1 r1 q1) he hpl
end
end L2

namespace HT
open PySem PyProof.Rows

section
open PySem.SeqAt
open PySem.AutoSeq1 (wpAny_loadPart')
open PySem.MeetsSeq PySem.MeetsSeq2 PySem.MeetsSeq3

end

section
variable {prog : Program} {w : World} {A : Around} {E : Value → Shared → Prop} {s : Shared}

/-! ### t[a:b], not the whole -/
/-- a slice's bound as a place among n (d where it is left out) -/
def sIx (n d : Nat) : Option Int → Nat
  | none => d
  | some v => if v < 0 then (v + (n : Int)).toNat else min v.toNat n
theorem sIx_nat (n d k : Nat) : sIx n d (some (k : Int)) = min k n := by
  show (if (k : Int) < 0 then ((k : Int) + (n : Int)).toNat else min (k : Int).toNat n) = min k n
  rw [if_neg (by omega), Int.toNat_natCast]
theorem sIx_le (n d : Nat) (hd : d ≤ n) (o : Option Int) : sIx n d o ≤ n := by
  cases o with
  | none => exact hd
  | some v =>
    show (if v < 0 then (v + (n : Int)).toNat else min v.toNat n) ≤ n
    by_cases hv : v < 0
    · rw [if_pos hv]; omega
    · rw [if_neg hv]; exact Nat.min_le_right _ _
theorem clip_eq (v : Int) (n d : Nat) : (if v < 0 then max (v + (n : Int)) 0 else min v (n : Int)) = ((sIx n d (some v) : Nat) : Int) := by
  show (if v < 0 then max (v + (n : Int)) 0 else min v (n : Int)) = (((if v < 0 then (v + (n : Int)).toNat else min v.toNat n) : Nat) : Int)
  by_cases hv : v < 0
  · simp only [if_pos hv]; omega
  · simp only [if_neg hv]; omega
theorem adjust_gen (lo hi : Option Int) (n : Nat) : Builtin.Slice.sliceAdjust lo hi 1 (n : Int) = (((sIx n 0 lo : Nat) : Int), ((sIx n n hi : Nat) : Int)) := by
  have h1 : ¬ ((1 : Int) < 0) := by omega
  unfold Builtin.Slice.sliceAdjust
  simp only [h1, if_false]
  refine Prod.ext ?_ ?_
  · cases lo with
    | none => rfl
    | some v => exact clip_eq v n 0
  · cases hi with
    | none => rfl
    | some v => exact clip_eq v n n
theorem places_gen (i j : Nat) : Builtin.Slice.slicePlaces (i : Int) (j : Int) 1 = j - i := by
  unfold Builtin.Slice.slicePlaces
  have h1 : (1 : Int) > 0 := by omega
  simp only [h1, if_true, Int.ediv_one]
  split <;> omega
theorem slicePart_ {v : Value} {o : Option Int} {Q : Option Int → Shared → Prop} (p : IsPart v o) (h : Q o s) : wpAny (model prog w) A (Builtin.Slice.slicePartIndex v) Q E s := by
  cases p with
  | none => exact slicePart_none h
  | int i t => exact slicePart_int h
theorem sliceApplied_gen {sl : Addr} {vl vu : Value} {lo hi : Option Int} {n : Nat} {Q : Int × Int × Nat → Shared → Prop} (hs : s.heap.IsSliceOf sl vl vu .none) (pl : IsPart vl lo) (pu : IsPart vu hi)
    (h : Q (((sIx n 0 lo : Nat) : Int), 1, sIx n n hi - sIx n 0 lo) s) : wpAny (model prog w) A (Builtin.Slice.sliceApplied (.ref sl) (pure (n : Int))) Q E s := by
  obtain ⟨os, hos, hcs, hds⟩ := id hs
  unfold Builtin.Slice.sliceApplied Builtin.Slice.sliceFields
  refine wpAny_bind (wpAny_bind (wpAny_field hos hds (x := vl) rfl (wpAny_bind (wpAny_field hos hds (x := vu) rfl (wpAny_bind (wpAny_field hos hds (x := .none) rfl (wpAny_pure ?_)))))))
  refine wpAny_bind (slicePart_none ?_)
  show wpAny _ _ (if ((1 : Int) == 0) = true then _ else _) _ _ s
  rw [if_neg (by decide)]
  refine wpAny_bind (slicePart_ pl (wpAny_bind (slicePart_ pu (wpAny_bind (wpAny_pure ?_)))))
  show wpAny _ _ (match Builtin.Slice.sliceAdjust lo hi 1 (n : Int) with | (lo, hi) => pure (lo, (1 : Int), Builtin.Slice.slicePlaces lo hi 1)) _ _ s
  rw [adjust_gen lo hi n]
  show wpAny _ _ (pure (((sIx n 0 lo : Nat) : Int), (1 : Int), Builtin.Slice.slicePlaces ((sIx n 0 lo : Nat) : Int) ((sIx n n hi : Nat) : Int) 1)) _ _ s
  rw [places_gen]
  exact wpAny_pure h
theorem pick_gen (xs : Array Value) (i k : Nat) : ((List.range k).filterMap fun (m : Nat) => xs[((i : Int) + (m : Int) * 1).toNat]?).toArray = ((xs.toList.drop i).take k).toArray := by
  have e : (fun (m : Nat) => xs[((i : Int) + (m : Int) * 1).toNat]?) = fun m => xs[i + m]? := by
    funext m
    have : ((i : Int) + (m : Int) * 1).toNat = i + m := by omega
    rw [this]
  rw [e]
  have := pick_run xs i k
  rw [List.filterMap_map] at this
  have e2 : ((fun x => xs[x]?) ∘ fun x => i + x) = fun m => xs[i + m]? := rfl
  rw [e2] at this
  rw [this]

theorem getItem_tuple_cut {t sl : Addr} {items : Array Value} {vl vu : Value} {lo hi : Option Int} {Q : Value → Shared → Prop} (ht : IsTup s.heap t items) (hs : s.heap.IsSliceOf sl vl vu .none) (pl : IsPart vl lo) (pu : IsPart vu hi)
    (hw : ¬ (sIx items.size 0 lo = 0 ∧ sIx items.size items.size hi = items.size))
    (h : Q (.ref s.heap.objs.size) { s with heap := s.heap.push { cls := .type "tuple", data := .seq ((items.toList.drop (sIx items.size 0 lo)).take (sIx items.size items.size hi - sIx items.size 0 lo)).toArray } })
    (hsz : items.size ≤ sizeLine) : wpAny (model prog w) A (getItem (.ref t) (.ref sl)) Q E s := by
  have htake : sizeOk (.seq ((items.toList.drop (sIx items.size 0 lo)).take (sIx items.size items.size hi - sIx items.size 0 lo)).toArray) := by
    show ((items.toList.drop (sIx items.size 0 lo)).take (sIx items.size items.size hi - sIx items.size 0 lo)).toArray.size ≤ sizeLine
    rw [List.size_toArray, List.length_take, List.length_drop, Array.length_toList]
    omega
  have hj : sIx items.size items.size hi ≤ items.size := sIx_le _ _ (Nat.le_refl _) hi
  obtain ⟨os, hos, hcs, hds⟩ := id hs
  have hTs : s.TypeIs (.ref sl) "slice" := ⟨os, hos, hcs⟩
  unfold getItem
  try with_reducible refine wpAny_holding ?_
  first | refine wpAny_bind (wpAny_pure ?_) | skip
  refine wpAny_bind (wpAny_sequenceKey ht.typeIs (by decide) ?_)
  refine wpAny_bind (wpAny_callSpecial?_slot (name := Str.ofString "__getitem__") ht.typeIs PyProof.Rows.slot_tuple_getitem
    (wpAny_call_entry PyProof.Rows.slot_tuple_getitem ht.typeIs entry_tuple_getitem ?_ (args_tuple_getitem _ _)))
  show wpAny _ _ (Builtin.Tuple.tupleItemsOf (.ref t) >>= _) _ _ s
  refine wpAny_bind (tupleItemsOf_ ht ?_)
  refine wpAny_bind (wpAny_typeOf hTs ?_)
  rw [if_pos (by decide)]
  refine wpAny_bind (sliceApplied_gen hs pl pu ?_)
  have hno : ¬ ((((sIx items.size 0 lo : Nat) : Int) == 0 && (1 : Int) == 1 && (sIx items.size items.size hi - sIx items.size 0 lo) == items.size) = true) := by
    intro q
    rw [Bool.and_eq_true, Bool.and_eq_true] at q
    have q1 : ((sIx items.size 0 lo : Nat) : Int) = 0 := eq_of_beq q.1.1
    have q2 : sIx items.size items.size hi - sIx items.size 0 lo = items.size := eq_of_beq q.2
    exact hw ⟨by omega, by omega⟩
  show wpAny _ _ (if (((sIx items.size 0 lo : Nat) : Int) == 0 && (1 : Int) == 1 && (sIx items.size items.size hi - sIx items.size 0 lo) == items.size) = true then _ else _) _ _ s
  rw [if_neg hno, pick_gen]
  first
    | exact wpAny_bind (m := Builtin.Tuple.tupleExact _) (wpAny_newObj_type (wpAny_pure ⟨_, rfl, wpAny_pure h⟩) htake)
    | exact wpAny_bind (m := Builtin.Tuple.tupleExact _) (wpAny_newObj_type (wpAny_bind (wpAny_pure (wpAny_pure ⟨_, rfl, wpAny_pure h⟩))) htake)
    | exact wpAny_bind (wpAny_bind (m := Builtin.Tuple.tupleExact _) (wpAny_newObj_type (wpAny_pure (wpAny_pure ⟨_, rfl, wpAny_pure h⟩)) htake))
    | exact wpAny_bind (wpAny_bind (m := Builtin.Tuple.tupleExact _) (wpAny_newObj_type (wpAny_pure ⟨_, rfl, wpAny_pure h⟩) htake))
end
end HT

namespace L2
open PySem PySem.Spec PyProof.Rows

/-! ### the parts of a slice -/
abbrev TO := St → Hp → (Option Int → Hp → Prop) → Prop
/-- a slice's part (left out, or an int) -/
def PO (X : Cx) (e : Option Expr) (t : TO) : Prop :=
  ∀ (pins : List (Addr × Obj)) (s : Shared) (σ : St) (H : Hp) (Q : Option Int → Hp → Prop), Inv X pins σ H s → t σ H Q →
    wpAny (model X.prog X.w) X.A (evalPart e X.env) (fun u s' => ∃ o H', Inv X pins σ H' s' ∧ IsPart u o ∧ Q o H') X.xe s
def tNoPart : TO := fun _ H Q => Q none H
def tPart (t : TE) : TO := fun σ H Q => t σ H fun x H1 => ∃ i, x = .int i ∧ Q (some i) H1

theorem intsAre_of {ns : List Int} : ∀ {us : List Value}, Vals (ns.map V.int) us → IntsAre us ns := by
  induction ns with
  | nil => intro us r; rw [List.map_nil] at r; cases r; exact .nil
  | cons n ns ih =>
    intro us r
    rw [List.map_cons] at r
    cases r with
    | cons r1 r2 =>
      obtain ⟨t, e⟩ := r1
      subst e
      exact .cons n t (ih r2)

section
variable {X : Cx} {e : Expr} {te : TE} {lo hi : Option Expr} {tl th : TO} {pos p2 : Pos}

theorem po_none : PO X none tNoPart := by
  intro pins s σ H Q I h
  rw [evalPart_none]
  exact wpAny_pure ⟨none, H, I, .none, h⟩
theorem po_some (h : PE X e te) : PO X (some e) (tPart te) := by
  intro pins s σ H Q I hw
  rw [evalPart_some]
  refine thn (h pins s σ H _ I hw) fun u s1 ⟨x, H1, I1, r1, q1⟩ => ?_
  obtain ⟨i, rfl, q⟩ := q1
  obtain ⟨t, rfl⟩ := r1
  exact ⟨some i, H1, I1, .int i t, q⟩

/-- what a slice of a value is, by values: the slice object stands at sl -/
def SlR (X : Cx) (r : V → Option Int → Option Int → Hp → VK → Prop) : Prop :=
  ∀ (pins : List (Addr × Obj)) (s : Shared) (σ : St) (H : Hp) (x : V) (v vl vu : Value) (lo hi : Option Int) (sl : Addr) (Q : VK), Inv X pins σ H s → RelV x v → s.heap.IsSliceOf sl vl vu .none → IsPart vl lo → IsPart vu hi → r x lo hi H Q →
    ∃ T id, typeLookup (.type T) "__getitem__" = pure (some (.builtin id)) ∧ s.TypeIs v T ∧ wpAny (model X.prog X.w) X.A (getItem v (.ref sl)) (EP X pins σ Q) X.xe s
def tSl (r : V → Option Int → Option Int → Hp → VK → Prop) (te : TE) (tl th : TO) : TE := fun σ H Q => te σ H fun x H1 => tl σ H1 fun l H2 => th σ H2 fun u H3 => r x l u H3 Q
/-- a[lo:hi], any a -/
theorem pe_slice {r : V → Option Int → Option Int → Hp → VK → Prop} (hr : SlR X r) (he : PE X e te) (hl : PO X lo tl) (hu : PO X hi th) : PE X (.Subscript e (.Slice lo hi none p2) pos) (tSl r te tl th) := by
  intro pins s σ H Q I h
  refine Subscript_ (thn (he pins s σ H _ I h) fun v s1 ⟨x, H1, I1, r1, q1⟩ => ?_)
  refine wpAny_Slice (thn (hl pins s1 σ H1 _ I1 q1) fun vl s2 ⟨l, H2, I2, pl, q2⟩ => thn (hu pins s2 σ H2 _ I2 q2) fun vu s3 ⟨u, H3, I3, pu, q3⟩ => ?_)
  rw [evalPart_none]
  refine wpAny_pure ?_
  have I4 : Inv X pins σ H3 { s3 with heap := s3.heap.push { cls := .type "slice", data := .fields #[vl, vu, .none] } } := I3.kept (t' := s3.toks) fun b ob q => Heap.get?_push_of_some _ q
  obtain ⟨T, id, hT, ht, hg⟩ := hr pins { s3 with heap := s3.heap.push { cls := .type "slice", data := .fields #[vl, vu, .none] } } σ H3 x v vl vu l u s3.heap.objs.size Q I4 r1 (Heap.IsSliceOf.new ..) pl pu q3
  show wpAny (model X.prog X.w) X.A (subscriptTail e (.Slice lo hi none p2) v (.ref s3.heap.objs.size)) (EP X pins σ Q) X.xe { s3 with heap := s3.heap.push { cls := .type "slice", data := .fields #[vl, vu, .none] } }
  exact tail_any (ops := [.ref s3.heap.objs.size, v]) ht hT hg (by with_unfolding_all rfl)

/-- the items of xs[lo:hi] -/
def cutV (xs : List V) (lo hi : Option Int) : List V := (xs.drop (HT.sIx xs.length 0 lo)).take (HT.sIx xs.length xs.length hi - HT.sIx xs.length 0 lo)
theorem cutV_length (xs : List V) (lo hi : Option Int) : (cutV xs lo hi).length ≤ xs.length := by
  unfold cutV
  rw [List.length_take, List.length_drop]
  omega
/-- t[lo:hi], not the whole of it (the whole would be t itself) -/
def rSlT (K : PySem.W.Frag) : V → Option Int → Option Int → Hp → VK → Prop := fun x lo hi H Q => ∃ a xs, x = .ref a ∧ SqT K H a xs ∧
  ¬ (HT.sIx xs.length 0 lo = 0 ∧ HT.sIx xs.length xs.length hi = xs.length) ∧ ∀ p, H p = none → Q (.ref p) (upd H p (.tup (cutV xs lo hi)))
theorem sl_tup : SlR X (rSlT X.K) := by
  intro pins s σ H x v vl vu lo hi sl Q I rx hs pl pu h
  obtain ⟨a, xs, rfl, hx, hw, q⟩ := h
  cases rx
  obtain ⟨its, r, ht, hz⟩ := I.tuple hx
  have hlen : its.toArray.size = xs.length := by rw [List.size_toArray]; exact r.length.symm
  refine ⟨"tuple", _, PyProof.Rows.slot_tuple_getitem.lookup, ht.typeIs, ?_⟩
  refine HT.getItem_tuple_cut ht hs pl pu (by rw [hlen]; exact hw) ?_ (by rw [hlen]; exact hz)
  rw [hlen]
  refine ⟨.ref s.heap.objs.size, _, I.laid (t' := s.toks) (o := .tup (cutV xs lo hi)) (fun b ob q => Heap.get?_push_of_some _ q) (Nat.le_refl _) ?_, rfl, q _ (I.hok.fresh (Nat.le_refl _))⟩
  exact ⟨Nat.le_trans (cutV_length xs lo hi) hz, _, (r.drop (HT.sIx xs.length 0 lo)).take (HT.sIx xs.length xs.length hi - HT.sIx xs.length 0 lo), IsTupD.new _ _⟩

/-! ### t < u, t + u -/
end
end L2

namespace L2
open PySem PySem.Spec PyProof.Rows

/-! ### places -/
/-- the place that an index of any sign means -/
def ixN (n : Nat) (i : Int) : Option Nat := if 0 ≤ i then (if i < n then some i.toNat else none) else if -(n : Int) ≤ i then some (i + n).toNat else none
def atI {α : Type} (xs : List α) (i : Int) : Option α := (ixN xs.length i).bind fun j => xs[j]?
theorem ixN_seq {n : Nat} {i : Int} {j : Nat} (h : ixN n i = some j) : seqIndex? i n = some j ∧ j < n ∧ -(n : Int) ≤ i ∧ i < n := by
  unfold ixN at h
  by_cases h0 : 0 ≤ i
  · rw [if_pos h0] at h
    by_cases h1 : i < n
    · rw [if_pos h1] at h
      have e : i.toNat = j := Option.some.inj h
      exact ⟨by rw [seqIndex_of h0 h1, e], by omega, by omega, h1⟩
    · rw [if_neg h1] at h; cases h
  · rw [if_neg h0] at h
    by_cases h1 : -(n : Int) ≤ i
    · rw [if_pos h1] at h
      have e : (i + n).toNat = j := Option.some.inj h
      exact ⟨by rw [seqIndex_neg (by omega) h1, e], by omega, h1, by omega⟩
    · rw [if_neg h1] at h; cases h
theorem atI_get {α : Type} {xs : List α} {i : Int} {v : α} (h : atI xs i = some v) : ∃ j, seqIndex? i xs.length = some j ∧ xs[j]? = some v ∧ j < xs.length ∧ -(xs.length : Int) ≤ i ∧ i < xs.length := by
  unfold atI at h
  cases e : ixN xs.length i with
  | none => rw [e] at h; cases h
  | some j =>
    rw [e] at h
    obtain ⟨h1, h2, h3, h4⟩ := ixN_seq e
    exact ⟨j, h1, h, h2, h3, h4⟩
theorem atI_nat {α : Type} {xs : List α} {j : Nat} {v : α} (h : xs[j]? = some v) : atI xs (j : Int) = some v := by
  have hj : j < xs.length := (List.getElem?_eq_some_iff.mp h).1
  have e : ixN xs.length (j : Int) = some j := by
    unfold ixN
    rw [if_pos (by omega), if_pos (by omega)]; simp
  unfold atI; rw [e]; exact h
theorem atI_last {α : Type} (xs : List α) (v : α) : atI (xs ++ [v]) (-1) = some v := by
  have hl : (xs ++ [v]).length = xs.length + 1 := by simp
  have e : ixN (xs ++ [v]).length (-1) = some xs.length := by
    unfold ixN
    rw [hl, if_neg (by decide), if_pos (by omega)]
    congr 1
    omega
  unfold atI
  rw [e]
  show (xs ++ [v])[xs.length]? = some v
  simp

/-! ### what may be subscripted -/
/-- what stands as an index of a plain subscript -/
def PlainIx (b : Expr) : Prop := ∀ o i, subscripted b false o i = operate [o, i] (getItem o i)
/-- a subscript by values -/
def IxR (X : Cx) (r : R2) : Prop :=
  ∀ (value slice : Expr) (pins : List (Addr × Obj)) (s : Shared) (σ : St) (H : Hp) (x y : V) (v u : Value) (Q : VK), Inv X pins σ H s → RelV x v → RelV y u → r x y H Q →
    subscripted slice false v u = operate [v, u] (getItem v u) → wpAny (model X.prog X.w) X.A (subscriptTail value slice v u) (EP X pins σ Q) X.xe s
/-- a call of a builtin's method by values: the receiver, the arguments -/
def MtR (X : Cx) (id : String) (r : V → List V → Hp → VK → Prop) : Prop :=
  ∀ (pins : List (Addr × Obj)) (s : Shared) (σ : St) (H : Hp) (x : V) (xs : List V) (v : Value) (us : List Value) (Q : VK), Inv X pins σ H s → RelV x v → Vals xs us → r x xs H Q →
    wpAny (model X.prog X.w) X.A (call (.builtin id) (v :: us)) (EP X pins σ Q) X.xe s
section
variable {X : Cx} {a b : Expr} {ta tb : TE} {pos : Pos}
/-- a[b] -/
theorem pe_ix {r : R2} (hr : IxR X r) (ha : PE X a ta) (hb : PE X b tb) (hs : PlainIx b) : PE X (.Subscript a b pos) (tOp r ta tb) := by
  intro pins s σ H Q I h
  exact Subscript_ (binT ha hb I h fun v u s2 x y H2 I2 rx ry q => hr a b pins s2 σ H2 x y v u Q I2 rx ry q (hs _ _))

def rIxL (K : PySem.W.Frag) : R2 := fun x y H Q => ∃ p xs i v, x = .ref p ∧ y = .int i ∧ SqL K H p xs ∧ atI xs i = some v ∧ Q v H
def rIxT (K : PySem.W.Frag) : R2 := fun x y H Q => ∃ p xs i v, x = .ref p ∧ y = .int i ∧ SqT K H p xs ∧ atI xs i = some v ∧ Q v H
theorem ix_list : IxR X (rIxL X.K) := by
  intro value slice pins s σ H x y v u Q I rx ry h hs
  obtain ⟨p, xs, i, z, rfl, rfl, hq, he, q⟩ := h
  cases rx
  obtain ⟨t, rfl⟩ := ry
  obtain ⟨its, r, pl, hz⟩ := I.list hq
  obtain ⟨j, h1, h2, h3, h4, h5⟩ := atI_get he
  obtain ⟨w, ew, rw'⟩ := r.get h2
  have hl := r.length
  have hn := line63
  have fin : EP X pins σ Q w s := ⟨z, H, I, rw', q⟩
  by_cases h0 : 0 ≤ i
  · have hj : i.toNat = j := by
      rw [seqIndex_of h0 h5] at h1
      exact Option.some.inj h1
    exact item_listR pl.isList h0 (by omega) (by rw [hj]; simpa using ew) fin hs
  · have hj : (i + (its.toArray.size : Int)).toNat = j := by
      rw [seqIndex_neg (by omega) h4] at h1
      rw [List.size_toArray, ← hl]
      exact Option.some.inj h1
    exact subscriptTail_builtinR (x := w) pl.isList.typeIs slot_list_getitem.lookup
      (wpAny_getItem_list_neg (Q := fun r s' => r = w ∧ EP X pins σ Q r s') pl.isList (by omega) (by rw [List.size_toArray] <;> omega) (by omega) (by rw [hj]; simpa using ew) ⟨rfl, fin⟩) hs
theorem ix_tup : IxR X (rIxT X.K) := by
  intro value slice pins s σ H x y v u Q I rx ry h hs
  obtain ⟨p, xs, i, z, rfl, rfl, hq, he, q⟩ := h
  cases rx
  obtain ⟨t, rfl⟩ := ry
  obtain ⟨its, r, pl, hz⟩ := I.tuple hq
  obtain ⟨j, h1, h2, h3, h4, h5⟩ := atI_get he
  obtain ⟨w, ew, rw'⟩ := r.get h2
  have hl := r.length
  have hn := line63
  have fin : EP X pins σ Q w s := ⟨z, H, I, rw', q⟩
  exact subscriptTail_builtinR (x := w) pl.typeIs slot_tuple_getitem.lookup
    (getItem_tuple (j := j) (Q := fun r s' => r = w ∧ EP X pins σ Q r s') pl (by omega) (by omega) (by rw [List.size_toArray, ← hl]; exact h1) (by simpa using ew) ⟨rfl, fin⟩) hs
/-! ### xs[i] = v, any sign -/
/-- the list's object behind a store -/
theorem mapSeq_set (its : List Value) (n j : Nat) (u : Value) : Obj.mapSeq (·.setIfInBounds j u) { cls := .type "list", data := .seq its.toArray n } = { cls := .type "list", data := .seq (its.set j u).toArray n } := by
  simp [Obj.mapSeq]
theorem Inv.lst {pins : List (Addr × Obj)} {σ : St} {H : Hp} {s : Shared} {p : Addr} {xs : List V} (I : Inv X pins σ H s) (h : H p = some (.lst xs)) :
    ∃ (its : List Value) (n : Nat), Vals xs its ∧ s.heap.get? p = some { cls := .type "list", data := .seq its.toArray n } ∧ xs.length ≤ sizeLine := by
  obtain ⟨z, its, n, r, e⟩ := I.hok p _ h
  exact ⟨its, n, r, e, z⟩
/-- the list at p is written by an update of its object -/
theorem Inv.lstUpd {pins : List (Addr × Obj)} {σ : St} {H : Hp} {s : Shared} {p : Addr} {xs ys : List V} {its its' : List Value} {n n' : Nat} {f : Obj → Obj} (I : Inv X pins σ H s) (h : H p = some (.lst xs))
    (ho : s.heap.get? p = some { cls := .type "list", data := .seq its.toArray n }) (hf : f { cls := .type "list", data := .seq its.toArray n } = { cls := .type "list", data := .seq its'.toArray n' }) (r : Vals ys its') (hz : ys.length ≤ sizeLine) (t : Nat) :
    Inv X pins σ (upd H p (.lst ys)) { s with heap := s.heap.update p f, toks := t } := by
  have e : (s.heap.update p f).get? p = some { cls := .type "list", data := .seq its'.toArray n' } := by
    rw [Heap.get?_update_self f ho (by rw [hf] <;> rfl), hf]
  refine I.write (x := p) (e := p) (by rw [h]; trivial) (.inl rfl) (fun b u hb q => (Heap.get?_update_other _ _ (Ne.symm hb)).trans q) ⟨_, e⟩ ?_
  exact ⟨hz, its', n', r, e⟩
def rSetL : V → V → V → Hp → (Hp → Prop) → Prop := fun o i v H Q => ∃ p xs k j, o = .ref p ∧ i = .int k ∧ H p = some (.lst xs) ∧ ixN xs.length k = some j ∧ Q (upd H p (.lst (xs.set j v)))
theorem set_list : PSet X rSetL := by
  intro pins s σ H o i v ov iv u Q I ro ri rv h
  obtain ⟨p, xs, k, j, rfl, rfl, hp, hj, q⟩ := h
  cases ro
  obtain ⟨t, rfl⟩ := ri
  obtain ⟨its, n, r, ho, hz⟩ := I.lst hp
  obtain ⟨h1, h2, h3, h4⟩ := ixN_seq hj
  have hl := r.length
  have hn := line63
  have I' : Inv X pins σ (upd H p (.lst (xs.set j v))) { s with heap := s.heap.update p (Obj.mapSeq (·.setIfInBounds j u)) } :=
    I.lstUpd hp ho (mapSeq_set its n j u) (r.set rv j) (by rw [List.length_set]; exact hz) s.toks
  by_cases h0 : 0 ≤ k
  · have hk : k.toNat = j := by
      rw [seqIndex_of h0 h4] at h1
      exact Option.some.inj h1
    exact PySem.W.ki_setAt ho h0 (by omega) (by rw [List.size_toArray, ← hl]; exact h4) (by rw [hk]; exact ⟨_, I', q⟩)
  · have hk : (k + (its.toArray.size : Int)).toNat = j := by
      rw [seqIndex_neg (by omega) h3] at h1
      rw [List.size_toArray, ← hl]
      exact Option.some.inj h1
    exact PySem.W.ki_setBack ho (by omega) (by rw [List.size_toArray, ← hl]; exact h3) (by omega) (by rw [hk]; exact ⟨_, I', q⟩)

/-! ### slices -/
theorem slice_bounds (lo hi : Option Int) (n : Nat) : (sliceBounds lo hi none n).1 = ((HT.sIx n 0 lo : Nat) : Int) ∧ (sliceBounds lo hi none n).2.1 = ((HT.sIx n n hi : Nat) : Int) ∧ (sliceBounds lo hi none n).2.2 = 1 := by
  refine ⟨?_, ?_, rfl⟩
  · cases lo with
    | none => simp [sliceBounds, HT.sIx]
    | some i =>
      simp only [sliceBounds, HT.sIx, Option.getD_none, show (1 : Int) > 0 by decide, if_true]
      by_cases h : i < 0
      · simp only [h, if_true] <;> omega
      · simp only [h, if_false] <;> omega
  · cases hi with
    | none => simp [sliceBounds, HT.sIx]
    | some i =>
      simp only [sliceBounds, HT.sIx, Option.getD_none, show (1 : Int) > 0 by decide, if_true]
      by_cases h : i < 0
      · simp only [h, if_true] <;> omega
      · simp only [h, if_false] <;> omega
theorem slicePick_cut (its : List Value) (lo hi : Option Int) : slicePick its.toArray lo hi none = ((its.drop (HT.sIx its.length 0 lo)).take (HT.sIx its.length its.length hi - HT.sIx its.length 0 lo)).toArray := by
  obtain ⟨h1, h2, h3⟩ := slice_bounds lo hi its.toArray.size
  unfold slicePick
  rw [h1, h2, h3]
  simp only [sliceRange_one, pick_run, List.size_toArray] <;> rfl
/-- xs[lo:hi] of a list: a new list -/
def rSlL (K : PySem.W.Frag) : V → Option Int → Option Int → Hp → VK → Prop := fun x lo hi H Q => ∃ a xs, x = .ref a ∧ SqL K H a xs ∧ ∀ p, H p = none → Q (.ref p) (upd H p (.lst (cutV xs lo hi)))
theorem sl_list : SlR X (rSlL X.K) := by
  intro pins s σ H x v vl vu lo hi sl Q I rx hs pl pu h
  obtain ⟨a, xs, rfl, hx, q⟩ := h
  cases rx
  obtain ⟨its, r, ht, hz⟩ := I.list hx
  have hlen := r.length
  refine ⟨"list", _, slot_list_getitem.lookup, ht.isList.typeIs, ?_⟩
  refine wpAny_getItem_list_slice ht.isList hs pl pu .none (by simp) ?_ (by rw [List.size_toArray] <;> omega)
  rw [slicePick_cut, ← hlen]
  refine ⟨.ref s.heap.objs.size, _, I.laid (t' := s.toks) (o := .lst (cutV xs lo hi)) (fun b ob q => Heap.get?_push_of_some _ q) (Nat.le_refl _) ?_, rfl, q _ (I.hok.fresh (Nat.le_refl _))⟩
  exact ⟨Nat.le_trans (cutV_length xs lo hi) hz, _, 0, (r.drop (HT.sIx xs.length 0 lo)).take (HT.sIx xs.length xs.length hi - HT.sIx xs.length 0 lo), Heap.get?_push_size _ rfl⟩

/-! ### in, not in: flat items -/
/-! ### len, list(x), tuple(x) of any list or tuple that is read -/
theorem call_len_seq : CallR X (.builtin "len") (fun xs H Q => ∃ p ys, xs = [.ref p] ∧ (SqL X.K H p ys ∨ SqT X.K H p ys) ∧ Q (.int ys.length) H) := by
  intro pins s σ H xs us Q I r h
  obtain ⟨p, ys, rfl, hq, q⟩ := h
  obtain ⟨u, rfl, rx⟩ := vals1 r
  cases rx
  have hn := line63
  rcases hq with hq | hq
  · obtain ⟨its, r', pl, hz⟩ := I.list hq
    have hlen := r'.length
    exact Calls.call_len_list pl.isList (by simp only [List.size_toArray] <;> omega) ⟨.int ys.length, H, I.tok _, ⟨s.toks + 1, by rw [List.size_toArray, hlen]⟩, q⟩
  · obtain ⟨its, r', pl, hz⟩ := I.tuple hq
    have hlen := r'.length
    exact len_tuple pl (by simp only [List.size_toArray] <;> omega) ⟨.int ys.length, H, I.tok _, ⟨s.toks + 1, by rw [List.size_toArray, hlen]⟩, q⟩
theorem call_list_of : CallR X (.type "list") (fun xs H Q => ∃ p ys, xs = [.ref p] ∧ (SqL X.K H p ys ∨ SqT X.K H p ys) ∧ ∀ l, H l = none → Q (.ref l) (upd H l (.lst ys))) := by
  intro pins s σ H xs us Q I r h
  obtain ⟨p, ys, rfl, hq, q⟩ := h
  obtain ⟨u, rfl, rx⟩ := vals1 r
  cases rx
  have fin : ∀ (its : List Value), Vals ys its → ys.length ≤ sizeLine → ∀ (h' : Heap) (c' : Nat), (∀ b o', s.heap.get? b = some o' → h'.get? b = some o') →
      h'.get? s.heap.objs.size = some { cls := .type "list", dict := none, data := .seq its.toArray c', slots := #[] } → EP X pins σ Q (.ref s.heap.objs.size) { s with heap := h' } := fun its r' hz h' c' kp e =>
    ⟨.ref s.heap.objs.size, _, I.laid (t' := s.toks) kp (Nat.le_refl _) (show ObjOk X.prog X.w _ h' _ (.lst ys) from ⟨hz, its, c', r', e⟩), rfl, q _ (I.hok.fresh (Nat.le_refl _))⟩
  rcases hq with hq | hq
  · obtain ⟨its, r', pl, hz⟩ := I.list hq
    have hlen := r'.length
    obtain ⟨o, ho, hc, n, hd⟩ := pl.isList
    exact call_list_seq p (.inl rfl) ho hc hd (fun h' c' kp e => fin its r' hz h' c' kp e) (by simp only [List.size_toArray] <;> omega)
  · obtain ⟨its, r', pl, hz⟩ := I.tuple hq
    have hlen := r'.length
    obtain ⟨o, ho, hc, n, hd⟩ := pl
    exact call_list_seq p (.inr rfl) ho hc hd (fun h' c' kp e => fin its r' hz h' c' kp e) (by simp only [List.size_toArray] <;> omega)
theorem call_tuple_of : CallR X (.type "tuple") (fun xs H Q => ∃ p ys, xs = [.ref p] ∧ ((SqL X.K H p ys ∧ ∀ l, H l = none → Q (.ref l) (upd H l (.tup ys))) ∨ (SqT X.K H p ys ∧ Q (.ref p) H))) := by
  intro pins s σ H xs us Q I r h
  obtain ⟨p, ys, rfl, h⟩ := h
  obtain ⟨u, rfl, rx⟩ := vals1 r
  cases rx
  rcases h with ⟨hq, q⟩ | ⟨hq, q⟩
  · obtain ⟨its, r', pl, hz⟩ := I.list hq
    have hlen := r'.length
    refine call_tuple_list pl.isList (fun h' kp => ?_) (by simp only [List.size_toArray] <;> omega)
    have I1 : Inv X pins σ H { s with heap := h' } := I.kept (t' := s.toks) kp
    have I2 : Inv X pins σ (upd H h'.objs.size (.tup ys)) { s with heap := h'.push { cls := .type "tuple", data := .seq its.toArray } } :=
      I1.laid (t' := s.toks) (fun b o e => Heap.get?_push_of_some _ e) (Nat.le_refl _) (show ObjOk X.prog X.w _ _ _ (.tup ys) from ⟨hz, its, r', IsTupD.new _ _⟩)
    exact ⟨.ref h'.objs.size, _, I2, rfl, q _ (I1.hok.fresh (Nat.le_refl _))⟩
  · obtain ⟨its, r', pl, hz⟩ := I.tuple hq
    exact call_tuple_same pl ⟨.ref p, H, I, rfl, q⟩

/-! ### the call of a builtin's method: o.m(..) -/
/-- the value is of that builtin type -/
def tyV (K : PySem.W.Frag) (T : String) (x : V) (H : Hp) : Prop := match x with
  | .str _ => T = "str"
  | .int _ => T = "int"
  | .ref p => (T = "list" ∧ ∃ xs, SqL K H p xs) ∨ (T = "tuple" ∧ ∃ o, K.lookup p = some o ∧ o.cls = .type "tuple" ∧ o.dict = none) ∨
      (T = "dict" ∧ ((∃ kvs, H p = some (.dK kvs)) ∨ ∃ kvs, H p = some (.dT kvs))) ∨ (T = "set" ∧ ∃ S n, H p = some (.set S n))
  | _ => False
theorem tyV_is {pins : List (Addr × Obj)} {σ : St} {H : Hp} {s : Shared} {T : String} {x : V} {v : Value} (I : Inv X pins σ H s) (r : RelV x v) (ty : tyV X.K T x H) :
    s.TypeIs v T ∧ ∀ a, v = .ref a → ∃ ob, s.heap.get? a = some ob ∧ ob.dict = none := by
  cases x with
  | str z =>
    obtain ⟨t, rfl⟩ := r
    cases (show T = "str" from ty)
    exact ⟨typeIs_str s z t, fun _ e => nomatch e⟩
  | int i =>
    obtain ⟨t, rfl⟩ := r
    cases (show T = "int" from ty)
    exact ⟨typeIs_int s i t, fun _ e => nomatch e⟩
  | ref p =>
    cases r
    rcases ty with ⟨rfl, xs, hq⟩ | ⟨rfl, o, hk, hc, hd⟩ | ⟨rfl, hk⟩ | ⟨rfl, S, n, hk⟩
    · obtain ⟨its, _, pl, _⟩ := I.list hq
      refine ⟨pl.isList.typeIs, fun a e => ?_⟩
      cases e
      obtain ⟨o, n, e, c, hd, _⟩ := pl
      exact ⟨o, e, hd⟩
    · refine ⟨⟨o, I.kIn p o hk, hc⟩, fun a e => ?_⟩
      cases e
      exact ⟨o, I.kIn _ o hk, hd⟩
    · have z : ∃ o, s.heap.get? p = some o ∧ o.ExactDict := by
        rcases hk with ⟨kvs, hk⟩ | ⟨kvs, hk⟩
        · obtain ⟨_, _, _, _, o, _, _, e, ex, _⟩ := I.hok p _ hk
          exact ⟨o, e, ex⟩
        · obtain ⟨_, _, _, _, o, _, _, e, ex, _⟩ := I.hok p _ hk
          exact ⟨o, e, ex⟩
      obtain ⟨o, e, ex⟩ := z
      refine ⟨⟨o, e, ex.1⟩, fun a e2 => ?_⟩
      cases e2
      exact ⟨o, e, ex.2.1⟩
    · obtain ⟨o, _, _, _, e, ex, _⟩ := I.hok p _ hk
      refine ⟨⟨o, e, ex.1⟩, fun a e2 => ?_⟩
      cases e2
      exact ⟨o, e, ex.2.1⟩
  | _ => exact False.elim ty
def tBM (K : PySem.W.Frag) (T : String) (r : V → List V → Hp → VK → Prop) (to : TE) (t : TA) : TE := fun σ H Q => to σ H fun x H1 => tyV K T x H1 ∧ t σ H1 fun xs H2 => r x xs H2 Q
variable {o e : Expr} {es : List Expr} {to : TE} {t : TA} {name : Str} {apos cpos : Pos} {T id : String} {r : V → List V → Hp → VK → Prop}
theorem pe_bm (pa : PlainAttrs T) (slot : Slot T name id) (hty : typeOf (.builtin id) = pure (.type "method_descriptor")) (hm : MtR X id r) (ho : PE X o to) (ha : PA X (e :: es) t)
    (hbase : attributeBase o name X.env (eval o X.env) = eval o X.env := by rfl)
    (hfew : ((backTo cpos (starEach (e :: es) X.env)).all (fun x => !x.1) && (backToKw cpos (keywordEach [] X.env)).all (fun x => x.1.isSome)
      && decide ((e :: es).length + ([] : List Keyword).length + (if ([] : List Keyword).isEmpty then 0 else 1) < 30)) = true := by rfl)
    (hline : (apos.endLine == cpos.line) = true := by rfl) (hs : starEach (e :: es) X.env = (false, eval e X.env) :: starEach es X.env := by rfl) (hplain : (backTo cpos (starEach es X.env)).any (·.1) = false := by rfl) :
    PE X (.Call (.Attribute o name apos) (e :: es) [] cpos) (tBM X.K T r to t) := by
  intro pins s σ H Q I h
  refine wpAny_Call_method_late hbase hfew hline rfl (thn (ho pins s σ H _ I h) fun v s1 ⟨x, H1, I1, r1, ty, q1⟩ => ?_)
  obtain ⟨h1, h2⟩ := tyV_is I1 r1 ty
  refine ⟨T, id, pa, slot, hty, h1, h2, ?_⟩
  have hA := ha cpos pins s1 σ H1 _ I1 q1
  rw [hs] at hA ⊢
  refine Calls.callWith_builtin (by show (false || (backTo cpos (starEach es X.env)).any (·.1)) = false; rw [hplain] <;> rfl) (Calls.evalArgs_plain ?_)
  exact thn hA fun us s2 ⟨vs, H2, I2, r2, q2⟩ => hm pins s2 σ H2 x vs v us Q I2 r1 r2 q2
/- xs.append(e), list.index on a module's tuple .. are MtR facts of 06m -/
end
end L2

namespace L2
open PySem PySem.Spec PyProof.Rows

def MtM (X : Cx) (id : String) (r : V → List V → Hp → VK → Prop) : Prop :=
  ∀ (pins : List (Addr × Obj)) (s : Shared) (σ : St) (H : Hp) (x : V) (xs : List V) (v : Value) (us : List Value) (Q : VK), Inv X pins σ H s → RelV x v → Vals xs us → r x xs H Q →
    wpAny (model X.prog X.w) X.A (call (.builtin id) (v :: us)) (EP X pins σ Q) X.xe s

/-! ### lists of values -/
theorem Vals.one : ∀ {x : V} {us : List Value}, Vals [x] us → ∃ u, us = [u] ∧ RelV x u
  | _, _, .cons r .nil => ⟨_, rfl, r⟩
theorem Vals.reverse {xs : List V} {us : List Value} (h : Vals xs us) : Vals xs.reverse us.reverse := by
  induction h with
  | nil => exact .nil
  | cons r t ih => rw [List.reverse_cons, List.reverse_cons]; exact Vals.append ih (.cons r .nil)
theorem Vals.rep {xs : List V} {us : List Value} (h : Vals xs us) : ∀ k : Nat, Vals (List.replicate k xs).flatten (List.replicate k us).flatten
  | 0 => .nil
  | k + 1 => by
    rw [List.replicate_succ, List.replicate_succ, List.flatten_cons, List.flatten_cons]
    exact Vals.append h (Vals.rep h k)
theorem foldl_rep (its : List Value) : ∀ (k : Nat) (acc : List Value),
    List.foldl (fun x1 x2 => x1 ++ x2) acc.toArray (List.replicate k its.toArray) = (acc ++ (List.replicate k its).flatten).toArray
  | 0, acc => by simp
  | k + 1, acc => by
    have e : acc.toArray ++ its.toArray = (acc ++ its).toArray := by simp
    have e2 : (acc ++ its) ++ (List.replicate k its).flatten = acc ++ (List.replicate (k + 1) its).flatten := by
      rw [List.replicate_succ, List.flatten_cons, List.append_assoc]
    rw [← e2, ← foldl_rep its k (acc ++ its), ← e, List.replicate_succ, List.foldl_cons]

section
variable {X : Cx} {pins : List (Addr × Obj)} {σ : St} {H : Hp} {s : Shared} {l b : Addr} {xs ys zs : List V}

/-! ### the two steps: a tracked list is rewritten, a new list is laid -/
theorem Inv.lset {its its' : List Value} {n : Nat} {f : Array Value → Array Value} {t' : Nat} (I : Inv X pins σ H s) (hH : H l = some (.lst xs))
    (e : s.heap.get? l = some { cls := .type "list", data := .seq its.toArray n }) (hf : f its.toArray = its'.toArray) (hv : Vals ys its') (hz : ys.length ≤ sizeLine) :
    Inv X pins σ (upd H l (.lst ys)) { s with heap := s.heap.update l (Obj.mapSeq f), toks := t' } := by
  have q := PySem.IsL.update e f
  rw [hf] at q
  refine I.write (x := l) (e := l) (by rw [hH]; exact trivial) (.inl rfl) (fun b' u hb hu => (Heap.get?_update_other s.heap (Obj.mapSeq f) (Ne.symm hb)).trans hu) ⟨_, q⟩ ?_
  exact ⟨hz, its', _, hv, q⟩
theorem Inv.lnew {its : List Value} {t' : Nat} (I : Inv X pins σ H s) (hv : Vals ys its) (hz : ys.length ≤ sizeLine) :
    Inv X pins σ (upd H s.heap.objs.size (.lst ys)) { s with heap := s.heap.push { cls := .type "list", data := .seq its.toArray }, toks := t' } :=
  I.laid (fun _ _ q => Heap.get?_push_of_some _ q) (Nat.le_refl _) ⟨hz, its, 0, hv, Heap.get?_push_size _ rfl⟩
theorem Inv.fresh (I : Inv X pins σ H s) : H s.heap.objs.size = none := I.hok.fresh (Nat.le_refl _)
theorem Inv.lstM (I : Inv X pins σ H s) (hH : H l = some (.lst xs)) : xs.length ≤ sizeLine ∧ ∃ (its : List Value) (n : Nat), Vals xs its ∧ xs.length = its.length ∧ s.heap.get? l = some { cls := .type "list", data := .seq its.toArray n } := by
  obtain ⟨z, its, n, r, e⟩ := I.hok l _ hH
  exact ⟨z, its, n, r, r.length, e⟩

theorem notLongL {n : Nat} (h : n ≤ sizeLine) : Builtin.List.listTooLong n = false := by
  unfold Builtin.List.listTooLong
  exact decide_eq_false (by omega)
end

section
variable {X : Cx}

/-! ### methods -/
def rAppend : V → List V → Hp → VK → Prop := fun x vs H Q => ∃ l xs y, x = .ref l ∧ vs = [y] ∧ H l = some (.lst xs) ∧ xs.length < sizeLine ∧ Q .non (upd H l (.lst (xs ++ [y])))
theorem mt_append : MtM X "list.append" rAppend := by
  intro pins s σ H x vs v us Q I rx rv h
  obtain ⟨l, xs, y, rfl, rfl, hH, hz, q⟩ := h
  cases rx
  obtain ⟨u, rfl, ru⟩ := rv.one
  obtain ⟨z, its, n, r, hl, e⟩ := I.lstM hH
  refine call_meets F.slot_list_append ⟨_, e, rfl⟩ F.entry_list_append (F.args_list_append_2 _ _) (PySem.list_append l its.toArray n u (by rw [List.size_toArray]; omega)) ⟨e, ?_⟩
  refine ⟨.non, _, I.lset (its' := its ++ [u]) hH e (by simp) (r.append (.cons ru .nil)) ?_, rfl, q⟩
  rw [List.length_append, List.length_singleton]
  omega

def rExtend : V → List V → Hp → VK → Prop := fun x vs H Q => ∃ l b xs zs, x = .ref l ∧ vs = [.ref b] ∧ H l = some (.lst xs) ∧ H b = some (.lst zs) ∧ xs.length + zs.length ≤ sizeLine ∧ Q .non (upd H l (.lst (xs ++ zs)))
theorem mt_extend : MtM X "list.extend" rExtend := by
  intro pins s σ H x vs v us Q I rx rv h
  obtain ⟨l, b, xs, zs, rfl, rfl, hH, hB, hz, q⟩ := h
  cases rx
  obtain ⟨u, rfl, ru⟩ := rv.one
  cases ru
  obtain ⟨z, its, n, r, hl, e⟩ := I.lstM hH
  obtain ⟨z2, its2, n2, r2, hl2, e2⟩ := I.lstM hB
  have hsz : its.toArray.size + its2.toArray.size ≤ sizeLine := by rw [List.size_toArray, List.size_toArray]; omega
  have hlong : ¬ (!its.toArray.isEmpty && Builtin.List.listTooLong (its.toArray.size + its2.toArray.size)) = true := by
    rw [notLongL hsz, Bool.and_false]
    exact Bool.false_ne_true
  refine call_meets F.slot_list_extend ⟨_, e, rfl⟩ F.entry_list_extend (F.args_list_extend_2 _ _)
    (AutoSeq1.list_extend_list_list_0 l its.toArray n b its2.toArray n2 hlong (by rw [List.size_toArray]; omega) (by omega)) ⟨e, e2, ?_⟩
  refine ⟨.non, _, I.lset (its' := its ++ its2) hH e (by simp) (r.append r2) ?_, rfl, q⟩
  rw [List.length_append]
  omega

/-! ### list + list, list += list, list * int -/
def rCat : R2 := fun x y H Q => ∃ l b xs zs, x = .ref l ∧ y = .ref b ∧ H l = some (.lst xs) ∧ H b = some (.lst zs) ∧ xs.length + zs.length ≤ sizeLine ∧ ∀ p, H p = none → Q (.ref p) (upd H p (.lst (xs ++ zs)))
theorem op_cat : OpR X (binaryOp .Add) rCat := by
  intro pins s σ H x y v u Q I rx ry h
  obtain ⟨l, b, xs, zs, rfl, rfl, hH, hB, hz, q⟩ := h
  cases rx
  cases ry
  obtain ⟨z, its, n, r, hl, e⟩ := I.lstM hH
  obtain ⟨z2, its2, n2, r2, hl2, e2⟩ := I.lstM hB
  refine PySem.P.add_list e e2 ?_ (by rw [List.size_toArray, List.size_toArray]; omega)
  have ea : its.toArray ++ its2.toArray = (its ++ its2).toArray := by simp
  rw [ea]
  exact ⟨.ref _, _, I.lnew (t' := s.toks) (r.append r2) (by rw [List.length_append]; omega), rfl, q _ I.fresh⟩
/-- a list times an int (a negative one is nothing) -/
def rRep : R2 := fun x y H Q => ∃ l k xs, x = .ref l ∧ y = .int k ∧ H l = some (.lst xs) ∧ -(2 ^ 63) ≤ k ∧ k < 2 ^ 63 ∧ xs.length * k.toNat ≤ sizeLine ∧
  ∀ p, H p = none → Q (.ref p) (upd H p (.lst (List.replicate k.toNat xs).flatten))
theorem len_rep {α : Type} (xs : List α) (k : Nat) : (List.replicate k xs).flatten.length = k * xs.length := by
  induction k with
  | zero => simp
  | succ k ih => rw [List.replicate_succ, List.flatten_cons, List.length_append, ih, Nat.succ_mul, Nat.add_comm]
theorem op_rep : OpR X (binaryOp .Mult) rRep := by
  intro pins s σ H x y v u Q I rx ry h
  obtain ⟨l, k, xs, rfl, rfl, hH, h1, h2, hz, q⟩ := h
  cases rx
  obtain ⟨t, rfl⟩ := ry
  obtain ⟨z, its, n, r, hl, e⟩ := I.lstM hH
  have hlen : its.toArray.size * k.toNat ≤ sizeLine := by rw [List.size_toArray, ← hl]; exact hz
  have hcap : ¬ its.toArray.size * k.toNat > (2 ^ 63 - 1) / 8 := by
    have : (sizeLine : Nat) ≤ (2 ^ 63 - 1) / 8 := by decide
    omega
  have hfit : ¬ (!Builtin.List.listFitsIndex k) = true := by
    rw [fitsIndex_both h1 h2]
    exact Bool.false_ne_true
  have hlong : ¬ Builtin.List.listTooLong (its.toArray.size * k.toNat) = true := by
    rw [notLongL hlen]
    exact Bool.false_ne_true
  have hnew : List.foldl (fun x1 x2 => x1 ++ x2) #[] (List.replicate (if its.toArray.isEmpty = true then 0 else k.toNat) its.toArray) = (List.replicate k.toNat its).flatten.toArray := by
    have f0 : ∀ m : Nat, List.foldl (fun x1 x2 => x1 ++ x2) #[] (List.replicate m its.toArray) = (List.replicate m its).flatten.toArray := fun m => by
      have := foldl_rep its m []
      rw [List.nil_append] at this
      exact this
    rw [f0]
    cases its with
    | nil => simp
    | cons a r' => rw [if_neg (by simp)]
  refine wpAny_binaryOp_repeat_ref (T := "list") (U := "int") (by decide) ⟨_, e, rfl⟩ (fun s' => typeIs_int s' k t) noFill_list_mul F.fills_int_mul F.slot_int_rmul repeat_list F.slot_int_index.lookup
    (call_meets F.slot_int_rmul (typeIs_int s k t) F.entry_int_rmul (F.args_int_rmul_2 _ _) (int___rmul___int_list k t l its.toArray n)
      ⟨e, rfl, ⟨_, e, rfl⟩, call_meets F.slot_list_mul ⟨_, e, rfl⟩ F.entry_list_mul (F.args_list_mul_2 _ _) (AutoListH.list___mul___list_int_3 l its.toArray n k t hfit hcap hlong) ⟨e, ?_⟩⟩)
  rw [hnew]
  exact ⟨.ref _, _, I.lnew (t' := s.toks) (r.rep k.toNat) (by rw [len_rep, Nat.mul_comm]; exact hz), rfl, q _ I.fresh⟩

/-! ### del xs[i] -/
end

/-! ### xs[a:b] = ys -/
section
variable {prog : Program} {w : World} {A : Around} {E : Value → Shared → Prop} {s : Shared}
set_option maxRecDepth 100000 in
end

section
variable {X : Cx}
end
end L2

namespace Att
open PySem PySem.W PySem.Calls PyProof.Rows

/-! ### the script -/
theorem ints_of_wellAll {P : Params} {h : Heap} : ∀ (ns : List Int) (vs : List Value), WellAll P h vs (ns.map WData.int) → IntsAre vs ns := by
  intro ns
  induction ns with
  | nil =>
    intro vs w
    rw [List.map_nil] at w
    cases w
    exact .nil
  | cons n ns ih =>
    intro vs w
    rw [List.map_cons] at w
    cases w with
    | cons a b =>
      cases a
      exact .cons _ _ (ih _ b)

theorem script_of {l : OpenLaw} {n : Nat} (hn : l.most = some n) {P : Params} {h : Heap} {args : List WData} {vals : List Value}
    (hpre : l.row.toRowW.claim.pre args = true) (hwl : WellAll P h vals args) :
    ∃ a vs ns, vals = [Value.ref a] ∧ args = [WData.list (ns.map WData.int)] ∧ h.get? a = some { cls := .type "list", data := .seq vs.toArray } ∧ IntsAre vs ns ∧ ns.length ≤ n := by
  have hsh : WShape.hasAll [] args [.list .int] = true := (pre_splitW hpre).1
  have hc : l.pre.holds [] { args := args } = true := (pre_splitW hpre).2
  obtain ⟨d, r, rfl, h1, h2⟩ := hasAllW_cons hsh
  obtain rfl := hasAllW_nil h2
  obtain ⟨xs, rfl, h3⟩ := hasW_list h1
  obtain ⟨ns, rfl⟩ := items_int h3
  have hlen : ns.length ≤ n := by
    unfold OpenLaw.pre at hc
    have h4 : (WTm.not (.lt (.lit (.int (n : Int))) (.len (.arg 0)))).holds [] { args := [.list (ns.map .int)] } = true := by
      have h4 := (holds_andW hc).1
      rw [hn] at h4
      exact h4
    have h5 := condW_of h4 (w_not (w_lt w_lit (w_len_list (w_arg rfl))))
    rw [List.length_map] at h5
    refine Nat.le_of_not_lt fun q => ?_
    have q' : (n : Int) < ((ns.length : Nat) : Int) := by omega
    first
      | (rw [decide_eq_true q'] at h5; exact absurd h5 (by decide))
      | (simp at h5; omega)
  cases hwl with
  | cons w1 w2 =>
    cases w2
    cases w1 with
    | list ho hall => exact ⟨_, _, ns, rfl, rfl, ho, ints_of_wellAll ns _ hall, hlen⟩

theorem post_true (l : OpenLaw) (args : List WData) : l.row.toRowW.claim.post args (.bool true) args = true :=
  postW_of (r := l.row.toRowW) (X := (true == true))
    (show WShape.has [] (.bool true) .bool = true by first | rfl | decide | simp [WShape.has, WShape.arms, WShape.armsAll])
    (show (WTm.eq .res (.lit (.bool true))).value [] { args := args, res := some (.bool true), after := args } = some (.bool (true == true)) from w_eq_bool (w_res rfl) w_lit) rfl

/-! ### the attachment: holds_open's last premise (the goal 'hc' behind k_head) from a wpAny of the law's body -/
/-- the same from a codeAny of the CALL (for a layer whose function contracts speak of calls) -/
theorem attach_call {l : OpenLaw} {n : Nat} {q : Program} {loose : List Str} {XP : (Str → Option Value) → Heap → Prop} {YP : World → Heap → Prop} {d : DefRec}
    (hn : l.most = some n) (hdf : d.params.defaults = [])
    (call : ∀ (w : World) (s₀ s₁ : Shared) (mg mb : Str → Option Value) (fa : Addr) (o : Obj) (pm cd doc : Value) (a : Addr) (vs : List Value) (ns : List Int),
      Ground q loose [] XP w s₀ mg mb s₁.heap → YP w s₁.heap →
      s₁.heap.get? fa = some o → o.data = .func (docDef d.name d.params d.body d.scope pm cd doc) → s₁.heap.CodeRec cd d.name → mg d.name = some (.ref fa) →
      s₁.heap.get? a = some { cls := .type "list", data := .seq vs.toArray } → IntsAre vs ns → ns.length ≤ n → s₁.gens = #[] →
      codeAny (model l.prog w) callerA (.call (.ref fa) ⟨[.ref a], []⟩) (fun r s' => r = .ok (.ret (.bool true)) ∧ OldK s₁.heap s'.heap ∧ s'.os = s₁.os ∧ AllBare s'.gens) s₁) :
    WalkO q loose XP YP l.row.toRowW d [] (fun f vs => PySem.call f vs) := by
  intro w s₀ s₁ mg mb G Y fa o pm cd doc dV kV ho hd hcd hD hmg hg args vals as hpre hlay hrd hwl hlo
  obtain rfl : dV = .none := Dflts.none hD hdf
  obtain rfl : kV = .none := Dflts.noKw hD
  obtain ⟨a, vs, ns, rfl, rfl, hobj, hints, hlen⟩ := script_of hn hpre hwl
  refine enter_call (codeAny_mono (call w s₀ s₁ mg mb fa o pm cd doc a vs ns G Y ho (fd_plain hd) hcd hmg hobj hints hlen hg) fun r s' hq => ?_)
  obtain ⟨rfl, h2, h3, h4⟩ := hq
  exact ⟨.inl ⟨.bool true, .bool true, [], rfl, fun _ => rfl, .bool true, post_true l _, fun _ => ⟨List.Pairwise.nil, fun _ hm => (nomatch hm)⟩⟩, h2, h3, h4⟩

/-! ### rules over ANY heap (no ledger) from facts about the written part K: the library's own take a ledger (News) for what they write -/
section
variable {prog : Program} {w : World} {A : Around} {E : Value → Shared → Prop} {s : Shared} {K : Frag}

/-! the whole heap as the ledger: makes every rule that writes through a ledger a rule over any heap -/
def ledger (h : Heap) (L d : Addr) : List (Addr × Obj) := (List.range h.objs.size).filterMap fun a => if a = L ∨ a = d then none else (h.get? a).map fun o => (a, o)
end
end Att

namespace L2
open PySem PySem.Spec PyProof.Rows

theorem vals_ints : ∀ {vs : List Value} {ns : List Int}, IntsAre vs ns → Vals (ns.map V.int) vs
  | _, _, .nil => .nil
  | _, _, .cons n t h => .cons ⟨t, rfl⟩ (vals_ints h)

/-- nothing is tracked but the script, known to the object (or it is an object of the module) -/
def Only (H : Hp) : Prop := ∀ b, H b = none ∨ ∃ o xs, H b = some (.frz o (.lst xs))

/-- THE HEAD: the law's promise, at the heap behind the top. F, the promise of the law's def, may use that base is part of the heap (so K.In base, base.Ns mainGlobals mg stand in Mod) -/
theorem law_call {P : Program} {w : World} {K : PySem.W.Frag} {mg mb : Str → Option Value} {CX : CXT} {k : Nat} {fa a : Addr} {fd : FuncData} {x : Str} {sp : Sp} {s₁ : Shared} {vs : List Value} {ns : List Int}
    (KX : K.In s₁.heap) (hns : s₁.heap.Ns mainGlobals mg) (hb : s₁.heap.Ns builtinsNs mb) (hbb : ∀ x : Str, x ≠ "__name__" → mb x = bootBuiltins x) (hlim : s₁.heap.NoLimit) (hg : s₁.gens = #[])
    (ha : s₁.heap.get? a = some { cls := .type "list", data := .seq vs.toArray }) (hi : IntsAre vs ns) (hl : ns.length ≤ sizeLine) (hr : Room k callerA)
    (F : ∀ base : Heap, K.In base → base.Ns mainGlobals mg → FnOk P w K mg base CX k fa fd [x] sp) (hbind : ∀ (s : Shared) (u : Value), BindsTo s fd ⟨[u], []⟩ [(x, u)])
    (hsp : ∀ H : Hp, Only H → SqL K H a (ns.map V.int) → sp [.ref a] H (fun v _ => v = .bl true) fun _ _ _ => False)
    (hCX : ∀ H e s', CX [] H s₁ (fun _ _ _ => False) e s' → False) :
    codeAny (model P w) callerA (.call (.ref fa) ⟨[.ref a], []⟩) (fun r s' => r = .ok (.ret (.bool true)) ∧ OldK s₁.heap s'.heap ∧ s'.os = s₁.os ∧ AllBare s'.gens) s₁ := by
  have rv := vals_ints hi
  have lenV := hi.length
  -- from an abstract heap in which nothing but the script may be tracked
  have core : ∀ H : Hp, Only H → SqL K H a (ns.map V.int) → HOk P w H s₁.heap → (∀ b, H b ≠ none → b = a) → (H a ≠ none → K.lookup a = none) →
      codeAny (model P w) callerA (.call (.ref fa) ⟨[.ref a], []⟩) (fun r s' => r = .ok (.ret (.bool true)) ∧ OldK s₁.heap s'.heap ∧ s'.os = s₁.os ∧ AllBare s'.gens) s₁ := by
    intro H hO hS hok hA hK
    have base_of : ∀ {b : Addr} {o : Obj}, s₁.heap.get? b = some o → H b = none → (hidT s₁.heap H).get? b = some o := fun e n => hidT_get e n
    have noA : ∀ {b : Addr} {o : Obj} {es : Array DictEntry} {ep : Nat}, s₁.heap.get? b = some o → o.data = .dict es ep → H b = none := fun {b o es ep} e d => by
      cases q : H b with
      | none => rfl
      | some u =>
        have e' : b = a := hA b (by rw [q]; simp)
        subst e'
        rw [ha] at e; cases e
        have d' : Data.seq vs.toArray _ = Data.dict es ep := d
        cases d'
    have nsK : ∀ {b : Addr} {m : Str → Option Value}, s₁.heap.Ns b m → (hidT s₁.heap H).Ns b m := fun {b m} ⟨o, es, ep, e, d, r⟩ => ⟨o, es, ep, base_of e (noA e d), d, r⟩
    have hKb : K.In (hidT s₁.heap H) := fun b o e => base_of (KX b o e) (by
      cases q : H b with
      | none => rfl
      | some u =>
        have e' : b = a := hA b (by rw [q]; simp)
        subst e'
        rw [hK (by rw [q]; simp)] at e; cases e)
    have hM : Mod K mg (hidT s₁.heap H) := ⟨hKb, nsK hns, ⟨mb, nsK hb, hbb⟩, let ⟨mc, h1, h2⟩ := hlim; ⟨mc, nsK h1, h2⟩⟩
    have e0 : Env0 P w K mg (hidT s₁.heap H) callerA [] s₁ H := ⟨rfl, hM, fun b o e => of_hidT e, Nat.le_of_eq (hidT_size _ _), trivial, fun b hb => absurd (show b ∈ ([] : List Addr) from hb) (by simp), hok, .of_eq hg⟩
    refine codeAny_mono ((F _ hKb (nsK hns)).run callerA [] s₁ H ⟨[.ref a], []⟩ [.ref a] [.ref a] _ _ hr e0 (hbind s₁ (.ref a)) (.cons rfl .nil) (hsp H hO hS)) fun r s' h => ?_
    cases r with
    | error e => exact (hCX H e s' h).elim
    | ok fl =>
      cases fl with
      | next => exact False.elim h
      | brk => exact False.elim h
      | cont => exact False.elim h
      | ret u =>
        obtain ⟨v, H', os, bare, un, hok', r', q⟩ := h
        have q' : v = .bl true := q
        subst q'
        obtain rfl : u = Value.bool true := r'
        refine ⟨rfl, OldK.of_keep fun b o e => ?_, os, bare⟩
        cases q : H b with
        | none => exact un.keep b o e q (by intro z; exact absurd (show b ∈ ([] : List Addr) from z) (by simp)) (by simp)
        | some u =>
          rcases hO b with z | ⟨ob, xs, z⟩
          · rw [q] at z; cases z
          · have z2 := un.frzs b ob _ z
            obtain ⟨e1, _⟩ := hok b _ z
            obtain ⟨e2, _⟩ := hok' b _ z2
            rw [e] at e1; cases e1
            exact e2
  cases hk : K.lookup a with
  | some o =>
    -- the script is one of the module's own objects
    have e := KX a o hk
    rw [ha] at e
    cases e
    refine core (fun _ => none) (fun _ => .inl rfl) (.inr ⟨_, vs.toArray, _, hk, rfl, rfl, rfl, by rw [List.size_toArray, lenV]; exact hl, by simpa using rv⟩) (fun b u z => by have z' : (none : Option HO) = some u := z; cases z') (fun b z => absurd rfl z) fun z => absurd rfl z
  | none =>
    refine core (fun b => if b = a then some (.frz { cls := .type "list", data := .seq vs.toArray } (.lst (ns.map V.int))) else none) (fun b => ?_) (.inl (.inr ⟨{ cls := .type "list", data := .seq vs.toArray }, if_pos rfl⟩)) (fun b u z => ?_) (fun b z => ?_) fun _ => hk
    · by_cases hb : b = a
      · exact .inr ⟨_, _, if_pos hb⟩
      · exact .inl (if_neg hb)
    · by_cases hb : b = a
      · have z' := (if_pos hb).symm.trans z
        cases z'
        subst hb
        exact ⟨ha, by rw [List.length_map]; exact hl, vs, _, rv, ha⟩
      · have z' := (if_neg hb).symm.trans z
        cases z'
    · by_cases hb : b = a
      · exact hb
      · exact absurd (if_neg hb) z
end L2

namespace L2
open PySem PySem.Spec PyProof.Rows

/-- the goal that k_head leaves (case hc), from the law's promise. F gives the function object fd (K's own) once, then the promise over every base -/
theorem walk_of {l : PySem.W.OpenLaw} {n k : Nat} {q : Program} {loose : List Str} {XP : (Str → Option Value) → Heap → Prop} {YP : World → Heap → Prop} {d : DefRec} {K : Params → PySem.W.Frag} {CX : World → CXT} {sp : World → Sp} {x : Str}
    (hn : l.most = some n) (hn2 : n ≤ sizeLine) (hdf : d.params.defaults = []) (hr : Room k callerA)
    (hY : ∀ (w : World) (h : Heap), YP w h → (K w.params).In h)
    (F : ∀ (w : World) (mg : Str → Option Value) (fa : Addr) (h : Heap), (K w.params).In h → h.Ns mainGlobals mg → mg d.name = some (.ref fa) →
      ∃ fd : FuncData, (∀ (s : Shared) (u : Value), BindsTo s fd ⟨[u], []⟩ [(x, u)]) ∧
        ∀ base : Heap, (K w.params).In base → base.Ns mainGlobals mg → FnOk l.prog w (K w.params) mg base (CX w) k fa fd [x] (sp w))
    (hsp : ∀ (w : World) (H : Hp) (a : Addr) (ns : List Int), ns.length ≤ n → Only H → SqL (K w.params) H a (ns.map V.int) → sp w [.ref a] H (fun v _ => v = .bl true) fun _ _ _ => False)
    (hCX : ∀ (w : World) (H : Hp) (s : Shared) (e : Value) (s' : Shared), CX w [] H s (fun _ _ _ => False) e s' → False) :
    PySem.W.WalkO q loose XP YP l.row.toRowW d [] (fun f vs => PySem.call f vs) := by
  refine Att.attach_call hn hdf fun w s₀ s₁ mg mb fa o pm cd doc a vs ns G Y ho hd hcd hmg hobj hints hlen hg => ?_
  have KX := hY w _ Y
  obtain ⟨fd, hb, hF⟩ := F w mg fa _ KX G.T.g hmg
  exact law_call KX G.T.g G.T.b G.T.builtins G.T.nolimit hg hobj hints (Nat.le_trans hlen hn2) hr hF hb (fun H hO hS => hsp w H a ns hlen hO hS) fun H e s' => hCX w H s₁ e s'
end L2

/- THE LAST THEOREM (shape; LID, My.* are yours):
   My.Adr: a structure of the addresses that your layer names (classes, functions); My.Txt K t: a structure (Prop) of the equations over K;
   My.txt_mk : {K} {implicit addresses ..} (e1 : nsIn K mainGlobals "law" = some (some (.ref f))) (e2 : K.lookup f = some ⟨oc, od, .func (fnOf "law" "law" params body scope dV kV doc pm an cdv ct), sl⟩) (e3 : codeIn K cdv "law" = true) .. : ∃ t, My.Txt K t

set_option maxRecDepth 100000 in
set_option maxHeartbeats 0 in
(the tactic k_is has no namespace: write k_is) -/

/-! SHORT WORDS over the layer: a def of the text, its body, what a loop and a test want. -/
namespace L2
open PySem PySem.Spec PyProof.Rows

/-! ### the text by places -/
def defArgs (s : Stmt) : Arguments := match s with
  | .FunctionDef _ a _ _ _ _ _ _ _ _ => a
  | _ => { posonlyargs := [], args := [], vararg := none, kwonlyargs := [], kw_defaults := [], kwarg := none, defaults := [] }
def defBody (s : Stmt) : List Stmt := match s with
  | .FunctionDef _ _ b _ _ _ _ _ _ _ => b
  | _ => []
def defScope (s : Stmt) : Scope := match s with
  | .FunctionDef _ _ _ _ _ _ sc _ _ _ => sc
  | _ => { kind := .function, names := [], isGenerator := false, isCoroutine := false }

/-! ### no exception leaves a def -/
abbrev CX0 : CXT := fun _ _ _ _ _ _ => False
abbrev E0 : XK := fun _ _ _ => False
theorem pass0 {X : Cx} : Passes CX0 X E0 := fun _ _ _ _ _ _ _ h => h.elim

/-! ### a def (or method) of the text as it stands behind the top -/
structure Fun (K : PySem.W.Frag) (x qual : Str) (st : Stmt) (f : Addr) (fd : FuncData) : Prop where
  ex : ∃ (oc : Value) (od : Option Addr) (kV doc pm : Value) (an : Option Addr) (cdv ct : Value) (osl : Array (Option Value)),
    fd = PySem.W.fnOf x qual (defArgs st) (defBody st) (defScope st) .none kV doc pm an cdv ct ∧ K.lookup f = some ⟨oc, od, .func fd, osl⟩ ∧ PySem.W.codeIn K cdv qual = true
  kp : PySem.W.keepIn K (.ref f) = true
section
variable {P : Program} {w : World} {K : PySem.W.Frag} {mg : Str → Option Value} {base : Heap}
/-- THE RULE for a def: its body as a term of rules, and the reading of that term -/
theorem Fun.ok {x qual : Str} {st : Stmt} {f : Addr} {fd : FuncData} {N ps : List Str} {k : Nat} {sp : Sp} (F : Fun K x qual st f fd) (S : FnScope N ps (defScope st)) (len : ∀ vs H Q E, sp vs H Q E → vs.length = ps.length)
    (hbody : ∀ (cdv : Value) (A : Around) (outer : List Env) (s : Shared) (H : Hp) (vs : List V) (Q : VK) (E : XK), Room k (A.deeper (envOfC qual (defScope st) s.heap.objs.size f cdv)) → sp vs H Q E →
      ∃ t, PSs (cxOf CX0 P w K mg base N qual (defScope st) f cdv A outer s H E).nox (defBody st) t ∧ t { nx := fun _ H' => Q .non H', rt := Q } (start N vs) H) : FnOk P w K mg base CX0 (k + 1) f fd ps sp := by
  obtain ⟨oc, od, kV, doc, pm, an, cdv, ct, osl, rfl, lk, hcd⟩ := F.ex
  refine fn_of lk hcd S len fun A outer s H vs Q E hr hsp => ?_
  obtain ⟨t, h, q⟩ := hbody cdv A outer s H vs Q E hr hsp
  exact ⟨t, h.nox, q⟩
/-- how its arguments bind (no defaults): h is «fun _ _ _ _ _ _ us hl => match us, hl with | [_, _], _ => rfl», one _ a parameter -/
theorem Fun.binds {x qual : Str} {st : Stmt} {f : Addr} {fd : FuncData} {ps : List Str} (F : Fun K x qual st f fd)
    (h : ∀ (kV doc pm : Value) (an : Option Addr) (cdv ct : Value) (us : List Value), us.length = ps.length → bindArgs (PySem.W.fnOf x qual (defArgs st) (defBody st) (defScope st) .none kV doc pm an cdv ct) ⟨us, []⟩ = pure (ps.zip us)) : Binds K fd ps [] := by
  obtain ⟨oc, od, kV, doc, pm, an, cdv, ct, osl, rfl, lk, hcd⟩ := F.ex
  exact .all (h kV doc pm an cdv ct)
theorem fun_mk {x qual : Str} {st : Stmt} {f : Addr} {oc : Value} {od an : Option Addr} {osl : Array (Option Value)} {kV doc pm cdv ct : Value} (l : K.lookup f = some ⟨oc, od, .func (PySem.W.fnOf x qual (defArgs st) (defBody st) (defScope st) .none kV doc pm an cdv ct), osl⟩)
    (c : PySem.W.codeIn K cdv qual = true) (k : PySem.W.keepIn K (.ref f) = true) : Fun K x qual st f (PySem.W.fnOf x qual (defArgs st) (defBody st) (defScope st) .none kV doc pm an cdv ct) := ⟨⟨oc, od, kV, doc, pm, an, cdv, ct, osl, rfl, l, c⟩, k⟩
end
theorem small1000 {n : Nat} (h : n ≤ 1000) : n < sizeLine := Nat.lt_of_le_of_lt h (by decide)

/-! ### expressions in short: the name that stands in the i-th slot -/
section
variable {X : Cx}
theorem pv (i : Nat) {x : Str} {pos : Pos} (hN : X.N[i]? = some x := by rfl) (hv : Vis X.env.scope x := by first | exact Or.inl rfl | exact Or.inr (Or.inl rfl) | exact Or.inr (Or.inr rfl)) (hd : (x == ("__debug__" : Str)) = false := by decide)
    (hcd : (x == ("__classdict__" : Str)) = false := by decide) : PE X (.Name x pos) (tVar i) := pe_var hN hv hd hcd
end

/-! ### tests -/
theorem iteF {A B : Prop} (h : B) : if false = true then A else B := by
  rw [if_neg Bool.false_ne_true]
  exact h
theorem iteT {A B : Prop} (h : A) : if true = true then A else B := by
  rw [if_pos rfl]
  exact h
theorem ite2 {c A B : Prop} [Decidable c] (h1 : c → A) (h2 : ¬ c → B) : if c then A else B := by
  by_cases h : c
  · rw [if_pos h]
    exact h1 h
  · rw [if_neg h]
    exact h2 h
/-! ### heaps -/
/-- all that was tracked is as it was -/
def Same (H H' : Hp) : Prop := ∀ b o, H b = some o → H' b = some o
theorem Same.refl (H : Hp) : Same H H := fun _ _ h => h
theorem Same.trans {H H1 H2 : Hp} (a : Same H H1) (b : Same H1 H2) : Same H H2 := fun c o h => b c o (a c o h)
theorem Same.free {H H' : Hp} (e : Same H H') {l : Addr} (h : H' l = Option.none) : H l = Option.none := by
  cases q : H l with
  | none => rfl
  | some o =>
    rw [e l o q] at h
    cases h
theorem Same.seq {K : PySem.W.Frag} {H H' : Hp} {a : Addr} {xs : List V} (e : Same H H') (h : SqL K H a xs) : SqL K H' a xs := by
  rcases h with (h | ⟨o, h⟩) | h
  · exact .inl (.inl (e _ _ h))
  · exact .inl (.inr ⟨o, e _ _ h⟩)
  · exact .inr h

end L2

set_option Elab.async false
set_option linter.all false
set_option maxRecDepth 100000
set_option maxHeartbeats 4000000
namespace L2
open PySem PySem.Spec PyProof.Rows

/-! ### a list comprehension of one clause -/
/-- the cells that a block takes over -/
def clFrom (env : Env) : List (Str × NameKind) → List (Str × Addr) → List (Str × Addr)
  | [], cs => cs
  | (n, k) :: r, cs => clFrom env r (if k == .free then (n, (env.cells.lookup n).getD 0) :: cs else cs)
abbrev clOf (scope : Scope) (env : Env) : List (Str × Addr) := clFrom env scope.names []
theorem closureFor_cl {env : Env} : ∀ (names : List (Str × NameKind)) (cs : List (Str × Addr)), (∀ x ∈ names, x.2 = .free → ∃ c, env.cells.lookup x.1 = some c) →
    (forIn names cs fun (x : Str × NameKind) r => do
      if x.2 == .free then
        let c ← cellOf env x.1
        pure (ForInStep.yield ((x.1, c) :: r))
      else pure (ForInStep.yield r) : Sem (List (Str × Addr))) = pure (clFrom env names cs)
  | [], cs, _ => rfl
  | (n, k) :: r, cs, h => by
    rw [List.forIn_cons]
    have ih := fun cs' => closureFor_cl (env := env) r cs' fun x hx => h x (List.mem_cons_of_mem _ hx)
    by_cases hk : k = .free
    · subst hk
      obtain ⟨c, hc⟩ := h (n, .free) List.mem_cons_self rfl
      have hc' : env.cells.lookup n = some c := hc
      have ec : cellOf env n = pure c := by unfold cellOf; rw [hc']
      dsimp only
      rw [if_pos (by rfl), ec]
      show (forIn r ((n, c) :: cs) _ : Sem _) = _
      rw [ih]
      conv => rhs; unfold clFrom
      rw [if_pos (by rfl), hc']
      rfl
    · have hb : (k == NameKind.free) = false := by simpa using hk
      dsimp only
      rw [if_neg (by rw [hb]; decide)]
      show (forIn r cs _ : Sem _) = _
      rw [ih]
      conv => rhs; unfold clFrom
      rw [if_neg (by rw [hb]; decide)]
theorem closure_cl {scope : Scope} {env : Env} (h : ∀ x ∈ scope.names, x.2 = .free → ∃ c, env.cells.lookup x.1 = some c) : closureFor scope env = pure (clOf scope env) := by
  unfold closureFor
  have e := closureFor_cl (env := env) scope.names [] h
  simp only [bind_pure]
  exact e
theorem cl_lookup {env : Env} {x : Str} {c : Addr} : ∀ (names : List (Str × NameKind)) (cs : List (Str × Addr)), (clFrom env names cs).lookup x = some c → ((x, NameKind.free) ∈ names ∧ c = (env.cells.lookup x).getD 0) ∨ cs.lookup x = some c
  | [], _, h => .inr h
  | (n, k) :: r, cs, h => by
    unfold clFrom at h
    rcases cl_lookup r _ h with ⟨h1, h2⟩ | h1
    · exact .inl ⟨List.mem_cons_of_mem _ h1, h2⟩
    · by_cases hk : k = .free
      · subst hk
        rw [if_pos (by rfl), List.lookup_cons] at h1
        cases e : x == n with
        | true =>
          rw [e] at h1
          have en : x = n := eq_of_beq e
          subst en
          exact .inl ⟨List.mem_cons_self, (Option.some.inj h1).symm⟩
        | false => rw [e] at h1; exact .inr h1
      · have hb : (k == NameKind.free) = false := by simpa using hk
        rw [if_neg (by rw [hb]; decide)] at h1
        exact .inr h1
theorem cl_mono {env : Env} {x : Str} : ∀ (names : List (Str × NameKind)) (cs : List (Str × Addr)), (∃ c, cs.lookup x = some c) → ∃ c, (clFrom env names cs).lookup x = some c
  | [], _, h => h
  | (n, k) :: r, cs, h => by
    unfold clFrom
    refine cl_mono r _ ?_
    split
    · rw [List.lookup_cons]
      split
      · exact ⟨_, rfl⟩
      · exact h
    · exact h
theorem cl_has {env : Env} {x : Str} : ∀ (names : List (Str × NameKind)) (cs : List (Str × Addr)), (x, NameKind.free) ∈ names → ∃ c, (clFrom env names cs).lookup x = some c
  | [], _, h => by simp at h
  | (n, k) :: r, cs, h => by
    unfold clFrom
    rcases List.mem_cons.mp h with e | h
    · cases e
      refine cl_mono r _ ?_
      rw [if_pos (by rfl), List.lookup_cons]
      exact ⟨(env.cells.lookup x).getD 0, by simp⟩
    · exact cl_has r _ h
theorem relabel_cf {scope : Scope} {env : Env} {x : Str} (hcell : ∀ y ∈ scope.names, y.2 ≠ .cell) (h : (relabel scope env).names.lookup x = some .cell ∨ (relabel scope env).names.lookup x = some .free) : (x, NameKind.free) ∈ scope.names := by
  have hm : ∃ k, (x, k) ∈ (relabel scope env).names ∧ (k = .cell ∨ k = .free) := by
    rcases h with h | h
    · exact ⟨_, PySem.mem_of_lookup h, .inl rfl⟩
    · exact ⟨_, PySem.mem_of_lookup h, .inr rfl⟩
  obtain ⟨k, hm, hk⟩ := hm
  obtain ⟨⟨n, k'⟩, h1, h2⟩ := List.mem_map.mp hm
  dsimp only at h2
  split at h2
  · rename_i hc
    have : k' = .free := by
      simp only [Bool.and_eq_true, beq_iff_eq] at hc
      exact hc.1.1
    cases h2
    subst this
    exact h1
  · cases h2
    rcases hk with rfl | rfl
    · exact absurd rfl (hcell _ h1)
    · exact h1
theorem relabel_free {env : Env} {x : Str} : ∀ {names : List (Str × NameKind)}, names.lookup x = some .free →
    (names.map fun (n, k) => if (k == NameKind.free && env.scope.kind == .function && env.kindOf n == some .cell) then (n, NameKind.cell) else (n, k)).lookup x = some .cell ∨
    (names.map fun (n, k) => if (k == NameKind.free && env.scope.kind == .function && env.kindOf n == some .cell) then (n, NameKind.cell) else (n, k)).lookup x = some .free
  | [], h => by simp at h
  | (n, k) :: r, h => by
    have ih := @relabel_free env x r
    rw [List.map_cons]
    dsimp only
    cases hx : x == n with
    | true =>
      simp only [List.lookup_cons, hx] at h
      cases h
      split
      · left; simp [List.lookup_cons, hx]
      · right; simp [List.lookup_cons, hx]
    | false =>
      simp only [List.lookup_cons, hx] at h
      split
      · simp only [List.lookup_cons, hx]; exact ih h
      · simp only [List.lookup_cons, hx]; exact ih h

section
variable {prog : Program} {w : World} {A : Around} {R : Result → Shared → Prop} {s : Shared}
theorem codeAny_compLoop_go {elt target iter : Expr} {ifs : List Expr} {scope : Scope} {pos : Pos} {it acc : Value} {env : Env} (I : Nat → Shared → Prop)
    (turn : ∀ n s, I n s → wpAny (model prog w) A (pyNext it) (fun r s₁ => match r with
      | none => R (.ok .next) s₁
      | some v => wpAny (model prog w) A (letOwnedTupleGo target it v) (fun _ s₁' => wpAny (model prog w) A (assign target env v) (fun _ s₂ =>
          wpAny (model prog w) A (forIn ifs true fun c r => if r = true then do let ok ← isTrue c env (eval c env); pure (ForInStep.yield ok) else pure (ForInStep.yield r)) (fun ok s₃ =>
            if ok = true then wpAny (model prog w) A (eval elt env) (fun x s₄ =>
              wpAny (model prog w) A (call (.builtin "list.append") [acc, x]) (fun _ s₅ => ∃ m, m < n ∧ I m s₅) (fun _ _ => False) s₄) (fun _ _ => False) s₃
            else ∃ m, m < n ∧ I m s₃) (fun _ _ => False) s₂) (fun _ _ => False) s₁') (fun _ _ => False) s₁) (fun _ _ => False) s)
    (n : Nat) (h : I n s) :
    codeAny (model prog w) A (.compLoop (.ListComp elt [⟨target, iter, ifs, 0⟩] scope pos) 0 it acc env) R s := by
  refine codeAny_loop rfl I (fun n s hI => ?_) n h
  show wpAny _ A ((compTurn (.ListComp elt [⟨target, iter, ifs, 0⟩] scope pos) 0 it acc env).onRaise (fun x => do noteFrame x env; theTreesLotGoes x)) _ _ s
  refine wpAny_noted ?_
  rw [compTurn_list]
  refine wpAny_bind (wpAny_standAt (wpAny_bind (wpAny_mono (turn n s hI) (fun r s₁ h₁ => ?_) fun _ _ h' => h'.elim)))
  cases r with
  | none => exact wpAny_pure h₁
  | some v =>
    refine wpAny_bind (wpAny_mono h₁ (fun _ s₁' h₁ => ?_) fun _ _ h' => h'.elim)
    refine wpAny_bind (wpAny_mono h₁ (fun _ s₂ h₂ => wpAny_bind (wpAny_mono h₂ (fun ok s₃ h₃ => ?_) fun _ _ h' => h'.elim)) fun _ _ h' => h'.elim)
    cases ok with
    | false => exact wpAny_pure ⟨rfl, h₃⟩
    | true =>
      exact wpAny_bind (wpAny_bind (wpAny_mono h₃ (fun x s₄ h₄ => wpAny_bind (wpAny_mono h₄ (fun _ s₅ h₅ => wpAny_pure (wpAny_pure ⟨rfl, h₅⟩)) fun _ _ h' => h'.elim)) fun _ _ h' => h'.elim))
end

/-- the tests of a clause -/
def PTs (X : Cx) (ifs : List Expr) (t : TT) : Prop :=
  ∀ (pins : List (Addr × Obj)) (s : Shared) (σ : St) (H : Hp) (Q : Bool → Hp → Prop), Inv X pins σ H s → t σ H Q →
    wpAny (model X.prog X.w) X.A (forIn ifs true fun c r => if r = true then do let ok ← isTrue c X.env (eval c X.env); pure (ForInStep.yield ok) else pure (ForInStep.yield r)) (TP X pins σ Q) X.xe s
def tTrue : TT := fun _ H Q => Q true H
theorem pts_nil {X : Cx} : PTs X [] tTrue := fun _ _ _ H _ I h => wpAny_tests_nil ⟨H, I, h⟩
theorem pts_one {X : Cx} {c : Expr} {t : TT} (h : PT X c t) : PTs X [c] t := fun pins s σ H Q I q => wpAny_tests_one (h pins s σ H Q I q)

/-- the context of a comprehension's block -/
def Cx.blk (X : Cx) (scope : Scope) (own : List Str) (js : List Nat) (s₂ : Shared) (H₂ : Hp) (C : Addr) (fp : List Addr) (pins : List (Addr × Obj)) : Cx where
  prog := X.prog
  w := X.w
  K := X.K
  mg := X.mg
  base := X.base
  A := X.A
  N := own ++ js.map fun j => X.N.getD j Str.empty
  s₀ := s₂
  H₀ := H₂
  env := compEnvC scope (clOf scope X.env) C X.env
  outer := X.stack
  stack := X.stack
  ex := fp
  fn := fun _ => false
  calm := X.calm
  pn := X.pn ++ pins
  xe := fun _ _ => False
def blkσ (own : List Str) (js : List Nat) (σ : St) : St := own.map (fun _ => none) ++ js.map fun j => (σ[j]?).join

section
variable {X : Cx} {pins : List (Addr × Obj)} {σ : St} {H H' : Hp} {s s' : Shared} {scope : Scope} {own : List Str} {js : List Nat} {C : Addr} {fp : List Addr}
/-- what the text of a comprehension must have -/
structure CompOk (X : Cx) (scope : Scope) (own : List Str) (js : List Nat) : Prop where
  kind : scope.kind = .function
  cell : ∀ y ∈ scope.names, y.2 ≠ .cell
  free : ∀ y ∈ scope.names, y.2 = .free → X.env.kindOf y.1 = some .cell ∨ X.env.kindOf y.1 = some .free
  names : ∀ y ∈ scope.names, y.2 = .local → scope.names.lookup y.1 = some .local
  out : ∀ j ∈ js, ∃ x, X.N[j]? = some x ∧ scope.names.lookup x = some .free
theorem CompOk.cl (c : CompOk X scope own js) (I : Inv X pins σ H s) : ∀ x ∈ scope.names, x.2 = .free → ∃ c, X.env.cells.lookup x.1 = some c := fun x hx hf => I.ok.has x.1 (c.free x hx hf)
theorem CompOk.look (c : CompOk X scope own js) (I : Inv X pins σ H s) {x : Str} {a : Addr} (h : (clOf scope X.env).lookup x = some a) : X.env.cells.lookup x = some a := by
  rcases cl_lookup _ _ h with ⟨h1, h2⟩ | h1
  · obtain ⟨c', e⟩ := c.cl I (x, .free) h1 rfl
    have e' : X.env.cells.lookup x = some c' := e
    rw [e'] at h2 ⊢
    subst h2
    rfl
  · simp at h1
theorem blk_ok (c : CompOk X scope own js) (I : Inv X pins σ H s) (hC : s.heap.objs.size ≤ C) (hf : ∀ b ∈ fp, FpOk X pins H b) (ho : ∀ b ∈ fp, ∃ o, s.heap.get? b = some o) : (X.blk scope own js s H C fp pins).Ok where
  mod := I.ok.mod
  kind := c.kind
  glob := I.ok.glob
  blt := I.ok.blt
  above := hC
  inj := fun x y a h1 h2 => I.ok.inj x y a (c.look I h1) (c.look I h2)
  has := fun x hx => cl_has _ _ (relabel_cf c.cell hx)
  cab := fun x a h => by cases h
  hd := I.ok.hd
  frames := I.ok.frames
  stk := .inl rfl
  exf := fun b hb => by
    obtain ⟨o, e⟩ := ho b hb
    exact ⟨Nat.ne_of_lt (Nat.lt_of_lt_of_le (Heap.lt_size e) hC), fun x a h => (hf b hb).2.2.2.2.1 x a (c.look I h)⟩
  bs := I.bs
  bsz := Nat.le_trans I.ok.bsz I.sz
  noex := fun b o e hb => by
    rcases (hf b hb).2.2.2.1 with z | z
    · exact I.ok.noex b o e z
    · exact absurd (Nat.lt_of_lt_of_le (Heap.lt_size e) (Nat.le_trans I.ok.bsz z)) (Nat.lt_irrefl _)
  exfs := fun b hb hm => by
    rcases List.mem_cons.mp (I.stkSub b hm) with z | z
    · exact (hf b hb).2.1 z
    · exact (hf b hb).2.2.1 z
  funs := I.stack
  frf := I.stkFree
theorem blk_len (own : List Str) (js : List Nat) (σ : St) (X : Cx) : (blkσ own js σ).length = (own ++ js.map fun j => X.N.getD j Str.empty).length := by
  unfold blkσ
  simp
/-- the block's state at its start -/
theorem blk_start {acc : Addr} {m : Str → Option Value} {tk : Nat} {h' : Heap} (c : CompOk X scope own js) (I : Inv X pins σ H s) (hC : s.heap.objs.size ≤ C) (hf : ∀ b ∈ fp, FpOk X pins H b) (ho : ∀ b ∈ fp, ∃ o, s.heap.get? b = some o)
    (hn : h'.Ns C m) (k : ∀ b u, s.heap.get? b = some u → h'.get? b = some u) (hacc : s.heap.objs.size ≤ acc) (haC : acc ≠ C) (hl : h'.get? acc = some { cls := .type "list", data := .seq ([] : List Value).toArray 0 }) :
    Inv (X.blk scope own js s H C fp pins) [] (blkσ own js σ) (upd H acc (.lst [])) { s with heap := h', toks := tk } := by
  have ok := blk_ok c I hC hf ho
  have fresh : ∀ {a : Addr}, s.heap.objs.size ≤ a → H a = none := fun h => I.hok.fresh h
  have neA : ∀ b o, s.heap.get? b = some o → b ≠ acc := fun b o e => Nat.ne_of_lt (Nat.lt_of_lt_of_le (Heap.lt_size e) hacc)
  refine ⟨ok, rfl, I.bare, Un.laid k hacc (fresh hacc), ⟨m, hn, fun i x v e1 e2 e3 => ?_⟩, fun x a e => ?_, ?_, fun x a e => ?_, fun p hp => ?_, I.hok.laid k hacc ⟨Nat.zero_le _, [], 0, .nil, hl⟩, blk_len own js σ X⟩
  · -- an outer name
    have hi : own.length ≤ i := by
      refine Nat.le_of_not_lt fun hi => ?_
      unfold blkσ at e2
      rw [List.getElem?_append_left (by simpa using hi), List.getElem?_map] at e2
      cases q : own[i]? with
      | none => rw [q] at e2; cases e2
      | some z => rw [q] at e2; cases e2
    have e1' : (js.map fun j => X.N.getD j Str.empty)[i - own.length]? = some x := by
      have e1 : (own ++ js.map fun j => X.N.getD j Str.empty)[i]? = some x := e1
      rwa [List.getElem?_append_right hi] at e1
    have e2' : (js.map fun j => (σ[j]?).join)[i - own.length]? = some (some v) := by
      unfold blkσ at e2
      rw [List.getElem?_append_right (by simpa using hi)] at e2
      simpa using e2
    rw [List.getElem?_map] at e1' e2'
    cases q : js[i - own.length]? with
    | none => rw [q] at e1'; cases e1'
    | some j =>
      rw [q] at e1' e2'
      obtain ⟨x', hx', hfree⟩ := c.out j (List.mem_of_getElem? q)
      have ex : x' = x := by
        have : X.N.getD j Str.empty = x := Option.some.inj e1'
        rw [List.getD_eq_getElem?_getD, hx'] at this
        exact this
      subst ex
      have eσ : σ[j]? = some (some v) := by
        have e2'' : (σ[j]?).join = some v := Option.some.inj e2'
        cases r : σ[j]? with
        | none => rw [r] at e2''; cases e2''
        | some z => rw [r] at e2''; cases z with
          | none => cases e2''
          | some y => cases e2''; rfl
      have hmem : (x', NameKind.free) ∈ scope.names := PySem.mem_of_lookup hfree
      have hkX := c.free _ hmem rfl
      have vis : Vis X.env.scope x' := by
        rcases hkX with z | z
        · exact .inr (.inl z)
        · exact .inr (.inr z)
      obtain ⟨m0, hn0, hl0⟩ := I.loc
      obtain ⟨u, r, l⟩ := hl0 j x' v hx' eσ vis
      refine ⟨u, r, .inr ⟨relabel_free hfree, ?_⟩⟩
      obtain ⟨a, ha⟩ := cl_has (env := X.env) scope.names [] hmem
      refine ⟨a, ha, ?_⟩
      have haX := c.look I ha
      rcases l with ⟨z, _⟩ | ⟨_, a', ha', ⟨o, ho', hd⟩⟩
      · have z : X.env.kindOf x' = some .local := z
        rcases hkX with y | y
        · have y : X.env.kindOf x' = some .cell := y
          rw [z] at y; cases y
        · have y : X.env.kindOf x' = some .free := y
          rw [z] at y; cases y
      · rw [haX] at ha'; cases ha'
        exact ⟨o, k _ o ho', hd⟩
  · obtain ⟨v, o, ho', hd⟩ := I.cell x a (c.look I e)
    exact ⟨v, o, k _ o ho', hd⟩
  · show upd H acc (.lst []) C = none
    rw [upd_ne (Ne.symm haC)]
    exact fresh hC
  · have e' := c.look I e
    obtain ⟨v, o, ho', hd⟩ := I.cell x a e'
    rw [upd_ne (neA a o ho')]
    exact I.freeC x a e'
  · have hp : p ∈ X.pn ++ pins := by simpa [Cx.blk] using hp
    obtain ⟨e, n, ne, nf, d⟩ := I.pin p hp
    refine ⟨k _ _ e, by rw [upd_ne (neA _ _ e)]; exact n, Nat.ne_of_lt (Nat.lt_of_lt_of_le (Heap.lt_size e) hC), fun z => ?_, d⟩
    rcases List.mem_cons.mp (I.stkSub _ z) with q | q
    · exact ne q
    · exact nf q
/-- behind the block -/
theorem blk_end {τ : St} {pl : List (Addr × Obj)} (I : Inv X pins σ H s) (hf : ∀ b ∈ fp, FpOk X pins H b) (J : Inv (X.blk scope own js s H C fp pins) pl τ H' s') : Inv X pins σ H' s' :=
  I.call' J.os J.base J.hok J.bare fun b hb => ⟨(hf b hb).2.2.2.1, (hf b hb).2.1, (hf b hb).2.2.2.2.1, (hf b hb).2.2.2.2.2⟩
/-- an untracked object of the block's changes -/
theorem Inv.other {h' : Heap} (I : Inv X pins σ H s) (hs : Heap.SameBut C s.heap h') (hn : H C = none) (hL : C ≠ X.env.locals) (h1 : X.s₀.heap.objs.size ≤ C) (h2 : ∀ x c, X.env.cells.lookup x = some c → c ≠ C) (h3 : ∀ p ∈ X.pn ++ pins, p.1 ≠ C) :
    Inv X pins σ H { s with heap := h' } :=
  I.turned (t' := s.toks) (fun b o hb e => (hs.2 b hb).trans e) hn hL (.inr h1) h2 h3
end

/-- a target keeps the outer names -/
def GKeep (own : List Str) (g : TG) : Prop := ∀ (js : List Nat) (σ : St) (x : V) (H : Hp) (Q : St → Hp → Prop), g x (blkσ own js σ) H Q →
  g x (blkσ own js σ) H fun τ H' => (∀ (j : Nat) v, (blkσ own js σ)[j]? = some (some v) → τ[j]? = some (some v)) ∧ Q τ H'
theorem blkσ_own {own : List Str} {js : List Nat} {σ : St} {i : Nat} {v : V} (hi : i < own.length) : (blkσ own js σ)[i]? ≠ some (some v) := by
  unfold blkσ
  rw [List.getElem?_append_left (by simpa using hi), List.getElem?_map]
  cases own[i]? with
  | none => intro h; cases h
  | some z => intro h; cases h
theorem gkeep_name {own : List Str} {i : Nat} (hi : i < own.length := by decide) : GKeep own (gName i) := fun js σ x H Q h => ⟨fun j v e => by
  have hj : j ≠ i := by rintro rfl; exact blkσ_own hi e
  rw [List.getElem?_set_ne (Ne.symm hj)]
  exact e, h⟩
theorem gkeep_two {K : PySem.W.Frag} {own : List Str} {i k : Nat} (hi : i < own.length := by decide) (hk : k < own.length := by decide) : GKeep own (gTup K 2 (gCons (gName i) (gCons (gName k) gNil))) := fun js σ x H Q h => by
  obtain ⟨a, xs, rfl, hq, hl, v, r, rfl, w, r', rfl, e, h⟩ := h
  refine ⟨a, _, rfl, hq, hl, v, _, rfl, w, r', rfl, e, fun j z e => ?_, h⟩
  have hj : j ≠ i := by rintro rfl; exact blkσ_own hi e
  have hj' : j ≠ k := by rintro rfl; exact blkσ_own hk e
  rw [List.getElem?_set_ne (Ne.symm hj'), List.getElem?_set_ne (Ne.symm hj)]
  exact e
/-- [elt for target in iter if ..]: W the invariant by the turn and the heap, in which acc is the list so far; n: no more turns -/
def tCompW (own : List Str) (js : List Nat) (g : TG) (tt : TT) (te : TE) (σ : St) (J : It) (H1 : Hp) (Q : VK) : Prop :=
  ∀ acc, H1 acc = none → ∃ (W : Nat → Hp → Prop) (n : Nat), W 0 (upd H1 acc (.lst [])) ∧ ∀ i H2, W i H2 →
    (J.stop i H2 ∧ Q (.ref acc) H2) ∨ (i < n ∧ J.go i H2 ∧ ∀ x H3, J.yld i H2 x H3 → g x (blkσ own js σ) H3 fun τ H4 => tt τ H4 fun c H5 =>
      if c = true then te τ H5 fun y H6 => ∃ ys, H6 acc = some (.lst ys) ∧ ys.length < sizeLine ∧ W (i + 1) (upd H6 acc (.lst (ys ++ [y]))) else W (i + 1) H5)
def tComp (own : List Str) (js : List Nat) (wi : TI) (g : TG) (tt : TT) (te : TE) : TE := fun σ H Q => wi σ H fun J H1 => tCompW own js g tt te σ J H1 Q

section
variable {X : Cx} {scope : Scope} {own : List Str} {js : List Nat} {elt iter target : Expr} {ifs : List Expr} {wi : TI} {g : TG} {tt : TT} {te : TE} {pos : Pos}
/-- the block runs -/
theorem blk_run {pins : List (Addr × Obj)} {σ : St} {H2 : Hp} {s₂ : Shared} {it : Addr} {fp : List Addr} {tn : Nat → Heap → Prop} {J : It} {Q : VK} {E : Value → Shared → Prop} {RR : Value → Addr → Result → Shared → Prop}
    (c : CompOk X scope own js) (hc : X.calm = true) (hgk : GKeep own g)
    (hg : ∀ s H C fp pins, PG (X.blk scope own js s H C fp pins) target g) (ht : ∀ s H C fp pins, PTs (X.blk scope own js s H C fp pins) ifs tt) (he : ∀ s H C fp pins, PE (X.blk scope own js s H C fp pins) elt te)
    (I : Inv X pins σ H2 s₂) (T : Turn X.prog X.w X.K target J fp it tn) (st : tn 0 s₂.heap) (hf : ∀ b ∈ fp, FpOk X pins H2 b) (h : tCompW own js g tt te σ J H2 Q)
    (hRR : ∀ acc C H' s' m, s₂.heap.objs.size ≤ C → H' C = none → Inv X pins σ H' s' → s'.heap.Ns C m → Q (.ref acc) H' → RR (.ref acc) C (.ok .next) s') :
    wpAny (model X.prog X.w) X.A (newList []) (fun acc s₃ => wpAny (model X.prog X.w) X.A (newFunctionEnv scope X.env.globals (clOf scope X.env) [] X.env.qual none .none (some X.env)) (fun cenv s₄ =>
      codeAny (model X.prog X.w) X.A (.compStart (.ListComp elt [⟨target, iter, ifs, 0⟩] scope pos) 0 (.ref it) acc { cenv with scope := relabel scope X.env }) (RR acc cenv.locals) s₄) E s₃) E s₂ := by
  refine wpAny_newObj_type (wpAny_newFunctionEnv c.cell (by intro y hy; simp at hy) (fun h₁ hns₁ hsb₁ => ?_) c.kind)
  dsimp only at hns₁ hsb₁ ⊢
  generalize hH2 : s₂.heap.push { cls := .type "list", dict := none, data := .seq ([] : List Value).toArray } = G2 at hns₁ hsb₁ ⊢
  have hC : G2.objs.size = s₂.heap.objs.size + 1 := by rw [← hH2, Heap.size_push]
  have hDC : s₂.heap.objs.size ≠ G2.objs.size := by rw [hC]; exact Nat.ne_of_lt (Nat.lt_succ_self _)
  have hCle : s₂.heap.objs.size ≤ G2.objs.size := by rw [hC]; exact Nat.le_succ _
  have old : ∀ b o, s₂.heap.get? b = some o → h₁.get? b = some o := fun b o e => hsb₁.extBut b o (Nat.ne_of_lt (Nat.lt_of_lt_of_le (Heap.lt_size e) hCle)) (Heap.get?_push_of_some _ (hH2 ▸ Heap.get?_push_of_some _ e))
  have hacc : h₁.get? s₂.heap.objs.size = some { cls := .type "list", data := .seq ([] : List Value).toArray 0 } := hsb₁.extBut _ _ hDC (Heap.get?_push_of_some _ (hH2 ▸ Heap.get?_push_size _ rfl))
  have ho2 : ∀ b ∈ fp, ∃ o, s₂.heap.get? b = some o := fun b hb => let ⟨o, e, _⟩ := T.obj 0 _ st b hb; ⟨o, e⟩
  have I0 : ∀ tk, Inv (X.blk scope own js s₂ H2 G2.objs.size fp pins) [] (blkσ own js σ) (upd H2 s₂.heap.objs.size (.lst [])) { s₂ with heap := h₁, toks := tk } := fun tk =>
    blk_start c I hCle hf ho2 hns₁ old (Nat.le_refl _) hDC hacc
  obtain ⟨W, nn, w0, turn⟩ := h s₂.heap.objs.size (I.hok.fresh (Nat.le_refl _))
  generalize hacc' : s₂.heap.objs.size = acc at *
  generalize hGC : G2.objs.size = C at *
  have st1 : tn 0 h₁ := T.keep 0 _ _ st fun b _ o e => old b o e
  have fOk : ∀ {H' : Hp}, (∀ b ∈ fp, H' b = none) → ∀ b ∈ fp, FpOk (X.blk scope own js s₂ H2 C fp pins) [] H' b := fun hn b hb => by
    obtain ⟨f0, f1, f2, f3, f4, f5⟩ := hf b hb
    obtain ⟨o, e⟩ := ho2 b hb
    refine ⟨hn b hb, Nat.ne_of_lt (Nat.lt_of_lt_of_le (Heap.lt_size e) (by rw [← hacc'] at hCle; exact hCle)), fun z => ?_, .inl hb, fun x a h => f4 x a (c.look I h), fun p hp => f5 p (by simpa [Cx.blk] using hp)⟩
    rcases List.mem_cons.mp (I.stkSub b z) with q | q
    · exact f1 q
    · exact f2 q
  have loop : ∀ s₃ : Shared, s₃ = { s₂ with heap := h₁, toks := s₂.toks + ([] : List (Str × Value)).length } →
      codeAny (model X.prog X.w) X.A (.compLoop (.ListComp elt [⟨target, iter, ifs, 0⟩] scope pos) 0 (.ref it) (.ref acc) (compEnvC scope (clOf scope X.env) C X.env)) (RR (.ref acc) C) s₃ := by
    rintro s₃ rfl
    refine codeAny_compLoop_go (fun n s' => ∃ i H', n = nn - i ∧ Inv (X.blk scope own js s₂ H2 C fp pins) [] (blkσ own js σ) H' s' ∧ tn i s'.heap ∧ (∀ b ∈ fp, H' b = none) ∧ W i H') ?_ nn ⟨0, _, rfl, I0 _, st1, fun b hb => ?_, w0⟩
    · rintro n s3 ⟨i, H3, en, I3, st3, fr3, w3⟩
      rcases turn i H3 w3 with ⟨stop, qn⟩ | ⟨hin, go, step⟩
      · refine thn (T.done (X.blk scope own js s₂ H2 C fp pins) rfl rfl rfl hc i [] s3 _ H3 (fun _ _ => False) I3 (fOk fr3) st3 stop) fun r s4 ⟨hr, I4⟩ => ?_
        subst hr
        obtain ⟨m, hn, _⟩ := I4.loc
        exact hRR acc C H3 s4 m hCle I4.free (blk_end I hf I4) hn qn
      · refine thn (T.item (X.blk scope own js s₂ H2 C fp pins) rfl rfl rfl hc i [] s3 _ H3 (fun _ _ => False) I3 (fOk fr3) st3 go) fun r s4 ⟨u, hr, h4⟩ => ?_
        subst hr
        refine thn h4 fun _ s5 ⟨x, H5, I5, r5, y5, st5, fr5⟩ => ?_
        have I5' := I5.pinned (fOk fr5) (T.obj _ _ st5)
        have again : ∀ {σ7 : St} {H7 : Hp} {s7 : Shared}, Inv (X.blk scope own js s₂ H2 C fp pins) ([] ++ pinsAt fp s5.heap) σ7 H7 s7 → (∀ (j : Nat) v, (blkσ own js σ)[j]? = some (some v) → σ7[j]? = some (some v)) → W (i + 1) H7 →
            ∃ m, m < n ∧ ∃ i H', m = nn - i ∧ Inv (X.blk scope own js s₂ H2 C fp pins) [] (blkσ own js σ) H' s7 ∧ tn i s7.heap ∧ (∀ b ∈ fp, H' b = none) ∧ W i H' := fun {σ7 H7 s7} I7 hw w7 => by
          refine ⟨nn - (i + 1), by omega, i + 1, H7, rfl, (I7.unpinned).weak ((blk_len own js σ X).trans I7.len.symm) hw, T.keep _ _ _ st5 fun b hb o e => (I7.pin (b, o) (List.mem_append_right _ (List.mem_append_right _ (mem_pinsAt hb e)))).1, fun b hb => ?_, w7⟩
          obtain ⟨o, e, d⟩ := T.obj _ _ st5 b hb
          exact (I7.pin (b, o) (List.mem_append_right _ (List.mem_append_right _ (mem_pinsAt hb e)))).2.1
        refine thn (hg s₂ H2 C fp pins _ s5 _ H5 x u _ I5' r5 (hgk _ _ _ _ _ (step x H5 y5))) fun _ s6 ⟨σ6, H6, I6, kp, q6⟩ => ?_
        refine thn (ht s₂ H2 C fp pins _ s6 σ6 H6 _ I6 q6) fun ok s7 ⟨H7, I7, q7⟩ => ?_
        cases ok with
        | false =>
          exact again I7 kp q7
        | true =>
          refine thn (he s₂ H2 C fp pins _ s7 σ6 H7 _ I7 q7) fun y s8 ⟨v, H8, I8, r8, ys, hl, hz, w8⟩ => ?_
          refine thn (mt_append (X := X.blk scope own js s₂ H2 C fp pins) _ s8 σ6 H8 (.ref acc) [v] (.ref acc) [y] (fun _ H9 => W (i + 1) H9) I8 rfl (.cons r8 .nil) ⟨acc, ys, v, rfl, rfl, hl, hz, w8⟩) fun _ s9 ⟨_, H9, I9, _, w9⟩ => ?_
          exact again I9 kp w9
    · rw [upd_ne ?_]
      · exact (hf b hb).1
      · obtain ⟨o, e⟩ := ho2 b hb
        rw [← hacc']
        exact Nat.ne_of_lt (Heap.lt_size e)
  exact codeAny_compStart_list (loop _ rfl) (T.self _ 0 _ _ _ st1 (loop _ rfl))
/-- the comprehension as a value -/
theorem pe_comp (c : CompOk X scope own js) (hc : X.calm = true) (hi : PI X target iter wi) (hgk : GKeep own g)
    (hg : ∀ s H C fp pins, PG (X.blk scope own js s H C fp pins) target g) (ht : ∀ s H C fp pins, PTs (X.blk scope own js s H C fp pins) ifs tt) (he : ∀ s H C fp pins, PE (X.blk scope own js s H C fp pins) elt te)
    (hs : ∀ x, foldedSetIterable iter X.env x = pure x := by intro _; rfl) : PE X (.ListComp elt [⟨target, iter, ifs, 0⟩] scope pos) (tComp own js wi g tt te) := by
  intro pins s σ H Q I h
  rw [eval_ListComp]
  refine wpAny_comprehension_free (use := none) rfl hs (closure_cl (c.cl I)) c.kind c.names (thn (hi pins s σ H _ I h) fun v s1 h1 => thn h1 fun itv s2 h2 => ?_)
  obtain ⟨it, fp, tn, J, H2, e, I2, T, st2, f2, hw⟩ := h2
  subst e
  refine blk_run (RR := fun acc C => compPost (model X.prog X.w) X.A X.xe none (EP X pins σ Q) acc C) c hc hgk hg ht he I2 T st2 f2 hw ?_
  intro acc C H' s' m hCs hCn I' hn q
  refine ⟨m, hn, fun h' hs' => ⟨.ref acc, H', I'.other hs' hCn ?_ ?_ ?_ ?_, rfl, q⟩⟩
  · exact Nat.ne_of_gt (Nat.lt_of_lt_of_le I2.lt hCs)
  · exact Nat.le_trans I2.sz hCs
  · intro x a e z
    obtain ⟨v, q⟩ := I2.cell x a e
    exact absurd (Nat.lt_of_lt_of_le q.lt (by rw [z]; exact hCs)) (Nat.lt_irrefl _)
  · intro p hp z
    exact absurd (Nat.lt_of_lt_of_le (Heap.lt_size (I2.pin p hp).1) (by rw [z]; exact hCs)) (Nat.lt_irrefl _)
/-- name = [..], the name a plain local -/
theorem ps_comp {i : Nat} {y : Str} {py spos : Pos} (hN : X.N.Nodup) (hy : X.N[i]? = some y) (hyl : X.env.scope.names.lookup y = some .local) (c : CompOk X scope own js) (hc : X.calm = true) (hi : PI X target iter wi) (hgk : GKeep own g)
    (hg : ∀ s H C fp pins, PG (X.blk scope own js s H C fp pins) target g) (ht : ∀ s H C fp pins, PTs (X.blk scope own js s H C fp pins) ifs tt) (he : ∀ s H C fp pins, PE (X.blk scope own js s H C fp pins) elt te)
    (hsw : swapsWith (.ListComp elt [⟨target, iter, ifs, 0⟩] scope pos) (some (.Name y py)) spos.line X.env = pure true := by rfl)
    (hs : ∀ x, foldedSetIterable iter X.env x = pure x := by intro _; rfl) : PS X (.Assign [.Name y py] (.ListComp elt [⟨target, iter, ifs, 0⟩] scope pos) spos) (tAsg (tComp own js wi g tt te) (gName i)) := by
  intro pins s σ H D I h
  rw [exec_Assign_Name_used _ _ _ _ hsw]
  refine wpAny_bind (wpAny_standAt (wpAny_bind ?_))
  show wpAny _ X.A (do let _ ← comprehension (.ListComp elt [⟨target, iter, ifs, 0⟩] scope pos) scope X.env _ (newList []) false (eval iter X.env) (some (assign (.Name y py) X.env))) _ _ s
  refine wpAny_bind (wpAny_mono (wpAny_comprehension_free (use := some (assign (.Name y py) X.env)) (Q := fun _ s' => SP X pins D .next s') rfl hs (closure_cl (c.cl I)) c.kind c.names
    (thn (hi pins s σ H _ I h) fun v s1 h1 => thn h1 fun itv s2 h2 => ?_)) (fun _ s' hq => wpAny_pure (wpAny_pure hq)) fun _ _ e => e)
  obtain ⟨it, fp, tn, J, H2, e, I2, T, st2, f2, hw⟩ := h2
  subst e
  refine blk_run (Q := fun x H1 => gName i x σ H1 D.nx) (RR := fun acc C => compPost (model X.prog X.w) X.A X.xe (some (assign (.Name y py) X.env)) (fun _ s' => SP X pins D .next s') acc C) c hc hgk hg ht he I2 T st2 f2 hw ?_
  intro acc C H' s' m hCs hCn I' hn q
  have hL : C ≠ X.env.locals := Nat.ne_of_gt (Nat.lt_of_lt_of_le I2.lt hCs)
  have hcell : ∀ x a, X.env.cells.lookup x = some a → a ≠ C := by
    intro x a e z
    obtain ⟨v, q⟩ := I2.cell x a e
    exact absurd (Nat.lt_of_lt_of_le q.lt (by rw [z]; exact hCs)) (Nat.lt_irrefl _)
  refine wpAny_assign_Name (store_ok2 I' hN hy (.inl hyl) (v := .ref acc) rfl (fun s2 I'' hch => ?_) (.inr hyl))
  obtain ⟨a, sb, ha⟩ := hch
  have hCa : C ≠ a := by
    rcases ha with rfl | ha
    · exact hL
    · exact Ne.symm (hcell _ _ ha)
  refine ⟨m, hn.sameBut sb hCa, fun h' hs' => ⟨_, H', I''.other hs' hCn hL (Nat.le_trans I2.sz hCs) hcell ?_, q⟩⟩
  intro p hp z
  exact absurd (Nat.lt_of_lt_of_le (Heap.lt_size (I2.pin p hp).1) (by rw [z]; exact hCs)) (Nat.lt_irrefl _)
end
/-! ### the forms one uses -/
section
variable {K : PySem.W.Frag} {own : List Str} {js : List Nat} {g : TG} {tt : TT} {te : TE} {σ : St} {H1 : Hp} {Q : VK}
/-- over a range -/
theorem comp_range {lo : Int} {n : Nat} (Pv : Addr → Nat → Hp → Prop) (h0 : ∀ acc, H1 acc = none → Pv acc 0 (upd H1 acc (.lst [])))
    (hs : ∀ acc i H, H1 acc = none → i < n → Pv acc i H → g (.int (lo + i)) (blkσ own js σ) H fun τ H4 => tt τ H4 fun c H5 =>
      if c = true then te τ H5 fun y H6 => ∃ ys, H6 acc = some (.lst ys) ∧ ys.length < sizeLine ∧ (i + 1 ≤ n ∧ Pv acc (i + 1) (upd H6 acc (.lst (ys ++ [y])))) else (i + 1 ≤ n ∧ Pv acc (i + 1) H5))
    (hd : ∀ acc H, H1 acc = none → Pv acc n H → Q (.ref acc) H) : tCompW own js g tt te σ (Itr lo n) H1 Q := by
  intro acc hacc
  refine ⟨fun i H => i ≤ n ∧ Pv acc i H, n, ⟨Nat.zero_le _, h0 acc hacc⟩, ?_⟩
  rintro i H ⟨hi, p⟩
  by_cases hlt : i < n
  · refine .inr ⟨hlt, hlt, fun x H' y => ?_⟩
    obtain ⟨e, y⟩ := y
    subst e y
    exact hs acc i _ hacc hlt p
  · have e : i = n := by omega
    subst e
    exact .inl ⟨Nat.le_refl _, hd acc H hacc p⟩
end
/-- a comprehension's scope against its def's, by reckoning -/
def compChk (scope sc : Scope) (js : List Nat) (N : List Str) : Bool :=
  (scope.kind == .function) && (scope.names.all fun y => (y.2 != .cell) && ((y.2 != .free) || (sc.names.lookup y.1 == some .cell) || (sc.names.lookup y.1 == some .free)) && ((y.2 != .local) || (scope.names.lookup y.1 == some .local))) &&
  (js.all fun j => match N[j]? with | some x => scope.names.lookup x == some .free | none => false)
theorem CompOk.by {X : Cx} {scope sc : Scope} {own N : List Str} {js : List Nat} (hX : X.env.scope = sc) (hN : X.N = N) (h : compChk scope sc js N = true) : CompOk X scope own js := by
  unfold compChk at h
  simp only [Bool.and_eq_true, beq_iff_eq, List.all_eq_true, Bool.or_eq_true, bne_iff_ne, ne_eq] at h
  obtain ⟨⟨h1, h2⟩, h3⟩ := h
  refine ⟨h1, fun y hy => (h2 y hy).1.1, fun y hy hf => ?_, fun y hy hl => ?_, fun j hj => ?_⟩
  · show X.env.scope.names.lookup y.1 = _ ∨ X.env.scope.names.lookup y.1 = _
    rw [hX]
    rcases (h2 y hy).1.2 with (z | z) | z
    · exact absurd hf z
    · exact .inl z
    · exact .inr z
  · rcases (h2 y hy).2 with z | z
    · exact absurd hl z
    · exact z
  · have := h3 j hj
    rw [hN]
    cases e : N[j]? with
    | none => rw [e] at this; cases this
    | some x => rw [e] at this; exact ⟨x, rfl, by simpa using this⟩
end L2

set_option Elab.async false
set_option linter.all false
set_option maxRecDepth 100000
set_option maxHeartbeats 4000000
namespace L2
open PySem PySem.Spec PyProof.Rows PySem.SeqAt

section
variable {X : Cx}
theorem Vals.bl_get {bs : List Bool} {us : List Value} (r : Vals (bs.map V.bl) us) {i : Nat} {v : Value} (e : us[i]? = some v) : ∃ b, bs[i]? = some b ∧ v = .bool b := by
  cases q : (bs.map V.bl)[i]? with
  | none =>
    have := r.none_of q
    rw [e] at this; cases this
  | some x =>
    obtain ⟨u, h1, h2⟩ := r.get q
    rw [e] at h1; cases h1
    rw [List.getElem?_map] at q
    cases z : bs[i]? with
    | none => rw [z] at q; cases q
    | some b => rw [z] at q; cases q; exact ⟨b, rfl, h2⟩
theorem range_all {bs : List Bool} : (List.range bs.length).all (fun i => bs.getD i true) = bs.all id := by
  rw [Bool.eq_iff_iff, List.all_eq_true, List.all_eq_true]
  constructor
  · intro h b hb
    obtain ⟨i, hi, e⟩ := List.getElem_of_mem hb
    have := h i (List.mem_range.mpr hi)
    simpa [List.getD_eq_getElem?_getD, hi, e] using this
  · intro h i hi
    have hi' := List.mem_range.mp hi
    have := h bs[i] (List.getElem_mem hi')
    simpa [List.getD_eq_getElem?_getD, hi'] using this
/-- all(..) of a list of bools -/
theorem call_all (hc : X.calm = true) : CallR X (.builtin "all") (fun xs H Q => ∃ (a : Addr) (bs : List Bool), xs = [.ref a] ∧ SqL X.K H a (bs.map V.bl) ∧ Q (.bl (bs.all id)) H) := by
  intro pins s σ H xs us Q I r h
  obtain ⟨a, bs, rfl, hq, q⟩ := h
  obtain ⟨u, rfl, r1⟩ := vals1 r
  cases r1
  obtain ⟨its, rv, p, hz⟩ := I.list hq
  refine call_all_walk (wpAny_pyIter_list p.isList ?_)
  have hlt := (let ⟨o, n, e, _⟩ := p; Heap.lt_size e : a < s.heap.objs.size)
  have hne : a ≠ s.heap.objs.size := Nat.ne_of_lt hlt
  have hlen : its.toArray.size = bs.length := by rw [List.size_toArray, ← rv.length, List.length_map]
  refine ⟨s.heap.objs.size, _, _, _, _, _, fun i => bs.getD i true, rfl, Walks.list (A := X.A.in1) (I.ok.hd hc) _ a hne its.toArray, ⟨⟨_, Heap.get?_push_size _ rfl, rfl, rfl⟩, ?_⟩, ?_, ?_⟩
  · obtain ⟨o, n, e, c, _, d⟩ := p
    exact ⟨o, Heap.get?_push_of_some _ e, c, n, d⟩
  · intro i v s' Q' E' hP hQ
    have hP' : its[i]? = some v := by simpa using hP
    obtain ⟨b, hb, rfl⟩ := rv.bl_get hP'
    refine wpAny_truthy_bool ?_
    dsimp only at hQ
    rw [List.getD_eq_getElem?_getD, hb] at hQ
    exact hQ
  · intro h' tk k
    rw [hlen, range_all]
    refine ⟨.bl (bs.all id), H, I.kept (h' := h') (t' := tk) fun b o e => k b o ?_ (Heap.get?_push_of_some _ e), rfl, q⟩
    intro hm
    have : b = s.heap.objs.size := by simpa using hm
    rw [this] at e
    exact absurd (Heap.lt_size e) (Nat.lt_irrefl _)

/-! ### list.remove of an int -/
theorem Vals.int_at {ns : List Int} {us : List Value} (r : Vals (ns.map V.int) us) {i : Nat} (h : i < ns.length) : ∃ t, us[i]? = some (.int ns[i] t) := by
  have q : (ns.map V.int)[i]? = some (V.int ns[i]) := by rw [List.getElem?_map, List.getElem?_eq_getElem h]; rfl
  obtain ⟨u, h1, t, rfl⟩ := r.get q
  exact ⟨t, h1⟩
/-! ### lists of ints compared -/
theorem range_eq : ∀ {ns ms : List Int}, ns.length = ms.length → ((List.range ns.length).all fun i => ns.getD i 0 == ms.getD i 0) = decide (ns = ms) := fun {ns ms} h => by
  rw [Bool.eq_iff_iff, List.all_eq_true, decide_eq_true_iff]
  constructor
  · intro q
    refine List.ext_getElem h fun i h1 h2 => ?_
    have := q i (List.mem_range.mpr h1)
    simpa [List.getD_eq_getElem?_getD, h1, h2] using this
  · rintro rfl i hi
    simp
theorem ints_at {ns : List Int} {its : List Value} (r : Vals (ns.map V.int) its) {j : Nat} (h : j < its.toArray.size) : ∃ t, its.toArray[j] = .int (ns.getD j 0) t := by
  have hj : j < ns.length := by rw [List.size_toArray, ← r.length, List.length_map] at h; exact h
  obtain ⟨t, q⟩ := r.int_at hj
  obtain ⟨_, q'⟩ := List.getElem?_eq_some_iff.mp q
  exact ⟨t, by simpa [List.getD_eq_getElem?_getD, hj] using q'⟩
end
end L2

set_option Elab.async false
set_option linter.all false
set_option maxRecDepth 100000
set_option maxHeartbeats 4000000
namespace L2
open PySem PySem.Spec PyProof.Rows PySem.SeqAt

/-! ### min of a list whose items are compared in the heap -/
section
variable {prog : Program} {w : World} {A : Around} {R : Result → Shared → Prop} {I : Addr} {fp wr : List Addr} {n : Nat} {P : Nat → Value → Prop} {St : Nat → Heap → Prop}
end
section
variable {X : Cx}
end
end L2

set_option Elab.async false
set_option linter.all false
set_option maxRecDepth 100000
set_option maxHeartbeats 4000000
namespace L2
open PySem PySem.Spec PyProof.Rows PySem.SeqAt

/-! ### enumerate of a list -/
/-- at turn i a new pair (i, the i-th thing) -/
def Ite (K : PySem.W.Frag) (a : Addr) : It :=
  ⟨fun i H => ∃ xs x, SqL K H a xs ∧ xs[i]? = some x, fun i H y H' => ∃ p x, H p = none ∧ y = .ref p ∧ H' = upd H p (.tup [.int i, x]) ∧ ∀ xs, SqL K H a xs → xs[i]? = some x, fun i H => ∃ xs, SqL K H a xs ∧ xs.length ≤ i⟩
theorem turn_enum {P : Program} {w : World} {K : PySem.W.Frag} {es : List Expr} {x1} {pos : Pos} (a it e : Addr) (hne : e ≠ it) : Turn P w K (.Tuple es x1 pos) (Ite K a) [e, it] e (fun i h => (∃ old, IsEnum h e it (i : Nat) old) ∧ h.IsListIter it a i) where
  mem := by simp
  obj := fun i h st b hb => by
    obtain ⟨⟨old, s1⟩, s2⟩ := st
    rcases List.mem_cons.mp hb with z | z
    · subst z
      exact ⟨_, s1, fun v z => nomatch z⟩
    · have z : b = it := by simpa using z
      subst z
      obtain ⟨o, e, c, d⟩ := s2
      exact ⟨o, e, fun v z => by rw [d] at z; cases z⟩
  keep := fun i h h' st k => by
    obtain ⟨⟨old, s1⟩, s2⟩ := st
    exact ⟨⟨old, k e (by simp) _ s1⟩, s2.at fun o q => k it (by simp) o q⟩
  item := by
    intro X hP hw hK hc i pins s σ H E I hf st hg
    subst hP hw hK
    obtain ⟨xs, x, hq, hx⟩ := hg
    obtain ⟨its, rv, p, hz⟩ := I.list hq
    obtain ⟨u, hu, ru⟩ := rv.get hx
    obtain ⟨⟨old, s1⟩, s2⟩ := st
    refine wpAny_pyNext_enum_item s1 s2 p.isList (x := u) (by simpa using hu) hne fun h' ho hit ht hsz hk => ?_
    refine ⟨_, rfl, ?_⟩
    refine wpAny_letOwnedTupleGo_enum ho fun h'' he hs => ?_
    have fresh : H s.heap.objs.size = none := I.hok.fresh (Nat.le_refl _)
    have k : ∀ b o, b ∉ [e, it] → s.heap.get? b = some o → h''.get? b = some o := fun b o hb q => by
      have hb' : b ≠ e ∧ b ≠ it := by simpa using hb
      exact (hs.2 b hb'.1).trans (hk b o hb'.1 hb'.2 q)
    have nE : ∀ b ∈ [e, it], H b = none := fun b hb => (hf b hb).1
    have nit : ∀ b u, H b = some u → b ∉ [e, it] := fun b u q z => by rw [nE b z] at q; cases q
    have hpe : s.heap.objs.size ≠ e := Nat.ne_of_gt (Heap.lt_size s1)
    have htup : h''.get? s.heap.objs.size = some { cls := .type "tuple", data := .seq #[.int i s.toks, u] } := (hs.2 _ hpe).trans ht
    have newOk : ObjOk X.prog X.w (upd H s.heap.objs.size (.tup [.int i, x])) h'' s.heap.objs.size (.tup [.int i, x]) := by
      refine ⟨?_, [.int i s.toks, u], .cons ⟨_, rfl⟩ (.cons ru .nil), ⟨_, htup, rfl, rfl, 0, rfl⟩⟩
      show 2 ≤ sizeLine
      decide
    have I1 : Inv X pins σ (upd H s.heap.objs.size (.tup [.int i, x])) { s with heap := h'', toks := s.toks + 1 } := by
      refine I.step (g' := s.gens) (d' := s.drawn) (ch := [e, it]) (fun b hb => ?_) (fun b o _ _ hc q _ => k b o hc q) (fun b o _ _ hc q _ => ⟨o.slots, k b o hc q⟩) (fun b o _ q n => ?_) (fun b o hc q => ⟨o, k b o hc q⟩)
        (fun b xs q => by rw [upd_ne (ne_of_none q fresh)]; exact q) (fun b o xs q => by rw [upd_ne (ne_of_none q fresh)]; exact q) (fun b ps q => ⟨#[], by rw [upd_ne (ne_of_none q fresh), q]; simp⟩) (fun m hm => ?_) (fun b ob q => ?_) I.bare
      · obtain ⟨f0, f1, f2, f3, f4, f5⟩ := hf b hb
        exact ⟨f3, f1, f4, f5⟩
      · rw [upd_ne (Nat.ne_of_lt (Heap.lt_size q))]
        exact n
      · obtain ⟨o, es, ep, ho, r⟩ := hm
        refine ⟨o, es, ep, k _ o (fun z => ?_) ho, r⟩
        exact (hf _ z).2.1 rfl
      · by_cases hb : b = s.heap.objs.size
        · subst hb
          rw [upd_same] at q; cases q
          exact newOk
        · rw [upd_ne hb] at q
          refine (I.hok b ob q).stay (fun c v hc r => k c v ?_ r) (fun c r => by rw [upd_ne (ne_of_none r fresh)]; exact r) fun c xs r => by rw [upd_ne (ne_of_none r fresh)]; exact r
          rcases hc with z | z
          · rw [z]; exact nit b ob q
          · exact nit c _ z
    refine ⟨.ref s.heap.objs.size, _, I1, rfl, ⟨s.heap.objs.size, x, fresh, rfl, rfl, fun ys hy => by rw [I.list_inj hy hq]; exact hx⟩, ⟨⟨u, ?_⟩, ?_⟩, fun b hb => ?_⟩
    · have he : IsEnum h'' e it ((i : Int) + 1) u := he
      show IsEnum h'' e it ((i + 1 : Nat) : Int) u
      rw [show ((i + 1 : Nat) : Int) = (i : Int) + 1 by omega]
      exact he
    · exact hit.extBut hs.extBut (Ne.symm hne)
    · have lt : b < s.heap.objs.size := by
        rcases List.mem_cons.mp hb with z | z
        · rw [z]; exact Heap.lt_size s1
        · have z : b = it := by simpa using z
          rw [z]
          obtain ⟨o, q, _⟩ := s2
          exact Heap.lt_size q
      rw [upd_ne (Nat.ne_of_lt lt)]
      exact nE b hb
  done := by
    intro X hP hw hK hc i pins s σ H E I hf st hg
    subst hP hw hK
    obtain ⟨xs, hq, hx⟩ := hg
    obtain ⟨its, rv, p, hz⟩ := I.list hq
    obtain ⟨⟨old, s1⟩, s2⟩ := st
    obtain ⟨f0, f1, f2, f3, f4, f5⟩ := hf it (by simp)
    have hl := rv.length
    exact wpAny_pyNext_enum_end (I.ok.hd hc) s1 s2 p.isList (by simp; omega) fun h' eb => ⟨rfl, I.turned (t' := s.toks) (fun b o hb q => eb b o hb q) f0 f1 f3 f4 f5⟩
  self := fun _ _ _ _ _ st h => by
    obtain ⟨⟨old, s1⟩, _⟩ := st
    exact wpAny_pyIter_enum s1 h
section
variable {X : Cx}
/-- isinstance(x, T) for a built-in type -/
theorem call_isinst : CallR X (.builtin "isinstance") (fun xs H Q => ∃ x T t b, xs = [x, .ty T] ∧ TyOf X.K H x t ∧ PySem.W.kitOne X.K t (.type T) = some b ∧ Q (.bl b) H) := by
  intro pins s σ H xs us Q I r h
  obtain ⟨x, T, t, b, rfl, ty, e, q⟩ := h
  obtain ⟨u, u2, rfl, r1, r2⟩ := vals2 r
  cases r2
  exact isinst_ok I r1 ty e fun tk => ⟨.bl b, H, I.tok _, rfl, q⟩
end
end L2

set_option Elab.async false
set_option linter.all false
set_option maxRecDepth 100000
set_option maxHeartbeats 4000000
namespace L2
open PySem PySem.Spec PyProof.Rows

/-! ### lists of pairs as tables -/
section
variable {κ : Type} [DecidableEq κ]
end


/-! ### a tracked dict, its keys ints and texts or tuples of these -/
section
variable {P : Program} {w : World} {H : Hp} {h : Heap} {a : Addr}
end

section
variable {X : Cx} {pins : List (Addr × Obj)} {σ : St} {H : Hp} {s : Shared} {a : Addr} {y v : V} {u r : Value} {o : Option V} {A : Around} {E : Value → Shared → Prop}

end

section
variable {X : Cx} {pins : List (Addr × Obj)} {σ : St} {H : Hp} {s : Shared} {a : Addr} {kvs : List (Key × V)} {k : Key} {u : Value} {A : Around} {E : Value → Shared → Prop}
end


/-! ### readings and rules -/
section
variable {X : Cx} {o i e value : Expr} {pos pos' tpos : Pos} {td ty tv : TE}
end


/-! ### displays -/
section
variable {X : Cx} {pos : Pos}
end

/-! ### methods -/
/-- a method call o.m(e) of a built-in, with one argument: what must be seen of the text -/
structure M1 (X : Cx) (o : Expr) (m : Str) (apos : Pos) (e : Expr) (cpos : Pos) : Prop where
  base : attributeBase o m X.env (eval o X.env) = eval o X.env
  few : ((backTo cpos (starEach [e] X.env)).all (fun x => !x.1) && (backToKw cpos (keywordEach [] X.env)).all (fun x => x.1.isSome)
    && decide (([e] : List Expr).length + ([] : List Keyword).length + (if ([] : List Keyword).isEmpty then 0 else 1) < 30)) = true
  line : (apos.endLine == cpos.line) = true
  trees : backTo cpos (starEach [e] X.env) = [(false, eval e X.env)]
structure M2 (X : Cx) (o : Expr) (m : Str) (apos : Pos) (e f : Expr) (cpos : Pos) : Prop where
  base : attributeBase o m X.env (eval o X.env) = eval o X.env
  few : ((backTo cpos (starEach [e, f] X.env)).all (fun x => !x.1) && (backToKw cpos (keywordEach [] X.env)).all (fun x => x.1.isSome)
    && decide (([e, f] : List Expr).length + ([] : List Keyword).length + (if ([] : List Keyword).isEmpty then 0 else 1) < 30)) = true
  line : (apos.endLine == cpos.line) = true
  trees : backTo cpos (starEach [e, f] X.env) = [(false, eval e X.env), (false, eval f X.env)]

section
variable {X : Cx} {pins : List (Addr × Obj)} {σ : St} {H : Hp} {s : Shared} {a : Addr} {y d : V} {u r : Value} {o : Option V} {A : Around} {E : Value → Shared → Prop}
end

section
variable {X : Cx} {o e f : Expr} {apos cpos : Pos} {td ty tx : TE}
end

/-! ### dict(d): a copy -/
section
variable {X : Cx} {pins : List (Addr × Obj)} {σ : St} {H : Hp} {s : Shared} {a : Addr} {kvs : List (Key × V)} {A : Around} {E : Value → Shared → Prop}
end


section
variable {X : Cx} {pins : List (Addr × Obj)} {σ : St} {H : Hp} {s : Shared} {a : Addr} {y : V} {u : Value} {A : Around} {E : Value → Shared → Prop}
end
end L2
namespace L2
open PySem PySem.Spec PyProof.Rows
/-! ### a dict's pairs: keys that differ -/
section
variable {κ : Type} [DecidableEq κ]
end
end L2

set_option Elab.async false
set_option linter.all false
set_option maxRecDepth 100000
set_option maxHeartbeats 4000000
namespace L2
open PySem PySem.Spec PyProof.Rows PySem.SeqAt
/-! ### enumerate of a tuple -/
section
variable {prog : Program} {w : World} {A : Around} {E : Value → Shared → Prop} {s : Shared}
theorem nextOf_tup {it t : Addr} {i : Nat} {items : Array Value} {x : Value} {Q : Value → Shared → Prop} (hit : s.heap.IsTupleIter it t i) (ht : s.heap.IsTuple t items) (hx : items[i]? = some x)
    (hQ : ∀ h', h'.IsTupleIter it t (i + 1) → Heap.SameBut it s.heap h' → Q x { s with heap := h' }) : wpAny (model prog w) A (Builtin.SmallTypes.nextOf (.ref it)) Q E s := by
  obtain ⟨o, ho, hc, hd⟩ := id hit
  obtain ⟨ol, hol, _, nl, hdl⟩ := ht
  unfold Builtin.SmallTypes.nextOf
  refine wpAny_bind (wpAny_callSpecial?_slot (name := Str.ofString "__next__") hit.typeIs F.slot_tuple_iterator_next (wpAny_call_entry F.slot_tuple_iterator_next hit.typeIs F.entry_tuple_iterator_next ?_ (F.args_tuple_iterator_next_1 _)))
  show wpAny _ _ (field (.ref it) 0 >>= _) _ _ s
  refine wpAny_bind (wpAny_field ho hd (x := .ref t) rfl ?_)
  show wpAny _ _ (if (Value.ref t == Value.none) = true then _ else _) _ _ s
  rw [if_neg (show ¬ ((Value.ref t == Value.none) = true) from Bool.false_ne_true)]
  show wpAny _ _ (field (.ref it) 1 >>= _) _ _ s
  refine wpAny_bind (wpAny_field ho hd (x := .int i 0) rfl ?_)
  show wpAny _ _ (seqItems? (.ref t) >>= _) _ _ s
  refine wpAny_bind (wpAny_seqItems hol hdl ?_)
  simp only [Int.toNat_natCast, hx]
  refine wpAny_bind (wpAny_setField ho hd (by simp) (wpAny_pure ⟨x, rfl, wpAny_pure (hQ _ ?_ (Heap.SameBut.update ..))⟩))
  exact ⟨_, Heap.get?_update_self _ ho (Obj.isFreed_of_fields (Obj.data_mapFields hd _)), (Obj.cls_mapFields ..).trans hc, by rw [Obj.data_mapFields hd]; simp [rawInt]⟩
theorem nextOf_tup_end {it t : Addr} {i : Nat} {items : Array Value} {Q : Value → Shared → Prop} (hh : A.handled = none) (hit : s.heap.IsTupleIter it t i) (ht : s.heap.IsTuple t items) (hx : items[i]? = none)
    (hE : ∀ h' e, Heap.ExtBut it s.heap h' → (∃ o, h'.get? e = some o ∧ o.cls = .type "StopIteration") → E (.ref e) { s with heap := h' }) : wpAny (model prog w) A (Builtin.SmallTypes.nextOf (.ref it)) Q E s := by
  obtain ⟨o, ho, hc, hd⟩ := id hit
  obtain ⟨ol, hol, _, nl, hdl⟩ := ht
  unfold Builtin.SmallTypes.nextOf
  refine wpAny_bind (wpAny_callSpecial?_slot (name := Str.ofString "__next__") hit.typeIs F.slot_tuple_iterator_next (wpAny_call_entry F.slot_tuple_iterator_next hit.typeIs F.entry_tuple_iterator_next ?_ (F.args_tuple_iterator_next_1 _)))
  show wpAny _ _ (field (.ref it) 0 >>= _) _ _ s
  refine wpAny_bind (wpAny_field ho hd (x := .ref t) rfl ?_)
  show wpAny _ _ (if (Value.ref t == Value.none) = true then _ else _) _ _ s
  rw [if_neg (show ¬ ((Value.ref t == Value.none) = true) from Bool.false_ne_true)]
  show wpAny _ _ (field (.ref it) 1 >>= _) _ _ s
  refine wpAny_bind (wpAny_field ho hd (x := .int i 0) rfl ?_)
  show wpAny _ _ (seqItems? (.ref t) >>= _) _ _ s
  refine wpAny_bind (wpAny_seqItems hol hdl ?_)
  simp only [Int.toNat_natCast, hx]
  refine wpAny_bind (wpAny_rule (wpAny_bind (wpAny_setField ho hd (by simp) ?_)))
  show wpAny _ _ (newExc (.type "StopIteration") [] >>= _) _ _ _
  refine wpAny_bind ?_
  simp only [newExc, newTuple]
  refine wpAny_bind (wpAny_newObj_type ?_ (by size_fits))
  refine wpAny_bind (m := firstArgMember _ _) (wpAny_of_eq (a := Value.none) (by first | rfl | (simp only [firstArgMember]; rfl)) ?_)
  refine wpAny_newObj_type ?_ (by size_fits)
  simp only [raiseNew]
  refine wpAny_bind (wpAny_handled ?_)
  first | rw [show A.in1.handled = none from hh] | rw [hh]
  refine wpAny_bind (wpAny_pure (wpAny_throw ?_))
  exact hE _ _ (((Heap.SameBut.update ..).extBut.push _).push _) ⟨_, Heap.get?_push_size _ rfl, rfl⟩
theorem draws_tup (hh : A.handled = none) (it l : Addr) (hne : l ≠ it) (items : Array Value) : Draws prog w A it [it, l] items.size (fun i v => items[i]? = some v) (fun i h => h.IsTupleIter it l i ∧ h.IsTuple l items) where
  live := fun _ _ st => let ⟨o, ho, _⟩ := st.1; ⟨o, ho⟩
  frame := fun _ _ _ st hk => ⟨st.1.at fun o e => hk it (by simp) o e, let ⟨o, e, c⟩ := st.2; ⟨o, hk l (by simp) o e, c⟩⟩
  item := fun i s Q E hi st hQ => by
    refine nextOf_tup st.1 st.2 (x := items[i]) (by simp [hi]) fun h' hit' hs' => ?_
    exact hQ _ h' s.toks (by simp [hi]) ⟨hit', let ⟨o, e, c⟩ := st.2; ⟨o, (hs'.2 l hne).trans e, c⟩⟩ hs'
  done := fun s Q E st hE => nextOf_tup_end hh st.1 st.2 (by simp) hE
end
theorem enum_new_tup (l : Addr) (items : Array Value) (n : Nat) (dct : Option Addr) (sl : Array (Option Value)) :
    Meets (Builtin.«enumerate.__new__» ⟨[.type "enumerate", .ref l], []⟩) (fun _ R s => s.heap.get? l = some { cls := .type "tuple", dict := dct, data := .seq items n, slots := sl } ∧
      R (.ok (.ret (.ref (s.heap.push { cls := .type "tuple_iterator", data := .fields #[.ref l, .int 0 0] }).objs.size)))
        { s with heap := (s.heap.push { cls := .type "tuple_iterator", data := .fields #[.ref l, .int 0 0] }).push { cls := .type "enumerate", data := .fields #[.none, .bool false, .ref s.heap.objs.size, rawInt 0, .none, .none] } }) :=
  .of_wp fun prog w A R s h => by
    obtain ⟨hp, g, d, tk, os⟩ := s; obtain ⟨hl, h⟩ := h
    have hsub := sub_enumerate
    have hL : Heap.IsTuple (Shared.heap ⟨hp, g, d, tk, os⟩) l items := ⟨_, hl, rfl, n, rfl⟩
    wp_walk using AutoSeq1.wpAny_loadPart' hl
    refine wpAny_stack_any fun st => wpAny_pure ?_
    split
    · rename_i c _ _ _ _ _
      cases (c == Value.type "enumerate")
      · wp_walk using AutoSeq1.wpAny_loadPart' hl, wpAny_pyIter_tuple hL
        exact ⟨_, rfl, h⟩
      · wp_walk using AutoSeq1.wpAny_loadPart' hl, wpAny_pyIter_tuple hL
        exact ⟨_, rfl, h⟩
    · wp_walk using AutoSeq1.wpAny_loadPart' hl, wpAny_pyIter_tuple hL
      exact ⟨_, rfl, h⟩

section
variable {prog : Program} {w : World} {A : Around} {E : Value → Shared → Prop} {s : Shared}
theorem enum_tup_end {e it l : Addr} {i : Nat} {items : Array Value} {old : Value} {Q : Option Value → Shared → Prop} (hh : A.handled = none) (he : IsEnum s.heap e it i old) (hit : s.heap.IsTupleIter it l i) (hl : s.heap.IsTuple l items) (hx : items[i]? = none)
    (hQ : ∀ h', Heap.ExtBut it s.heap h' → Q none { s with heap := h' }) : wpAny (model prog w) A (pyNext (.ref e)) Q E s := by
  have hT : s.TypeIs (.ref e) "enumerate" := ⟨_, he, rfl⟩
  unfold pyNext
  refine wpAny_bind (wpAny_attempt (wpAny_callSpecial?_slot (name := Str.ofString "__next__") hT F.slot_enumerate_next (wpAny_call_entry F.slot_enumerate_next hT F.entry_enumerate_next ?_ (F.args_enumerate_next_1 _))))
  show wpAny _ _ (field (.ref e) 2 >>= _) _ _ _
  refine wpAny_bind (wpAny_field he rfl (x := .ref it) rfl ?_)
  refine wpAny_bind (nextOf_tup_end hh hit hl hx fun h' x he' hx' => ?_)
  obtain ⟨o, ho, hc⟩ := hx'
  refine wpAny_bind (wpAny_isInstance (T := "StopIteration") (b := true) ⟨o, ho, hc⟩ isSubtype_stop ?_)
  exact wpAny_pure (hQ _ he')
theorem call_enum_tup {l : Addr} {items : Array Value} {Q : Value → Shared → Prop} (hL : s.heap.IsTuple l items)
    (h : ∀ h', IsEnum h' (s.heap.objs.size + 1) s.heap.objs.size 0 .none → h'.IsTupleIter s.heap.objs.size l 0 → (∀ b o, s.heap.get? b = some o → h'.get? b = some o) → Q (.ref (s.heap.objs.size + 1)) { s with heap := h' }) :
    wpAny (model prog w) A (call (.type "enumerate") [.ref l]) Q E s := by
  obtain ⟨⟨c, dct, dt, sl⟩, hl, hc, n, hd⟩ := hL
  replace hc : c = .type "tuple" := hc
  replace hd : dt = .seq items n := hd
  subst hc hd
  refine callType_new F.called_enumerate (by decide) (F.typeCall_enumerate_1 _) (F.newCall_enumerate_1 _) (fun obj => F.args_object_init_2 obj _) F.entry_enumerate_new (enum_new_tup l items n dct sl) ⟨hl, ?_⟩
  have hz : (s.heap.push { cls := .type "tuple_iterator", data := .fields #[.ref l, .int 0 0] }).objs.size = s.heap.objs.size + 1 := Heap.size_push ..
  show _ ∧ _
  rw [hz]
  have he : IsEnum ((s.heap.push { cls := .type "tuple_iterator", data := .fields #[.ref l, .int 0 0] }).push { cls := .type "enumerate", data := .fields #[.none, .bool false, .ref s.heap.objs.size, rawInt 0, .none, .none] }) (s.heap.objs.size + 1) s.heap.objs.size 0 .none := by
    have := Heap.get?_push_size (s.heap.push { cls := .type "tuple_iterator", data := .fields #[.ref l, .int 0 0] }) (o := { cls := .type "enumerate", data := .fields #[.none, .bool false, .ref s.heap.objs.size, rawInt 0, .none, .none] }) rfl
    rw [hz] at this
    exact this
  exact ⟨⟨_, he, rfl⟩, h _ he ⟨_, Heap.get?_push_of_some _ (Heap.get?_push_size _ rfl), rfl, rfl⟩ fun b o x => Heap.get?_push_of_some _ (Heap.get?_push_of_some _ x)⟩
end
/-- at turn i a new pair (i, the i-th thing of the tuple) -/
def IteT (K : PySem.W.Frag) (a : Addr) : It :=
  ⟨fun i H => ∃ xs x, SqT K H a xs ∧ xs[i]? = some x, fun i H y H' => ∃ p x, H p = none ∧ y = .ref p ∧ H' = upd H p (.tup [.int i, x]) ∧ ∀ xs, SqT K H a xs → xs[i]? = some x, fun i H => ∃ xs, SqT K H a xs ∧ xs.length ≤ i⟩
theorem turn_enumT {P : Program} {w : World} {K : PySem.W.Frag} {es : List Expr} {x1} {pos : Pos} (a it e : Addr) (hne : e ≠ it) : Turn P w K (.Tuple es x1 pos) (IteT K a) [e, it] e (fun i h => (∃ old, IsEnum h e it (i : Nat) old) ∧ h.IsTupleIter it a i) where
  mem := by simp
  obj := fun i h st b hb => by
    obtain ⟨⟨old, s1⟩, s2⟩ := st
    rcases List.mem_cons.mp hb with z | z
    · subst z
      exact ⟨_, s1, fun v z => nomatch z⟩
    · have z : b = it := by simpa using z
      subst z
      obtain ⟨o, e, c, d⟩ := s2
      exact ⟨o, e, fun v z => by rw [d] at z; cases z⟩
  keep := fun i h h' st k => by
    obtain ⟨⟨old, s1⟩, s2⟩ := st
    exact ⟨⟨old, k e (by simp) _ s1⟩, s2.at fun o q => k it (by simp) o q⟩
  item := by
    intro X hP hw hK hc i pins s σ H E I hf st hg
    subst hP hw hK
    obtain ⟨xs, x, hq, hx⟩ := hg
    obtain ⟨its, rv, p, hz⟩ := I.tuple hq
    obtain ⟨u, hu, ru⟩ := rv.get hx
    obtain ⟨⟨old, s1⟩, s2⟩ := st
    have hlt : (i : Nat) < its.toArray.size := by
      have := (List.getElem?_eq_some_iff.mp hu).1
      simpa using this
    have nea : a ≠ it := by
      rintro rfl
      obtain ⟨o1, q1, c1, _⟩ := p
      obtain ⟨o2, q2, c2, _⟩ := id s2
      rw [q1] at q2; cases q2
      rw [c1] at c2
      injection c2 with z
      exact absurd z (by decide)
    have nee : a ≠ e := by
      rintro rfl
      obtain ⟨o1, q1, c1, _⟩ := p
      have s1' : s.heap.get? a = some _ := s1
      rw [q1] at s1'
      cases s1'
      injection c1 with z
      exact absurd z (by decide)
    have it2 : s.heap.IsTuple a its.toArray := p
    refine wpAny_pyNext_enum_itemD (draws_tup (A := X.A.in1) (I.ok.hd hc) it a nea its.toArray) s1 ⟨s2, it2⟩ hlt hne (by simp [hne, Ne.symm nee]) fun u' h' tk' hu' ho hst ht hsz hk => ?_
    have eu : u' = u := by
      have : its.toArray[i]? = some u := by simpa using hu
      rw [this] at hu'
      exact (Option.some.inj hu').symm
    subst eu
    have hit := hst.1
    refine ⟨_, rfl, ?_⟩
    refine wpAny_letOwnedTupleGo_enum ho fun h'' he hs => ?_
    have fresh : H s.heap.objs.size = none := I.hok.fresh (Nat.le_refl _)
    have k : ∀ b o, b ∉ [e, it] → s.heap.get? b = some o → h''.get? b = some o := fun b o hb q => by
      have hb' : b ≠ e ∧ b ≠ it := by simpa using hb
      exact (hs.2 b hb'.1).trans (hk b o hb'.1 hb'.2 q)
    have nE : ∀ b ∈ [e, it], H b = none := fun b hb => (hf b hb).1
    have nit : ∀ b u, H b = some u → b ∉ [e, it] := fun b u q z => by rw [nE b z] at q; cases q
    have hpe : s.heap.objs.size ≠ e := Nat.ne_of_gt (Heap.lt_size s1)
    have htup : h''.get? s.heap.objs.size = some { cls := .type "tuple", data := .seq #[.int i tk', u'] } := (hs.2 _ hpe).trans ht
    have newOk : ObjOk X.prog X.w (upd H s.heap.objs.size (.tup [.int i, x])) h'' s.heap.objs.size (.tup [.int i, x]) := by
      refine ⟨?_, [.int i tk', u'], .cons ⟨_, rfl⟩ (.cons ru .nil), ⟨_, htup, rfl, rfl, 0, rfl⟩⟩
      show 2 ≤ sizeLine
      decide
    have I1 : Inv X pins σ (upd H s.heap.objs.size (.tup [.int i, x])) { s with heap := h'', toks := tk' + 1 } := by
      refine I.step (g' := s.gens) (d' := s.drawn) (ch := [e, it]) (fun b hb => ?_) (fun b o _ _ hc q _ => k b o hc q) (fun b o _ _ hc q _ => ⟨o.slots, k b o hc q⟩) (fun b o _ q n => ?_) (fun b o hc q => ⟨o, k b o hc q⟩)
        (fun b xs q => by rw [upd_ne (ne_of_none q fresh)]; exact q) (fun b o xs q => by rw [upd_ne (ne_of_none q fresh)]; exact q) (fun b ps q => ⟨#[], by rw [upd_ne (ne_of_none q fresh), q]; simp⟩) (fun m hm => ?_) (fun b ob q => ?_) I.bare
      · obtain ⟨f0, f1, f2, f3, f4, f5⟩ := hf b hb
        exact ⟨f3, f1, f4, f5⟩
      · rw [upd_ne (Nat.ne_of_lt (Heap.lt_size q))]
        exact n
      · obtain ⟨o, es, ep, ho, r⟩ := hm
        refine ⟨o, es, ep, k _ o (fun z => ?_) ho, r⟩
        exact (hf _ z).2.1 rfl
      · by_cases hb : b = s.heap.objs.size
        · subst hb
          rw [upd_same] at q; cases q
          exact newOk
        · rw [upd_ne hb] at q
          refine (I.hok b ob q).stay (fun c v hc r => k c v ?_ r) (fun c r => by rw [upd_ne (ne_of_none r fresh)]; exact r) fun c xs r => by rw [upd_ne (ne_of_none r fresh)]; exact r
          rcases hc with z | z
          · rw [z]; exact nit b ob q
          · exact nit c _ z
    refine ⟨.ref s.heap.objs.size, _, I1, rfl, ⟨s.heap.objs.size, x, fresh, rfl, rfl, fun ys hy => by rw [I.tuple_inj hy hq]; exact hx⟩, ⟨⟨u', ?_⟩, ?_⟩, fun b hb => ?_⟩
    · have he : IsEnum h'' e it ((i : Int) + 1) u' := he
      show IsEnum h'' e it ((i + 1 : Nat) : Int) u'
      rw [show ((i + 1 : Nat) : Int) = (i : Int) + 1 by omega]
      exact he
    · exact hit.extBut hs.extBut (Ne.symm hne)
    · have lt : b < s.heap.objs.size := by
        rcases List.mem_cons.mp hb with z | z
        · rw [z]; exact Heap.lt_size s1
        · have z : b = it := by simpa using z
          rw [z]
          obtain ⟨o, q, _⟩ := s2
          exact Heap.lt_size q
      rw [upd_ne (Nat.ne_of_lt lt)]
      exact nE b hb
  done := by
    intro X hP hw hK hc i pins s σ H E I hf st hg
    subst hP hw hK
    obtain ⟨xs, hq, hx⟩ := hg
    obtain ⟨its, rv, p, hz⟩ := I.tuple hq
    obtain ⟨⟨old, s1⟩, s2⟩ := st
    obtain ⟨f0, f1, f2, f3, f4, f5⟩ := hf it (by simp)
    have hl := rv.length
    exact enum_tup_end (I.ok.hd hc) s1 s2 (show s.heap.IsTuple a its.toArray from p) (by simp; omega) fun h' eb => ⟨rfl, I.turned (t' := s.toks) (fun b o hb q => eb b o hb q) f0 f1 f3 f4 f5⟩
  self := fun _ _ _ _ _ st h => by
    obtain ⟨⟨old, s1⟩, _⟩ := st
    exact wpAny_pyIter_enum s1 h

def SqB (b : Bool) (K : PySem.W.Frag) (H : Hp) (a : Addr) (xs : List V) : Prop := match b with | true => SqL K H a xs | false => SqT K H a xs
def IteB (b : Bool) (K : PySem.W.Frag) (a : Addr) : It := match b with | true => Ite K a | false => IteT K a
/-- enumerate of a list or a tuple -/
def iEnumB (K : PySem.W.Frag) (ta : TA) : TI := fun σ H R => ta σ H fun vs H1 => ∃ a b, vs = [.ref a] ∧ (∃ xs, SqB b K H1 a xs) ∧ R (IteB b K a) H1
theorem pi_enumB {X : Cx} {es : List Expr} {x1} {tpos : Pos} {e : Expr} {ta : TA} {p pos : Pos} (hg : Gl X "enumerate") (hm : X.mg "enumerate" = none) (ha : PA X [e] ta) (hs : starEach [e] X.env = [(false, eval e X.env)] := by rfl) :
    PI X (.Tuple es x1 tpos) (.Call (.Name "enumerate" p) [e] [] pos) (iEnumB X.K ta) := by
  intro pins s σ H R I h
  refine Call_ (ld_blt I hg hm (show bootBuiltins "enumerate" = some (.type "enumerate") by decide +kernel) (PyProof.Rows.callWith_type1 (thn (ha pos pins s σ H _ I h) fun us s1 ⟨vs, H1, I1, r1, q1⟩ => ?_) hs rfl))
  obtain ⟨a, b, e1, ⟨xs, hq⟩, q⟩ := q1
  subst e1
  obtain ⟨u, rfl, r⟩ := vals1 r1
  cases r
  have fp : ∀ b ∈ [s1.heap.objs.size + 1, s1.heap.objs.size], FpOk X pins H1 b := fun b hb => by
    have ge : s1.heap.objs.size ≤ b := by
      rcases List.mem_cons.mp hb with z | z
      · rw [z]; exact Nat.le_succ _
      · have z : b = s1.heap.objs.size := by simpa using z
        rw [z]
        exact Nat.le_refl _
    exact I1.fpOk ge (I1.hok.fresh ge)
  cases b with
  | true =>
    obtain ⟨its, rv, pl, hz⟩ := I1.list hq
    refine call_enumerate_list pl.isList fun h' he hi hsz k => wpAny_pyIter_enum he ?_
    exact ⟨s1.heap.objs.size + 1, [s1.heap.objs.size + 1, s1.heap.objs.size], _, _, H1, rfl, I1.kept (t' := s1.toks) k, turn_enum a s1.heap.objs.size _ (Nat.ne_of_gt (Nat.lt_succ_self _)), ⟨⟨.none, he⟩, hi⟩, fp, q⟩
  | false =>
    obtain ⟨its, rv, pl, hz⟩ := I1.tuple hq
    refine call_enum_tup (show s1.heap.IsTuple a its.toArray from pl) fun h' he hi k => wpAny_pyIter_enum he ?_
    exact ⟨s1.heap.objs.size + 1, [s1.heap.objs.size + 1, s1.heap.objs.size], _, _, H1, rfl, I1.kept (t' := s1.toks) k, turn_enumT a s1.heap.objs.size _ (Nat.ne_of_gt (Nat.lt_succ_self _)), ⟨⟨.none, he⟩, hi⟩, fp, q⟩
/-- over enumerate of a list or tuple that the body leaves as it is -/
theorem for_enumB {b : Bool} {K : PySem.W.Frag} {a : Addr} {xs : List V} {g : TG} {tb : TS} {D : Ends} {σ : St} {H : Hp} (Pv : Nat → St → Hp → Prop) (h0 : Pv 0 σ H) (hl : ∀ i σ H, i ≤ xs.length → Pv i σ H → SqB b K H a xs)
    (hs : ∀ i x p σ H, xs[i]? = some x → Pv i σ H → H p = none → g (.ref p) σ (upd H p (.tup [.int i, x])) fun σ2 H2 => tb { D with nx := Pv (i + 1), ct := Pv (i + 1), bk := D.nx } σ2 H2) (hd : ∀ σ H, Pv xs.length σ H → D.nx σ H) :
    ∃ W : Nat → Nat → St → Hp → Prop, (∃ m, W 0 m σ H) ∧ ∀ i m σ H, W i m σ H →
      ((IteB b K a).stop i H ∧ D.nx σ H) ∨ ((IteB b K a).go i H ∧ ∃ N : St → Hp → Prop, (∀ σ' H', N σ' H' → ∃ m', m' < m ∧ W (i + 1) m' σ' H') ∧ ∀ x H', (IteB b K a).yld i H x H' → g x σ H' fun σ2 H2 => tb { D with nx := N, ct := N, bk := D.nx } σ2 H2) := by
  refine ⟨fun i m σ H => m = xs.length - i ∧ i ≤ xs.length ∧ Pv i σ H, ⟨xs.length, by simp, Nat.zero_le _, h0⟩, ?_⟩
  rintro i m σ H ⟨rfl, hi, p⟩
  have q := hl i σ H hi p
  by_cases hlt : i < xs.length
  · have gx : xs[i]? = some xs[i] := by simp [hlt]
    refine .inr ⟨by cases b <;> exact ⟨xs, xs[i], q, gx⟩, Pv (i + 1), fun σ' H' p' => ⟨xs.length - (i + 1), by omega, rfl, hlt, p'⟩, fun x H' y => ?_⟩
    have y : ∃ pa z, H pa = none ∧ x = .ref pa ∧ H' = upd H pa (.tup [.int i, z]) ∧ xs[i]? = some z := by
      cases b with
      | true => obtain ⟨pa, z, hp, e1, e2, y⟩ := y; exact ⟨pa, z, hp, e1, e2, y xs q⟩
      | false => obtain ⟨pa, z, hp, e1, e2, y⟩ := y; exact ⟨pa, z, hp, e1, e2, y xs q⟩
    obtain ⟨pa, z, hp, e1, e2, y'⟩ := y
    subst e1 e2
    exact hs i z pa σ H y' p hp
  · have e : i = xs.length := by omega
    subst e
    exact .inl ⟨by cases b <;> exact ⟨xs, q, Nat.le_refl _⟩, hd σ H p⟩
/-! ### list.insert -/
def rInsert : V → List V → Hp → VK → Prop := fun x vs H Q => ∃ (l : Addr) (xs : List V) (i : Int) (y : V), x = .ref l ∧ vs = [.int i, y] ∧ H l = some (.lst xs) ∧ -(2 ^ 63) ≤ i ∧ i < 2 ^ 63 ∧ xs.length < sizeLine ∧
  Q .non (upd H l (.lst (xs.take (if i < 0 then (i + (xs.length : Int)).toNat else min i.toNat xs.length) ++ y :: xs.drop (if i < 0 then (i + (xs.length : Int)).toNat else min i.toNat xs.length))))
theorem mt_insert {X : Cx} : MtM X "list.insert" rInsert := by
  intro pins s σ H x vs v us Q I rx rv h
  obtain ⟨l, xs, i, y, rfl, rfl, hH, i0, i1, hz, q⟩ := h
  cases rx
  obtain ⟨u1, u2, rfl, ⟨t, rfl⟩, r2⟩ := vals2 rv
  obtain ⟨z, its, n, r, hl, e⟩ := I.lstM hH
  have hfit : ¬ (!Builtin.List.listFitsIndex i) = true := by
    unfold Builtin.List.listFitsIndex
    simp
    omega
  refine call_meets F.slot_list_insert ⟨_, e, rfl⟩ F.entry_list_insert (F.args_list_insert_3 _ _ _) (AutoListH.list_insert_list_int_val_1 l its.toArray n i t u2 hfit (by rw [List.size_toArray]; omega)) ⟨e, ?_⟩
  refine ⟨.non, _, I.lset (its' := its.take (if i < 0 then (i + (its.length : Int)).toNat else min i.toNat its.length) ++ u2 :: its.drop (if i < 0 then (i + (its.length : Int)).toNat else min i.toNat its.length)) hH e ?_ ?_ ?_, rfl, q⟩
  · dsimp only
    rw [List.size_toArray, ← Array.toList_inj]
    simp
    exact List.take_of_length_le (by rw [List.length_drop]; exact Nat.le_refl _)
  · rw [hl]
    exact (r.take _).append (.cons r2 (r.drop _))
  · rw [List.length_append, List.length_cons, List.length_take, List.length_drop]
    omega
end L2

set_option Elab.async false
set_option linter.all false
set_option maxRecDepth 100000
set_option maxHeartbeats 4000000
namespace L2
open PySem PySem.Spec PyProof.Rows PySem.SeqAt
section
variable {X : Cx}
theorem range_any {bs : List Bool} : (List.range bs.length).any (fun i => bs.getD i true) = bs.any id := by
  rw [Bool.eq_iff_iff, List.any_eq_true, List.any_eq_true]
  constructor
  · rintro ⟨i, hi, h⟩
    have hi' := List.mem_range.mp hi
    exact ⟨bs[i], List.getElem_mem hi', by simpa [List.getD_eq_getElem?_getD, hi'] using h⟩
  · rintro ⟨b, hb, h⟩
    obtain ⟨i, hi, e⟩ := List.getElem_of_mem hb
    exact ⟨i, List.mem_range.mpr hi, by simpa [List.getD_eq_getElem?_getD, hi, e] using h⟩
/-- any(..) of a list of bools -/
theorem call_any (hc : X.calm = true) : CallR X (.builtin "any") (fun xs H Q => ∃ (a : Addr) (bs : List Bool), xs = [.ref a] ∧ SqL X.K H a (bs.map V.bl) ∧ Q (.bl (bs.any id)) H) := by
  intro pins s σ H xs us Q I r h
  obtain ⟨a, bs, rfl, hq, q⟩ := h
  obtain ⟨u, rfl, r1⟩ := vals1 r
  cases r1
  obtain ⟨its, rv, p, hz⟩ := I.list hq
  refine call_any_walk (wpAny_pyIter_list p.isList ?_)
  have hlt := (let ⟨o, n, e, _⟩ := p; Heap.lt_size e : a < s.heap.objs.size)
  have hne : a ≠ s.heap.objs.size := Nat.ne_of_lt hlt
  have hlen : its.toArray.size = bs.length := by rw [List.size_toArray, ← rv.length, List.length_map]
  refine ⟨s.heap.objs.size, _, _, _, _, _, fun i => bs.getD i true, rfl, Walks.list (A := X.A.in1) (I.ok.hd hc) _ a hne its.toArray, ⟨⟨_, Heap.get?_push_size _ rfl, rfl, rfl⟩, ?_⟩, ?_, ?_⟩
  · obtain ⟨o, n, e, c, _, d⟩ := p
    exact ⟨o, Heap.get?_push_of_some _ e, c, n, d⟩
  · intro i v s' Q' E' hP hQ
    have hP' : its[i]? = some v := by simpa using hP
    obtain ⟨b, hb, rfl⟩ := rv.bl_get hP'
    refine wpAny_truthy_bool ?_
    dsimp only at hQ
    rw [List.getD_eq_getElem?_getD, hb] at hQ
    exact hQ
  · intro h' tk k
    rw [hlen, range_any]
    refine ⟨.bl (bs.any id), H, I.kept (h' := h') (t' := tk) fun b o e => k b o ?_ (Heap.get?_push_of_some _ e), rfl, q⟩
    intro hm
    have : b = s.heap.objs.size := by simpa using hm
    rw [this] at e
    exact absurd (Heap.lt_size e) (Nat.lt_irrefl _)
theorem argBest_min (f : Nat → Int) : ∀ k i, i ≤ k → f (argBest (fun i j => decide (f i < f j)) k) ≤ f i
  | 0, i, h => by
    have : i = 0 := by omega
    subst this
    exact Int.le_refl _
  | k + 1, i, h => by
    unfold argBest
    by_cases e : f (k + 1) < f (argBest (fun i j => decide (f i < f j)) k)
    · rw [if_pos (decide_eq_true e)]
      by_cases hi : i = k + 1
      · subst hi; exact Int.le_refl _
      · have := argBest_min f k i (by omega)
        omega
    · rw [if_neg (by simpa using e)]
      by_cases hi : i = k + 1
      · subst hi; omega
      · exact argBest_min f k i (by omega)
theorem preSum_take (ns : List Int) : ∀ k, k ≤ ns.length → preSum (fun i => ns.getD i 0) k = (ns.take k).sum
  | 0, _ => by simp [preSum]
  | k + 1, h => by
    have hk : k < ns.length := by omega
    rw [List.take_succ_eq_append_getElem hk, List.sum_append, ← preSum_take ns k (by omega)]
    simp [preSum, List.getD_eq_getElem?_getD, hk]
/-- sum(..) of a list of ints -/
theorem call_sumI (hc : X.calm = true) : CallR X (.builtin "sum") (fun xs H Q => ∃ (a : Addr) (ns : List Int), xs = [.ref a] ∧ SqL X.K H a (ns.map V.int) ∧ Q (.int ns.sum) H) := by
  intro pins s σ H xs us Q I r h
  obtain ⟨a, ns, rfl, hq, q⟩ := h
  obtain ⟨u, rfl, r1⟩ := vals1 r
  cases r1
  obtain ⟨its, rv, p, hz⟩ := I.list hq
  refine call_sum_walkG (wpAny_pyIter_list p.isList ?_)
  have hlt := (let ⟨o, n, e, _⟩ := p; Heap.lt_size e : a < s.heap.objs.size)
  have hne : a ≠ s.heap.objs.size := Nat.ne_of_lt hlt
  have hlen : its.toArray.size = ns.length := by rw [List.size_toArray, ← rv.length, List.length_map]
  refine ⟨s.heap.objs.size, _, _, _, _, _, fun i => ns.getD i 0, rfl, Walks.list (A := X.A.in1) (I.ok.hd hc) _ a hne its.toArray, ⟨⟨_, Heap.get?_push_size _ rfl, rfl, rfl⟩, ?_⟩, ?_, ?_, ?_⟩
  · obtain ⟨o, n, e, c, _, d⟩ := p
    exact ⟨o, Heap.get?_push_of_some _ e, c, n, d⟩
  · intro b hb
    rcases List.mem_cons.mp hb with z | z
    · rw [z, Heap.size_push]; exact Nat.lt_succ_self _
    · have z : b = a := by simpa using z
      rw [z, Heap.size_push]
      exact Nat.lt_succ_of_lt hlt
  · intro i v e
    have hi : i < its.toArray.size := (Array.getElem?_eq_some_iff.mp e).1
    obtain ⟨t, q⟩ := ints_at rv hi
    rw [Array.getElem?_eq_getElem hi] at e
    have e' := Option.some.inj e
    rw [q] at e'
    exact ⟨t, e'.symm⟩
  · intro h' tk t' k
    refine ⟨.int ns.sum, H, I.kept (h' := h') (t' := tk) fun b o e => k b o ?_ (Heap.get?_push_of_some _ e), ⟨t', ?_⟩, q⟩
    · intro hm
      have : b = s.heap.objs.size := by simpa using hm
      rw [this] at e
      exact absurd (Heap.lt_size e) (Nat.lt_irrefl _)
    · rw [hlen, preSum_take ns _ (Nat.le_refl _), List.take_length]
end
end L2

set_option Elab.async false
set_option linter.all false
set_option maxRecDepth 100000
set_option maxHeartbeats 4000000
namespace L2
open PySem PySem.Spec PyProof.Rows PySem.SeqAt
section
variable {X : Cx}
theorem vals_of_ints {ns : List Int} : ∀ {us : List Value}, IntsAre us ns → Vals (ns.map V.int) us := by
  intro us h
  induction h with
  | nil => exact .nil
  | cons => rename_i ih; exact .cons ⟨_, rfl⟩ ih
end
end L2

set_option Elab.async false
set_option linter.all false
set_option maxRecDepth 100000
set_option maxHeartbeats 4000000
namespace L2
open PySem PySem.Spec PyProof.Rows PySem.SeqAt
/-- the records at fp have turned and a new pair lies behind all -/
theorem Inv.pairOut {X : Cx} {pins : List (Addr × Obj)} {σ : St} {H : Hp} {s : Shared} {h' : Heap} {fp : List Addr} {x y : V} {u v : Value} {tk : Nat} (I : Inv X pins σ H s) (hf : ∀ b ∈ fp, FpOk X pins H b)
    (k : ∀ b o, b ∉ fp → s.heap.get? b = some o → h'.get? b = some o) (ht : IsPair h' s.heap.objs.size u v) (hlf : ∀ b ∈ fp, b < s.heap.objs.size) (hth : ∀ b ∈ fp, ∃ o, h'.get? b = some o) (rx : RelV x u) (ry : RelV y v) :
    Inv X pins σ (upd H s.heap.objs.size (.tup [x, y])) { s with heap := h', toks := tk } := by
  have fresh : H s.heap.objs.size = none := I.hok.fresh (Nat.le_refl _)
  have nit : ∀ b o, H b = some o → b ∉ fp := fun b o q z => by rw [(hf b z).1] at q; cases q
  have newOk : ObjOk X.prog X.w (upd H s.heap.objs.size (.tup [x, y])) h' s.heap.objs.size (.tup [x, y]) := by
    refine ⟨?_, [u, v], .cons rx (.cons ry .nil), ⟨_, ht, rfl, rfl, 0, rfl⟩⟩
    show 2 ≤ sizeLine
    decide
  refine I.step (g' := s.gens) (d' := s.drawn) (ch := fp) (fun b hb => ?_) (fun b o _ _ hc q _ => k b o hc q) (fun b o _ _ hc q _ => ⟨o.slots, k b o hc q⟩) (fun b o _ q n => ?_) (fun b o hc q => ⟨o, k b o hc q⟩)
    (fun b xs q => by rw [upd_ne (ne_of_none q fresh)]; exact q) (fun b o xs q => by rw [upd_ne (ne_of_none q fresh)]; exact q) (fun b ps q => ⟨#[], by rw [upd_ne (ne_of_none q fresh), q]; simp⟩) (fun m hm => ?_) (fun b ob q => ?_) I.bare
  · obtain ⟨f0, f1, f2, f3, f4, f5⟩ := hf b hb
    exact ⟨f3, f1, f4, f5⟩
  · rw [upd_ne (Nat.ne_of_lt (Heap.lt_size q))]
    exact n
  · obtain ⟨o, es, ep, ho, r⟩ := hm
    exact ⟨o, es, ep, k _ o (fun z => (hf _ z).2.1 rfl) ho, r⟩
  · by_cases hb : b = s.heap.objs.size
    · subst hb
      rw [upd_same] at q; cases q
      exact newOk
    · rw [upd_ne hb] at q
      refine (I.hok b ob q).stay (fun c v hc r => k c v ?_ r) (fun c r => by rw [upd_ne (ne_of_none r fresh)]; exact r) fun c xs r => by rw [upd_ne (ne_of_none r fresh)]; exact r
      rcases hc with z | z
      · rw [z]; exact nit b ob q
      · exact nit c _ z
/-- several untracked records of ours have turned -/
theorem Inv.turnedAll {X : Cx} {pins : List (Addr × Obj)} {σ : St} {H : Hp} {s : Shared} {h' : Heap} {fp : List Addr} {tk : Nat} (I : Inv X pins σ H s) (hf : ∀ b ∈ fp, FpOk X pins H b) (k : ∀ b o, b ∉ fp → s.heap.get? b = some o → h'.get? b = some o) :
    Inv X pins σ H { s with heap := h', toks := tk } := by
  have nit : ∀ b o, H b = some o → b ∉ fp := fun b o q z => by rw [(hf b z).1] at q; cases q
  refine I.step (g' := s.gens) (d' := s.drawn) (ch := fp) (fun b hb => ?_) (fun b o _ _ hc q _ => k b o hc q) (fun b o _ _ hc q _ => ⟨o.slots, k b o hc q⟩) (fun b o _ q n => n) (fun b o hc q => ⟨o, k b o hc q⟩) (fun _ _ q => q) (fun _ _ _ q => q) (fun b ps q => ⟨#[], by rw [q]; simp⟩) (fun m hm => ?_) (fun b ob q => ?_) I.bare
  · obtain ⟨f0, f1, f2, f3, f4, f5⟩ := hf b hb
    exact ⟨f3, f1, f4, f5⟩
  · obtain ⟨o, es, ep, ho, r⟩ := hm
    exact ⟨o, es, ep, k _ o (fun z => (hf _ z).2.1 rfl) ho, r⟩
  · refine (I.hok b ob q).stay (fun c v hc r => k c v ?_ r) (fun _ q => q) fun _ _ q => q
    rcases hc with z | z
    · rw [z]; exact nit b ob q
    · exact nit c _ z
end L2

set_option Elab.async false
set_option linter.all false
set_option maxRecDepth 100000
set_option maxHeartbeats 4000000
namespace L2
open PySem PySem.Spec PyProof.Rows PySem.SeqAt
section
variable {X : Cx}
/-! ### ints of many bits -/
theorem op_fdivB : OpR X (binaryOp .FloorDiv) (rI (fun _ j => 0 < j ∧ Builtin.Int.intBits j ≤ 8000) fun i j => .int (i / j)) := opI fun i j _ _ _ _ _ hc q => by
  have h1 : (0 : Int) < j := hc.1
  have h2 : j.natAbs < 2 ^ 8000 := intBits_le_iff.mp hc.2
  refine floordiv_int (by omega) (by rw [Int.fdiv_eq_ediv_of_nonneg i (by omega)]; exact q) (.inl (PyProof.noPylong_of_log2 ?_))
  have h3 : j.natAbs.log2 < 8000 := (Nat.log2_lt (by omega)).mpr h2
  omega
/-! ### tuples of ints compared -/
theorem range_eqT {ns ms : List Int} : (((List.range (min ns.length ms.length)).all fun i => ns.getD i 0 == ms.getD i 0) && (ns.length == ms.length)) = decide (ns = ms) := by
  by_cases h : ns.length = ms.length
  · rw [← h, Nat.min_self, range_eq h]
    simp
  · rw [decide_eq_false (fun z => h (by rw [z]))]
    simp [h]
def rEqT (K : PySem.W.Frag) : R2 := fun x y H Q => ∃ (a b : Addr) (ns ms : List Int), x = .ref a ∧ y = .ref b ∧ SqT K H a (ns.map V.int) ∧ SqT K H b (ms.map V.int) ∧ Q (.bl (decide (ns = ms))) H
def rNeT (K : PySem.W.Frag) : R2 := fun x y H Q => ∃ (a b : Addr) (ns ms : List Int), x = .ref a ∧ y = .ref b ∧ SqT K H a (ns.map V.int) ∧ SqT K H b (ms.map V.int) ∧ Q (.bl (!decide (ns = ms))) H
theorem op_eqT (hu : X.A.units < cLine) : OpR X (compareOp .Eq) (rEqT X.K) := by
  intro pins s σ H x y v u Q I rx ry h
  obtain ⟨a, b, ns, ms, rfl, rfl, ha, hb, q⟩ := h
  cases rx
  cases ry
  obtain ⟨its, r1, p1, _⟩ := I.tuple ha
  obtain ⟨its2, r2, p2, _⟩ := I.tuple hb
  have l1 : its.toArray.size = ns.length := by rw [List.size_toArray, ← r1.length, List.length_map]
  have l2 : its2.toArray.size = ms.length := by rw [List.size_toArray, ← r2.length, List.length_map]
  refine eq_tupleAt (e := fun i => ns.getD i 0 == ms.getD i 0) (show s.heap.IsTuple a its.toArray from p1) (show s.heap.IsTuple b its2.toArray from p2) hu (fun j h1 h2 => ?_) ?_
  · obtain ⟨t1, e1⟩ := ints_at r1 h1
    obtain ⟨t2, e2⟩ := ints_at r2 h2
    rw [e1, e2]
    exact EqAt.int_int _ _ _ _
  · rw [l1, l2, range_eqT]
    exact ⟨.bl _, H, I, rfl, q⟩
theorem op_neT (hu : X.A.units < cLine) : OpR X (compareOp .NotEq) (rNeT X.K) := by
  intro pins s σ H x y v u Q I rx ry h
  obtain ⟨a, b, ns, ms, rfl, rfl, ha, hb, q⟩ := h
  cases rx
  cases ry
  obtain ⟨its, r1, p1, _⟩ := I.tuple ha
  obtain ⟨its2, r2, p2, _⟩ := I.tuple hb
  have l1 : its.toArray.size = ns.length := by rw [List.size_toArray, ← r1.length, List.length_map]
  have l2 : its2.toArray.size = ms.length := by rw [List.size_toArray, ← r2.length, List.length_map]
  refine RcNeAt.tuples (e := fun i => ns.getD i 0 == ms.getD i 0) (show s.heap.IsTuple a its.toArray from p1) (show s.heap.IsTuple b its2.toArray from p2) hu (fun j h1 h2 => ?_) _ _ _ _ ?_
  · obtain ⟨t1, e1⟩ := ints_at r1 h1
    obtain ⟨t2, e2⟩ := ints_at r2 h2
    rw [e1, e2]
    exact EqAt.int_int _ _ _ _
  · rw [l1, l2, range_eqT]
    exact ⟨.bl _, H, I, rfl, q⟩
/-! ### sum(..) of a tuple of ints -/
theorem call_sumT (hc : X.calm = true) : CallR X (.builtin "sum") (fun xs H Q => ∃ (a : Addr) (ns : List Int), xs = [.ref a] ∧ SqT X.K H a (ns.map V.int) ∧ Q (.int ns.sum) H) := by
  intro pins s σ H xs us Q I r h
  obtain ⟨a, ns, rfl, hq, q⟩ := h
  obtain ⟨u, rfl, r1⟩ := vals1 r
  cases r1
  obtain ⟨its, rv, p0, hz⟩ := I.tuple hq
  have p : s.heap.IsTuple a its.toArray := p0
  refine call_sum_walkG (wpAny_pyIter_tuple p ?_)
  have hlt : a < s.heap.objs.size := by obtain ⟨o, e, _⟩ := p; exact Heap.lt_size e
  have hne : a ≠ s.heap.objs.size := Nat.ne_of_lt hlt
  have hlen : its.toArray.size = ns.length := by rw [List.size_toArray, ← rv.length, List.length_map]
  refine ⟨s.heap.objs.size, _, _, _, _, _, fun i => ns.getD i 0, rfl, Walks.tuple (A := X.A.in1) (I.ok.hd hc) _ a hne its.toArray, ⟨⟨_, Heap.get?_push_size _ rfl, rfl, rfl⟩, ?_⟩, ?_, ?_, ?_⟩
  · obtain ⟨o, e, c, d⟩ := p
    exact ⟨o, Heap.get?_push_of_some _ e, c, d⟩
  · intro b hb
    rcases List.mem_cons.mp hb with z | z
    · rw [z, Heap.size_push]; exact Nat.lt_succ_self _
    · have z : b = a := by simpa using z
      rw [z, Heap.size_push]
      exact Nat.lt_succ_of_lt hlt
  · intro i v e
    have hi : i < its.toArray.size := (Array.getElem?_eq_some_iff.mp e).1
    obtain ⟨t, q⟩ := ints_at rv hi
    rw [Array.getElem?_eq_getElem hi] at e
    have e' := Option.some.inj e
    rw [q] at e'
    exact ⟨t, e'.symm⟩
  · intro h' tk t' k
    refine ⟨.int ns.sum, H, I.kept (h' := h') (t' := tk) fun b o e => k b o ?_ (Heap.get?_push_of_some _ e), ⟨t', ?_⟩, q⟩
    · intro hm
      have : b = s.heap.objs.size := by simpa using hm
      rw [this] at e
      exact absurd (Heap.lt_size e) (Nat.lt_irrefl _)
    · rw [hlen, preSum_take ns _ (Nat.le_refl _), List.take_length]
/-! ### f(e, .., k = v), f a built-in function -/
def tCBK (r : List V → List V → Hp → VK → Prop) (t tk : TA) : TE := fun σ H Q => t σ H fun vs H1 => tk σ H1 fun zs H2 => r vs zs H2 Q
def CallKR (X : Cx) (id : String) (ks : List Str) (r : List V → List V → Hp → VK → Prop) : Prop :=
  ∀ (pins : List (Addr × Obj)) (s : Shared) (σ : St) (H : Hp) (xs zs : List V) (us ws : List Value) (Q : VK), Inv X pins σ H s → Vals xs us → Vals zs ws → r xs zs H Q → wpAny (model X.prog X.w) X.A (call (.builtin id) us (ks.zip ws)) (EP X pins σ Q) X.xe s
theorem pe_callBK {id : String} {ks : List Str} {r : List V → List V → Hp → VK → Prop} {x : Str} {e : Expr} {es : List Expr} {kws : List Keyword} {t tk : TA} {p pos : Pos} (hc : CallKR X id ks r) (hg : Gl X x) (hm : X.mg x = none) (hv : bootBuiltins x = some (.builtin id)) (ha : PA X (e :: es) t) (hkw : PK X kws tk)
    (hks : (backToKw pos (keywordEach kws X.env)).filterMap (·.1) = ks := by rfl) (hn : x ≠ "__name__" := by decide) (hdb : (x == ("__debug__" : Str)) = false := by decide)
    (he : backTo pos (starEach (e :: es) X.env) = (false, eval e X.env) :: backTo pos (starEach es X.env) := by rfl) (hpl : (backTo pos (starEach (e :: es) X.env)).any (·.1) = false := by rfl)
    (hall : (backToKw pos (keywordEach kws X.env)).all (·.1.isSome) = true := by rfl) (hno : (backToKw pos (keywordEach kws X.env)).any (·.1.isNone) = false := by rfl) : PE X (.Call (.Name x p) (e :: es) kws pos) (tCBK r t tk) := by
  intro pins s σ H Q I h
  refine wpAny_Call_Name_kw (ld_blt I hg hm hv ?_ hn hdb)
  refine callWith_kw (thn (ha pos pins s σ H _ I h) fun us s1 ⟨vs, H1, I1, r1, q1⟩ => ?_) he hpl hall hno
  refine thn (hkw pos pins s1 σ H1 _ I1 q1) fun ws s2 ⟨zs, H2, I2, rz, q2⟩ => ?_
  rw [hks]
  exact hc pins s2 σ H2 vs zs us ws Q I2 r1 rz q2
end
section
variable {prog : Program} {w : World} {A : Around} {E : Value → Shared → Prop} {s : Shared}
theorem gather_tup {l : Addr} {vs : List Value} {Q : List Value → Shared → Prop} (ht : s.heap.IsTuple l vs.toArray) (h : Q vs { s with heap := (s.heap.push (seqObj "list" #[] 0)).update s.heap.objs.size (Obj.mapSeq (· ++ vs.toArray)) }) (hz : vs.length ≤ sizeLine) :
    wpAny (model prog w) A (collect (.ref l)) Q E s := by
  obtain ⟨o, ho, hc, n, hd⟩ := id ht
  have own : (s.heap.push (seqObj "list" #[] 0)).get? s.heap.objs.size = some (seqObj "list" #[] 0) := Heap.get?_push_size _ rfl
  have old : (s.heap.push (seqObj "list" #[] 0)).get? l = some o := Heap.get?_push_of_some _ ho
  unfold collect
  refine wpAny_bind (wpAny_runValue (codeAny_builtin entry_proto_collect' ?_))
  refine wpAny_bind (m := newList []) (wpAny_newList (wpAny_pure ⟨Code.quiet_builtin _ (by decide +kernel), codeAny_builtin entry_list_iadd' ?_⟩))
  show wpAny _ _ (Builtin.List.listExtendWith (.ref s.heap.objs.size) (.ref l) (.ref s.heap.objs.size)) _ _ { s with heap := s.heap.push (seqObj "list" #[] 0) }
  unfold Builtin.List.listExtendWith
  refine wpAny_bind (wpAny_typeOf (T := "tuple") ⟨o, old, hc⟩ ?_)
  have tt : (Value.type "tuple" == Value.type "tuple") = true := by rfl
  rw [if_pos (by rw [tt]; simp)]
  refine wpAny_bind (listItems_at old hd (wpAny_bind (listItems_at (xs := #[]) (n := 0) own rfl ?_)))
  rw [if_neg (by simp)]
  refine wpAny_bind (listUpdate_at (xs := #[]) (n := 0) own rfl (wpAny_pure ?_) (Nat.zero_le _) ?_)
  · refine wpAny_bind (m := load s.heap.objs.size) (wpAny_load (get?_update_seq own _) ?_)
    show wpAny _ _ (pure ((#[] : Array Value) ++ vs.toArray).toList) _ _ _
    rw [show ((#[] : Array Value) ++ vs.toArray).toList = vs by simp]
    exact wpAny_pure h
  · show (#[] ++ vs.toArray).size ≤ sizeLine + 1
    simp only [Array.size_append, List.size_toArray, List.length_nil]
    omega
/-- sorted(t, reverse = b) of a tuple of fewer than 64 ints -/
theorem sorted_tupR {l : Addr} {vs : List Value} {ns : List Int} {b : Bool} {Q : Value → Shared → Prop} (ht : s.heap.IsTuple l vs.toArray) (hI : IntsAre vs ns) (h64 : vs.length < 64)
    (h : ∀ (out : Array Value) (ns' : List Int), IntsAre out.toList ns' → ns'.Perm ns → Ordered b ns' → Q (.ref (s.heap.objs.size + 1)) { s with heap := sortedAll s.heap vs out }) : wpAny (model prog w) A (call (.builtin "sorted") [.ref l] [(Str.ofString "reverse", .bool b)]) Q E s := by
  have hsz : ((s.heap.push (seqObj "list" #[] 0)).update s.heap.objs.size (Obj.mapSeq (· ++ vs.toArray))).objs.size = s.heap.objs.size + 1 := by rw [Heap.size_update, size_push']
  have hoL : (((s.heap.push (seqObj "list" #[] 0)).update s.heap.objs.size (Obj.mapSeq (· ++ vs.toArray))).push (seqObj "list" vs.toArray 0)).get? (s.heap.objs.size + 1) = some (seqObj "list" vs.toArray 0) := by
    have := Heap.get?_push_size ((s.heap.push (seqObj "list" #[] 0)).update s.heap.objs.size (Obj.mapSeq (· ++ vs.toArray))) (o := seqObj "list" vs.toArray 0) rfl
    rwa [hsz] at this
  refine call_function_entry_kw kind_sorted plain_sorted entry_sorted (args_sorted_rev _ _) ?_
  unfold Builtin.«sorted»
  refine wpAny_bind (m := checkCount "sorted" 1 1 _) (wpAny_pure (wpAny_bind (gather_tup ht (wpAny_bind (wpAny_newList ?_)) (Nat.le_of_lt (small1000 (by omega))))))
  show wpAny _ _ _ _ _ { s with heap := ((s.heap.push (seqObj "list" #[] 0)).update s.heap.objs.size (Obj.mapSeq (· ++ vs.toArray))).push (seqObj "list" vs.toArray 0) }
  rw [hsz]
  exact wpAny_bind (wpAny_holding (wpAny_call_entry_kw slot_list_sort ⟨_, hoL, rfl⟩ entry_list_sort (list_sort_tree_rev hoL hI h64 fun out ns' a1 a2 a3 => ⟨_, rfl, wpAny_pure ⟨_, rfl, h out ns' a1 a2 a3⟩⟩) (args_list_sort_rev _ _)))
end
section
variable {X : Cx}
theorem call_sortedR : CallKR X "sorted" ["reverse"] (fun xs zs H Q => ∃ (a : Addr) (ns : List Int), xs = [.ref a] ∧ zs = [.bl true] ∧ SqT X.K H a (ns.map V.int) ∧ ns.length < 64 ∧ ∀ (l : Addr) (ms : List Int), H l = none → ms.Perm ns → ms.Pairwise (· ≥ ·) → Q (.ref l) (upd H l (.lst (ms.map V.int)))) := by
  intro pins s σ H xs zs us ws Q I r rz h
  obtain ⟨a, ns, rfl, rfl, hq, h64, q⟩ := h
  obtain ⟨u, rfl, r1⟩ := vals1 r
  obtain ⟨u2, rfl, r2⟩ := vals1 rz
  cases r1
  cases r2
  obtain ⟨its, rv, p, hz⟩ := I.tuple hq
  have hl : its.length = ns.length := by rw [← rv.length, List.length_map]
  refine sorted_tupR (b := true) (show s.heap.IsTuple a its.toArray from p) (intsAre_of rv) (by rw [hl]; exact h64) fun out ms a1 a2 a3 => ?_
  obtain ⟨e, he⟩ := sortedAll_at s.heap its out
  have hle : s.heap.objs.size ≤ s.heap.objs.size + 1 := Nat.le_succ _
  have hml : ms.length = ns.length := a2.length_eq
  refine ⟨.ref (s.heap.objs.size + 1), _, I.laid (a := s.heap.objs.size + 1) (o := .lst (ms.map V.int)) (t' := s.toks) (fun b o q => sortedAll_old q) hle ?_, rfl, q _ ms (I.hok.fresh hle) a2 a3⟩
  refine ⟨?_, out.toList, e, vals_of_ints a1, by simpa using he⟩
  rw [List.length_map, hml]
  exact Nat.le_of_lt (small1000 (by omega))
end
/-! ### comprehensions over a tuple -/
theorem comp_tup {K : PySem.W.Frag} {own : List Str} {js : List Nat} {g : TG} {tt : TT} {te : TE} {σ : St} {H1 : Hp} {Q : VK} {a : Addr} {xs : List V} (Pv : Addr → Nat → Hp → Prop) (h0 : ∀ acc, H1 acc = none → Pv acc 0 (upd H1 acc (.lst []))) (hl : ∀ acc i H, H1 acc = none → i ≤ xs.length → Pv acc i H → SqT K H a xs)
    (hs : ∀ acc i x H, H1 acc = none → xs[i]? = some x → Pv acc i H → g x (blkσ own js σ) H fun τ H4 => tt τ H4 fun c H5 =>
      if c = true then te τ H5 fun y H6 => ∃ ys, H6 acc = some (.lst ys) ∧ ys.length < sizeLine ∧ (i + 1 ≤ xs.length ∧ Pv acc (i + 1) (upd H6 acc (.lst (ys ++ [y])))) else (i + 1 ≤ xs.length ∧ Pv acc (i + 1) H5))
    (hd : ∀ acc H, H1 acc = none → Pv acc xs.length H → Q (.ref acc) H) : tCompW own js g tt te σ (Itt K a) H1 Q := by
  intro acc hacc
  refine ⟨fun i H => i ≤ xs.length ∧ Pv acc i H, xs.length, ⟨Nat.zero_le _, h0 acc hacc⟩, ?_⟩
  rintro i H ⟨hi, p⟩
  have q := hl acc i H hacc hi p
  by_cases hlt : i < xs.length
  · refine .inr ⟨hlt, ⟨xs, xs[i], q, by simp [hlt]⟩, fun x H' y => ?_⟩
    obtain ⟨e, y⟩ := y
    subst e
    exact hs acc i x _ hacc (y xs q) p
  · have e : i = xs.length := by omega
    subst e
    exact .inl ⟨⟨xs, q, Nat.le_refl _⟩, hd acc H hacc p⟩
end L2

set_option Elab.async false
set_option linter.all false
set_option maxRecDepth 100000
set_option maxHeartbeats 4000000
namespace L2
open PySem PySem.Spec PyProof.Rows PySem.SeqAt
/-! ### zip of lists and tuples, true a list, false a tuple -/
def HIt (b : Bool) (h : Heap) (it l : Addr) (i : Nat) : Prop := match b with | true => h.IsListIter it l i | false => h.IsTupleIter it l i
def HSq (b : Bool) (h : Heap) (l : Addr) (xs : Array Value) : Prop := match b with | true => h.IsList l xs | false => h.IsTuple l xs
theorem HIt.at {b : Bool} {h h' : Heap} {it l : Addr} {i : Nat} (x : HIt b h it l i) (e : ∀ o, h.get? it = some o → h'.get? it = some o) : HIt b h' it l i := by
  cases b
  · exact Heap.IsTupleIter.at x e
  · exact Heap.IsListIter.at x e
theorem HIt.ext {b : Bool} {h h' : Heap} {it l c : Addr} {i : Nat} (x : HIt b h it l i) (hs : Heap.ExtBut c h h') (n : it ≠ c) : HIt b h' it l i := x.at fun o e => hs _ _ n e
theorem HIt.obj {b : Bool} {h : Heap} {it l : Addr} {i : Nat} (x : HIt b h it l i) : ∃ o, h.get? it = some o ∧ ∀ v : Option Value, o.data ≠ .cell v := by
  cases b
  · obtain ⟨o, e, _, d⟩ := x
    exact ⟨o, e, fun v q => by rw [d] at q; cases q⟩
  · obtain ⟨o, e, _, d⟩ := x
    exact ⟨o, e, fun v q => by rw [d] at q; cases q⟩
theorem HSq.ext {b : Bool} {h h' : Heap} {l c : Addr} {xs : Array Value} (x : HSq b h l xs) (hs : Heap.ExtBut c h h') (n : l ≠ c) : HSq b h' l xs := by
  cases b
  · exact Heap.IsTuple.extBut x hs n
  · exact Heap.IsList.extBut x hs n
section
variable {prog : Program} {w : World} {A : Around} {E : Value → Shared → Prop} {s : Shared}
theorem nextB {b : Bool} {it l : Addr} {i : Nat} {items : Array Value} {x : Value} {Q : Value → Shared → Prop} (hit : HIt b s.heap it l i) (hl : HSq b s.heap l items) (hx : items[i]? = some x) (hQ : ∀ h', HIt b h' it l (i + 1) → Heap.SameBut it s.heap h' → Q x { s with heap := h' }) :
    wpAny (model prog w) A (Builtin.SmallTypes.nextOf (.ref it)) Q E s := by
  cases b
  · exact nextOf_tup hit hl hx hQ
  · exact wpAny_nextOf_list_item hit hl hx hQ
theorem nextB_end {b : Bool} {it l : Addr} {i : Nat} {items : Array Value} {Q : Value → Shared → Prop} (hh : A.handled = none) (hit : HIt b s.heap it l i) (hl : HSq b s.heap l items) (hx : items[i]? = none)
    (hE : ∀ h' e, Heap.ExtBut it s.heap h' → (∃ o, h'.get? e = some o ∧ o.cls = .type "StopIteration") → E (.ref e) { s with heap := h' }) : wpAny (model prog w) A (Builtin.SmallTypes.nextOf (.ref it)) Q E s := by
  cases b
  · exact nextOf_tup_end hh hit hl hx hE
  · exact wpAny_nextOf_list_end hh hit hl hx hE
theorem zipB_item {b1 b2 : Bool} {z TI TO i1 i2 l1 l2 : Addr} {k1 k2 : Nat} {xs ys : Array Value} {x y a b : Value} {Q : Value → Shared → Prop} (D : ZipApart z TI TO i1 i2 l1 l2) (hz : IsZip s.heap z TI TO .none) (hTI : IsPair s.heap TI (.ref i1) (.ref i2)) (hTO : IsPair s.heap TO a b)
    (h1 : HIt b1 s.heap i1 l1 k1) (h2 : HIt b2 s.heap i2 l2 k2) (hl1 : HSq b1 s.heap l1 xs) (hl2 : HSq b2 s.heap l2 ys) (hx : xs[k1]? = some x) (hy : ys[k2]? = some y)
    (hQ : ∀ h', IsZip h' z TI TO (rawInt s.heap.objs.size) → IsPair h' TO x y → HIt b1 h' i1 l1 (k1 + 1) → HIt b2 h' i2 l2 (k2 + 1) → IsPair h' s.heap.objs.size x y → h'.objs.size = s.heap.objs.size + 1 →
      (∀ c o, c ≠ z → c ≠ TO → c ≠ i1 → c ≠ i2 → s.heap.get? c = some o → h'.get? c = some o) → Q (.ref s.heap.objs.size) { s with heap := h' }) :
    wpAny (model prog w) A (Builtin.«zip.__next__» ⟨[.ref z], []⟩) (fun fin s' => ∃ v, fin = .done (.ret v) ∧ Q v s') E s := by
  refine wpAny_bind (m := field (.ref z) 2) (wpAny_field hz rfl (x := .bool false) rfl ?_)
  refine wpAny_bind (m := field (.ref z) 3) (wpAny_field hz rfl (x := .ref TI) rfl (wpAny_bind (wpAny_seqItems hTI rfl ?_)))
  refine wpAny_bind (m := Builtin.SmallTypes.ownedTupleIsFree (.ref z)) ?_
  unfold Builtin.SmallTypes.ownedTupleIsFree
  refine wpAny_bind (wpAny_field hz rfl (x := .none) rfl (wpAny_pure ?_))
  simp only [if_true]
  refine wpAny_bind (wpAny_rule (wpAny_bind (wpAny_field hz rfl (x := .ref TO) rfl ?_)))
  refine wpAny_bind (wpAny_setField_rec hz (by simp) fun h₁ hz₁ hs₁ => ?_)
  replace hz₁ : IsZip h₁ z TI TO .ellipsis := hz₁
  refine wpAny_bind ?_
  simp only [List.zipIdx_cons, List.zipIdx_nil, List.forIn_cons, List.forIn_nil]
  refine wpAny_bind (wpAny_bind (wpAny_onRaise (wpAny_bind (m := Builtin.SmallTypes.nextOf (.ref i1)) ?_)))
  refine nextB (h1.ext hs₁.extBut D.i1z) (hl1.ext hs₁.extBut D.l1z) hx fun h₂ h1₂ hs₂ => wpAny_pure ?_
  have t2 : IsPair h₂ TO a b := hs₂.extBut _ _ D.TOi1 (hs₁.extBut _ _ D.TOz hTO)
  refine wpAny_bind (wpAny_seqItems t2 rfl (wpAny_bind (wpAny_updateSeq_pair t2 fun h₃ hTO₃ hs₃ => ?_)))
  replace hTO₃ : IsPair h₃ TO x b := hTO₃
  refine wpAny_bind (wpAny_letGo (wpAny_pure (wpAny_bind (wpAny_bind (wpAny_onRaise (wpAny_bind (m := Builtin.SmallTypes.nextOf (.ref i2)) ?_))))))
  refine nextB (((h2.ext hs₁.extBut D.i2z).ext hs₂.extBut D.i12.symm).ext hs₃.extBut D.TOi2.symm) (((hl2.ext hs₁.extBut D.l2z).ext hs₂.extBut D.l2i1).ext hs₃.extBut D.l2TO) hy fun h₄ h2₄ hs₄ => wpAny_pure ?_
  have t4 : IsPair h₄ TO x b := hs₄.extBut _ _ D.TOi2 hTO₃
  refine wpAny_bind (wpAny_seqItems t4 rfl (wpAny_bind (wpAny_updateSeq_pair t4 fun h₅ hTO₅ hs₅ => ?_)))
  replace hTO₅ : IsPair h₅ TO x y := hTO₅
  refine wpAny_bind (wpAny_letGo (wpAny_pure (wpAny_pure (wpAny_bind (wpAny_seqItems hTO₅ rfl (wpAny_bind (wpAny_newTuple ?_)))))))
  have hsz : h₅.objs.size = s.heap.objs.size := by rw [hs₅.1, hs₄.1, hs₃.1, hs₂.1, hs₁.1]
  have hz₅ : IsZip h₅ z TI TO .ellipsis := hs₅.extBut _ _ D.TOz.symm (hs₄.extBut _ _ D.i2z.symm (hs₃.extBut _ _ D.TOz.symm (hs₂.extBut _ _ D.i1z.symm hz₁)))
  have k5 : ∀ c o, c ≠ z → c ≠ TO → c ≠ i1 → c ≠ i2 → s.heap.get? c = some o → h₅.get? c = some o := fun c o c1 c2 c3 c4 e => hs₅.extBut _ _ c2 (hs₄.extBut _ _ c4 (hs₃.extBut _ _ c2 (hs₂.extBut _ _ c3 (hs₁.extBut _ _ c1 e))))
  have j1 : HIt b1 h₅ i1 l1 (k1 + 1) := ((h1₂.ext hs₃.extBut D.TOi1.symm).ext hs₄.extBut D.i12).ext hs₅.extBut D.TOi1.symm
  have j2 : HIt b2 h₅ i2 l2 (k2 + 1) := h2₄.ext hs₅.extBut D.TOi2.symm
  have zlt : z < h₅.objs.size := Heap.lt_size hz₅
  refine wpAny_bind (m := Builtin.SmallTypes.ownedTupleHandOut (.ref z) (.ref h₅.objs.size)) ?_
  unfold Builtin.SmallTypes.ownedTupleHandOut
  have hz₆ : IsZip (h₅.push { cls := .type "tuple", data := .seq #[x, y] }) z TI TO .ellipsis := Heap.get?_push_of_some _ hz₅
  refine wpAny_bind (wpAny_setField_rec hz₆ (by simp) fun h₇ hz₇ hs₇ => ?_)
  replace hz₇ : IsZip h₇ z TI TO (rawInt h₅.objs.size) := hz₇
  refine wpAny_setField_rec hz₇ (by simp) fun h₈ hz₈ hs₈ => ?_
  replace hz₈ : IsZip h₈ z TI TO (rawInt h₅.objs.size) := hz₈
  have up : ∀ c o, c ≠ z → h₅.get? c = some o → h₈.get? c = some o := fun c o c1 e => hs₈.extBut _ _ c1 (hs₇.extBut _ _ c1 (Heap.get?_push_of_some _ e))
  have t8 : IsPair h₈ h₅.objs.size x y := hs₈.extBut _ _ (Nat.ne_of_gt zlt) (hs₇.extBut _ _ (Nat.ne_of_gt zlt) (Heap.get?_push_size _ rfl))
  have z8 : h₈.objs.size = h₅.objs.size + 1 := by rw [hs₈.1, hs₇.1, Heap.size_push]
  rw [hsz] at hz₈ t8 z8
  refine wpAny_pure ⟨_, rfl, ?_⟩
  show Q (.ref h₅.objs.size) _
  rw [hsz]
  exact hQ h₈ hz₈ (up _ _ D.TOz hTO₅) (j1.at fun o e => up _ o D.i1z e) (j2.at fun o e => up _ o D.i2z e) t8 z8 fun c o c1 c2 c3 c4 e => up c o c1 (k5 c o c1 c2 c3 c4 e)
theorem zipB_end {b1 b2 : Bool} {z TI TO i1 i2 l1 l2 : Addr} {k1 k2 : Nat} {xs ys : Array Value} {a b : Value} {Q : Fin → Shared → Prop} (hh : A.handled = none) (D : ZipApart z TI TO i1 i2 l1 l2) (hz : IsZip s.heap z TI TO .none) (hTI : IsPair s.heap TI (.ref i1) (.ref i2)) (hTO : IsPair s.heap TO a b)
    (h1 : HIt b1 s.heap i1 l1 k1) (h2 : HIt b2 s.heap i2 l2 k2) (hl1 : HSq b1 s.heap l1 xs) (hl2 : HSq b2 s.heap l2 ys) (hend : xs[k1]? = none ∨ ys[k2]? = none)
    (hE : ∀ h' e, (∀ c o, c ≠ z → c ≠ TO → c ≠ i1 → c ≠ i2 → s.heap.get? c = some o → h'.get? c = some o) → (∃ o, h'.get? e = some o ∧ o.cls = .type "StopIteration") → E (.ref e) { s with heap := h' }) : wpAny (model prog w) A (Builtin.«zip.__next__» ⟨[.ref z], []⟩) Q E s := by
  refine wpAny_bind (m := field (.ref z) 2) (wpAny_field hz rfl (x := .bool false) rfl ?_)
  refine wpAny_bind (m := field (.ref z) 3) (wpAny_field hz rfl (x := .ref TI) rfl (wpAny_bind (wpAny_seqItems hTI rfl ?_)))
  refine wpAny_bind (m := Builtin.SmallTypes.ownedTupleIsFree (.ref z)) ?_
  unfold Builtin.SmallTypes.ownedTupleIsFree
  refine wpAny_bind (wpAny_field hz rfl (x := .none) rfl (wpAny_pure ?_))
  simp only [if_true]
  refine wpAny_bind (wpAny_rule (wpAny_bind (wpAny_field hz rfl (x := .ref TO) rfl ?_)))
  refine wpAny_bind (wpAny_setField_rec hz (by simp) fun h₁ hz₁ hs₁ => ?_)
  replace hz₁ : IsZip h₁ z TI TO .ellipsis := hz₁
  refine wpAny_bind ?_
  simp only [List.zipIdx_cons, List.zipIdx_nil, List.forIn_cons, List.forIn_nil]
  refine wpAny_bind (wpAny_bind (wpAny_onRaise (wpAny_bind (m := Builtin.SmallTypes.nextOf (.ref i1)) ?_)))
  cases hx : xs[k1]? with
  | none =>
    refine nextB_end hh (h1.ext hs₁.extBut D.i1z) (hl1.ext hs₁.extBut D.l1z) hx fun h₂ e hs₂ ⟨oe, hoe, hce⟩ => ?_
    have hz₂ : IsZip h₂ z TI TO .ellipsis := hs₂ _ _ D.i1z.symm hz₁
    have ez : e ≠ z := fun x => by subst x; rw [hz₂] at hoe; cases hoe; simp at hce
    exact wpAny_setField_rec hz₂ (by simp) fun h₃ _ hs₃ => hE h₃ e (fun c o c1 _ c3 _ x => hs₃.extBut _ _ c1 (hs₂ _ _ c3 (hs₁.extBut _ _ c1 x))) ⟨oe, hs₃.extBut _ _ ez hoe, hce⟩
  | some x =>
    have hy : ys[k2]? = none := hend.resolve_left (by rw [hx]; simp)
    refine nextB (h1.ext hs₁.extBut D.i1z) (hl1.ext hs₁.extBut D.l1z) hx fun h₂ h1₂ hs₂ => wpAny_pure ?_
    have t2 : IsPair h₂ TO a b := hs₂.extBut _ _ D.TOi1 (hs₁.extBut _ _ D.TOz hTO)
    refine wpAny_bind (wpAny_seqItems t2 rfl (wpAny_bind (wpAny_updateSeq_pair t2 fun h₃ hTO₃ hs₃ => ?_)))
    refine wpAny_bind (wpAny_letGo (wpAny_pure (wpAny_bind (wpAny_bind (wpAny_onRaise (wpAny_bind (m := Builtin.SmallTypes.nextOf (.ref i2)) ?_))))))
    refine nextB_end hh (((h2.ext hs₁.extBut D.i2z).ext hs₂.extBut D.i12.symm).ext hs₃.extBut D.TOi2.symm) (((hl2.ext hs₁.extBut D.l2z).ext hs₂.extBut D.l2i1).ext hs₃.extBut D.l2TO) hy fun h₄ e hs₄ ⟨oe, hoe, hce⟩ => ?_
    have hz₄ : IsZip h₄ z TI TO .ellipsis := hs₄ _ _ D.i2z.symm (hs₃.extBut _ _ D.TOz.symm (hs₂.extBut _ _ D.i1z.symm hz₁))
    have ez : e ≠ z := fun x => by subst x; rw [hz₄] at hoe; cases hoe; simp at hce
    exact wpAny_setField_rec hz₄ (by simp) fun h₅ _ hs₅ => hE h₅ e (fun c o c1 c2 c3 c4 x => hs₅.extBut _ _ c1 (hs₄ _ _ c4 (hs₃.extBut _ _ c2 (hs₂.extBut _ _ c3 (hs₁.extBut _ _ c1 x))))) ⟨oe, hs₅.extBut _ _ ez hoe, hce⟩
theorem pyNextB_item {b1 b2 : Bool} {z TI TO i1 i2 l1 l2 : Addr} {k1 k2 : Nat} {xs ys : Array Value} {x y a b : Value} {Q : Option Value → Shared → Prop} (D : ZipApart z TI TO i1 i2 l1 l2) (hz : IsZip s.heap z TI TO .none) (hTI : IsPair s.heap TI (.ref i1) (.ref i2)) (hTO : IsPair s.heap TO a b)
    (h1 : HIt b1 s.heap i1 l1 k1) (h2 : HIt b2 s.heap i2 l2 k2) (hl1 : HSq b1 s.heap l1 xs) (hl2 : HSq b2 s.heap l2 ys) (hx : xs[k1]? = some x) (hy : ys[k2]? = some y)
    (hQ : ∀ h', IsZip h' z TI TO (rawInt s.heap.objs.size) → IsPair h' TO x y → HIt b1 h' i1 l1 (k1 + 1) → HIt b2 h' i2 l2 (k2 + 1) → IsPair h' s.heap.objs.size x y → h'.objs.size = s.heap.objs.size + 1 →
      (∀ c o, c ≠ z → c ≠ TO → c ≠ i1 → c ≠ i2 → s.heap.get? c = some o → h'.get? c = some o) → Q (some (.ref s.heap.objs.size)) { s with heap := h' }) : wpAny (model prog w) A (pyNext (.ref z)) Q E s := by
  have hT : s.TypeIs (.ref z) "zip" := ⟨_, hz, rfl⟩
  unfold pyNext
  exact wpAny_bind (wpAny_attempt (wpAny_callSpecial?_slot (name := Str.ofString "__next__") hT F.slot_zip_next (wpAny_call_entry F.slot_zip_next hT F.entry_zip_next (zipB_item D hz hTI hTO h1 h2 hl1 hl2 hx hy fun h' a1 a2 a3 a4 a5 a6 a7 => wpAny_pure (hQ h' a1 a2 a3 a4 a5 a6 a7)) (F.args_zip_next_1 _))))
theorem pyNextB_end {b1 b2 : Bool} {z TI TO i1 i2 l1 l2 : Addr} {k1 k2 : Nat} {xs ys : Array Value} {a b : Value} {Q : Option Value → Shared → Prop} (hh : A.handled = none) (D : ZipApart z TI TO i1 i2 l1 l2) (hz : IsZip s.heap z TI TO .none) (hTI : IsPair s.heap TI (.ref i1) (.ref i2)) (hTO : IsPair s.heap TO a b)
    (h1 : HIt b1 s.heap i1 l1 k1) (h2 : HIt b2 s.heap i2 l2 k2) (hl1 : HSq b1 s.heap l1 xs) (hl2 : HSq b2 s.heap l2 ys) (hend : xs[k1]? = none ∨ ys[k2]? = none)
    (hQ : ∀ h', (∀ c o, c ≠ z → c ≠ TO → c ≠ i1 → c ≠ i2 → s.heap.get? c = some o → h'.get? c = some o) → Q none { s with heap := h' }) : wpAny (model prog w) A (pyNext (.ref z)) Q E s := by
  have hT : s.TypeIs (.ref z) "zip" := ⟨_, hz, rfl⟩
  unfold pyNext
  refine wpAny_bind (wpAny_attempt (wpAny_callSpecial?_slot (name := Str.ofString "__next__") hT F.slot_zip_next (wpAny_call_entry F.slot_zip_next hT F.entry_zip_next (zipB_end hh D hz hTI hTO h1 h2 hl1 hl2 hend fun h' e hk ⟨o, ho, hc⟩ => ?_) (F.args_zip_next_1 _))))
  exact wpAny_bind (wpAny_isInstance (T := "StopIteration") (b := true) ⟨o, ho, hc⟩ isSubtype_stop (wpAny_pure (hQ _ hk)))
def itCls (b : Bool) : String := match b with | true => "list_iterator" | false => "tuple_iterator"
def zB1 (b1 : Bool) (h : Heap) (l1 : Addr) : Heap := h.push { cls := .type (itCls b1), data := .fields #[.ref l1, .int 0 0] }
def zB2 (b1 b2 : Bool) (h : Heap) (l1 l2 : Addr) : Heap := (zB1 b1 h l1).push { cls := .type (itCls b2), data := .fields #[.ref l2, .int 0 0] }
def zB3 (b1 b2 : Bool) (h : Heap) (l1 l2 : Addr) : Heap := (zB2 b1 b2 h l1 l2).push { cls := .type "tuple", data := .seq #[.ref h.objs.size, .ref (zB1 b1 h l1).objs.size] }
def zB4 (b1 b2 : Bool) (h : Heap) (l1 l2 : Addr) : Heap := (zB3 b1 b2 h l1 l2).push { cls := .type "tuple", data := .seq #[.none, .none] }
def zB5 (b1 b2 : Bool) (h : Heap) (l1 l2 : Addr) : Heap := (zB4 b1 b2 h l1 l2).push { cls := .type "zip", data := .fields #[.none, .bool false, .bool false, .ref (zB2 b1 b2 h l1 l2).objs.size, .ref (zB3 b1 b2 h l1 l2).objs.size] }
theorem zipB_new (b1 b2 : Bool) (l1 l2 : Addr) (xs ys : Array Value) :
    Meets (Builtin.«zip.__new__» ⟨[.type "zip", .ref l1, .ref l2], []⟩) (fun _ R s => HSq b1 s.heap l1 xs ∧ HSq b2 s.heap l2 ys ∧ R (.ok (.ret (.ref (zB4 b1 b2 s.heap l1 l2).objs.size))) { s with heap := zB5 b1 b2 s.heap l1 l2 }) :=
  .of_wp fun prog w A R s h => by
    obtain ⟨hp, g, d, tk, os⟩ := s
    obtain ⟨hl1, hl2, h⟩ := h
    have hsub := sub_zip
    cases b1 <;> cases b2
    · have p1 : Heap.IsTuple (Shared.heap ⟨hp, g, d, tk, os⟩) l1 xs := hl1
      have p2 : Heap.IsTuple (Shared.heap ⟨hp.push { cls := .type "tuple_iterator", data := .fields #[.ref l1, .int 0 0] }, g, d, tk, os⟩) l2 ys := Heap.IsTuple.push hl2 _
      wp_walk using wpAny_pyIter_tuple p1, wpAny_pyIter_tuple p2
      exact ⟨_, rfl, h⟩
    · have p1 : Heap.IsTuple (Shared.heap ⟨hp, g, d, tk, os⟩) l1 xs := hl1
      have p2 : Heap.IsList (Shared.heap ⟨hp.push { cls := .type "tuple_iterator", data := .fields #[.ref l1, .int 0 0] }, g, d, tk, os⟩) l2 ys := Heap.IsList.push hl2 _
      wp_walk using wpAny_pyIter_tuple p1, wpAny_pyIter_list p2
      exact ⟨_, rfl, h⟩
    · have p1 : Heap.IsList (Shared.heap ⟨hp, g, d, tk, os⟩) l1 xs := hl1
      have p2 : Heap.IsTuple (Shared.heap ⟨hp.push { cls := .type "list_iterator", data := .fields #[.ref l1, .int 0 0] }, g, d, tk, os⟩) l2 ys := Heap.IsTuple.push hl2 _
      wp_walk using wpAny_pyIter_list p1, wpAny_pyIter_tuple p2
      exact ⟨_, rfl, h⟩
    · have p1 : Heap.IsList (Shared.heap ⟨hp, g, d, tk, os⟩) l1 xs := hl1
      have p2 : Heap.IsList (Shared.heap ⟨hp.push { cls := .type "list_iterator", data := .fields #[.ref l1, .int 0 0] }, g, d, tk, os⟩) l2 ys := Heap.IsList.push hl2 _
      wp_walk using wpAny_pyIter_list p1, wpAny_pyIter_list p2
      exact ⟨_, rfl, h⟩
theorem HIt.made {b : Bool} {h : Heap} {it l : Addr} (e : h.get? it = some { cls := .type (itCls b), data := .fields #[.ref l, .int 0 0] }) : HIt b h it l 0 := by
  cases b
  · exact ⟨_, e, rfl, rfl⟩
  · exact ⟨_, e, rfl, rfl⟩
theorem call_zipB {b1 b2 : Bool} {l1 l2 : Addr} {xs ys : Array Value} {Q : Value → Shared → Prop} (hl1 : HSq b1 s.heap l1 xs) (hl2 : HSq b2 s.heap l2 ys)
    (h : ∀ h', IsZip h' (s.heap.objs.size + 4) (s.heap.objs.size + 2) (s.heap.objs.size + 3) .none → IsPair h' (s.heap.objs.size + 2) (.ref s.heap.objs.size) (.ref (s.heap.objs.size + 1)) → IsPair h' (s.heap.objs.size + 3) .none .none →
      HIt b1 h' s.heap.objs.size l1 0 → HIt b2 h' (s.heap.objs.size + 1) l2 0 → (∀ c o, s.heap.get? c = some o → h'.get? c = some o) → Q (.ref (s.heap.objs.size + 4)) { s with heap := h' }) : wpAny (model prog w) A (call (.type "zip") [.ref l1, .ref l2]) Q E s := by
  refine callType_new F.called_zip (by decide) (F.typeCall_zip_2 _ _) (F.newCall_zip_2 _ _) (fun obj => F.args_object_init_3 obj _ _) F.entry_zip_new (zipB_new b1 b2 l1 l2 xs ys) ⟨hl1, hl2, ?_⟩
  have z1 : (zB1 b1 s.heap l1).objs.size = s.heap.objs.size + 1 := Heap.size_push ..
  have z2 : (zB2 b1 b2 s.heap l1 l2).objs.size = s.heap.objs.size + 2 := by unfold zB2; rw [Heap.size_push, z1]
  have z3 : (zB3 b1 b2 s.heap l1 l2).objs.size = s.heap.objs.size + 3 := by unfold zB3; rw [Heap.size_push, z2]
  have z4 : (zB4 b1 b2 s.heap l1 l2).objs.size = s.heap.objs.size + 4 := by unfold zB4; rw [Heap.size_push, z3]
  have g5 : (zB5 b1 b2 s.heap l1 l2).get? (zB4 b1 b2 s.heap l1 l2).objs.size = some _ := Heap.get?_push_size _ rfl
  have g4 : (zB5 b1 b2 s.heap l1 l2).get? (zB3 b1 b2 s.heap l1 l2).objs.size = some _ := Heap.get?_push_of_some _ (Heap.get?_push_size _ rfl)
  have g3 : (zB5 b1 b2 s.heap l1 l2).get? (zB2 b1 b2 s.heap l1 l2).objs.size = some _ := Heap.get?_push_of_some _ (Heap.get?_push_of_some _ (Heap.get?_push_size _ rfl))
  have g2 : (zB5 b1 b2 s.heap l1 l2).get? (zB1 b1 s.heap l1).objs.size = some _ := Heap.get?_push_of_some _ (Heap.get?_push_of_some _ (Heap.get?_push_of_some _ (Heap.get?_push_size _ rfl)))
  have g1 : (zB5 b1 b2 s.heap l1 l2).get? s.heap.objs.size = some _ := Heap.get?_push_of_some _ (Heap.get?_push_of_some _ (Heap.get?_push_of_some _ (Heap.get?_push_of_some _ (Heap.get?_push_size _ rfl))))
  show _ ∧ _
  rw [z2, z3, z4] at g5
  rw [z1, z2] at g3
  rw [z3] at g4
  rw [z1] at g2
  rw [z4]
  exact ⟨⟨_, g5, rfl⟩, h _ g5 g3 g4 (HIt.made g1) (HIt.made g2) fun c o x => Heap.get?_push_of_some _ (Heap.get?_push_of_some _ (Heap.get?_push_of_some _ (Heap.get?_push_of_some _ (Heap.get?_push_of_some _ x))))⟩
end
theorem SqB.heap {X : Cx} {b : Bool} {pins : List (Addr × Obj)} {σ : St} {H : Hp} {s : Shared} {a : Addr} {xs : List V} (I : Inv X pins σ H s) (h : SqB b X.K H a xs) : ∃ its : List Value, Vals xs its ∧ HSq b s.heap a its.toArray := by
  cases b
  · obtain ⟨its, r, p, _⟩ := I.tuple h
    exact ⟨its, r, p⟩
  · obtain ⟨its, r, p, _⟩ := I.list h
    exact ⟨its, r, p.isList⟩
theorem HSq.lt {b : Bool} {h : Heap} {l : Addr} {xs : Array Value} (x : HSq b h l xs) : l < h.objs.size := by
  cases b
  · obtain ⟨o, e, _⟩ := x
    exact Heap.lt_size e
  · obtain ⟨o, e, _⟩ := x
    exact Heap.lt_size e
theorem SqB.inj {X : Cx} {b : Bool} {pins : List (Addr × Obj)} {σ : St} {H : Hp} {s : Shared} {a : Addr} {xs ys : List V} (I : Inv X pins σ H s) (h : SqB b X.K H a xs) (g : SqB b X.K H a ys) : xs = ys := by
  cases b
  · exact I.tuple_inj h g
  · exact I.list_inj h g
/-- zip of two: a new pair at each turn -/
def ItzB (b1 b2 : Bool) (K : PySem.W.Frag) (a b : Addr) : It :=
  ⟨fun i H => ∃ xs ys x y, SqB b1 K H a xs ∧ SqB b2 K H b ys ∧ xs[i]? = some x ∧ ys[i]? = some y,
   fun i H z H' => ∃ p x y, H p = none ∧ z = .ref p ∧ H' = upd H p (.tup [x, y]) ∧ (∀ xs, SqB b1 K H a xs → xs[i]? = some x) ∧ ∀ ys, SqB b2 K H b ys → ys[i]? = some y,
   fun i H => ∃ xs ys, SqB b1 K H a xs ∧ SqB b2 K H b ys ∧ (xs.length ≤ i ∨ ys.length ≤ i)⟩
end L2

set_option Elab.async false
set_option linter.all false
set_option maxRecDepth 100000
set_option maxHeartbeats 4000000
namespace L2
open PySem PySem.Spec PyProof.Rows PySem.SeqAt
def zipStB (b1 b2 : Bool) (z TI TO i1 i2 l1 l2 : Addr) (i : Nat) (h : Heap) : Prop := IsZip h z TI TO .none ∧ IsPair h TI (.ref i1) (.ref i2) ∧ (∃ a b, IsPair h TO a b) ∧ HIt b1 h i1 l1 i ∧ HIt b2 h i2 l2 i
theorem turn_zipB {P : Program} {w : World} {K : PySem.W.Frag} {es : List Expr} {x1} {pos : Pos} {b1 b2 : Bool} {z TI TO i1 i2 l1 l2 : Addr} (D : ZipApart z TI TO i1 i2 l1 l2) : Turn P w K (.Tuple es x1 pos) (ItzB b1 b2 K l1 l2) [z, TI, TO, i1, i2] z (zipStB b1 b2 z TI TO i1 i2 l1 l2) where
  mem := by simp
  obj := fun i h st b hb => by
    obtain ⟨h1, h2, ⟨a, c, h3⟩, h4, h5⟩ := st
    simp only [List.mem_cons, List.not_mem_nil, or_false] at hb
    rcases hb with rfl | rfl | rfl | rfl | rfl
    · exact ⟨_, h1, fun v q => nomatch q⟩
    · exact ⟨_, h2, fun v q => nomatch q⟩
    · exact ⟨_, h3, fun v q => nomatch q⟩
    · exact h4.obj
    · exact h5.obj
  keep := fun i h h' st k => by
    obtain ⟨h1, h2, ⟨a, c, h3⟩, h4, h5⟩ := st
    exact ⟨k z (by simp) _ h1, k TI (by simp) _ h2, ⟨a, c, k TO (by simp) _ h3⟩, h4.at fun o q => k i1 (by simp) o q, h5.at fun o q => k i2 (by simp) o q⟩
  item := by
    intro X hP hw hK hc i pins s σ H E I hf st hg
    subst hP hw hK
    obtain ⟨xs, ys, x, y, hq1, hq2, hx, hy⟩ := hg
    obtain ⟨its, rv, p⟩ := hq1.heap I
    obtain ⟨its2, rv2, p2⟩ := hq2.heap I
    obtain ⟨u, hu, ru⟩ := rv.get hx
    obtain ⟨u2, hu2, ru2⟩ := rv2.get hy
    obtain ⟨s1, s2, ⟨a, c, s3⟩, s4, s5⟩ := id st
    refine pyNextB_item D s1 s2 s3 s4 s5 p p2 (x := u) (y := u2) (by simpa using hu) (by simpa using hu2) fun h' g1 g2 g3 g4 g5 g6 hk => ?_
    refine ⟨_, rfl, ?_⟩
    refine wpAny_letOwnedTupleGo_zip g1 fun h'' he hs => ?_
    have live : ∀ b ∈ [z, TI, TO, i1, i2], b < s.heap.objs.size := fun b hb => by
      obtain ⟨h1, h2, ⟨a, c, h3⟩, h4, h5⟩ := st
      obtain ⟨o4, e4, _⟩ := h4.obj
      obtain ⟨o5, e5, _⟩ := h5.obj
      simp only [List.mem_cons, List.not_mem_nil, or_false] at hb
      rcases hb with rfl | rfl | rfl | rfl | rfl
      · exact Heap.lt_size h1
      · exact Heap.lt_size h2
      · exact Heap.lt_size h3
      · exact Heap.lt_size e4
      · exact Heap.lt_size e5
    have hsz : s.heap.objs.size ≠ z := Nat.ne_of_gt (live z (by simp))
    have k : ∀ b o, b ∉ [z, TI, TO, i1, i2] → s.heap.get? b = some o → h''.get? b = some o := fun b o hb q => by
      simp only [List.mem_cons, List.not_mem_nil, or_false, not_or] at hb
      exact (hs.2 b hb.1).trans (hk b o hb.1 hb.2.2.1 hb.2.2.2.1 hb.2.2.2.2 q)
    have st' : zipStB b1 b2 z TI TO i1 i2 l1 l2 (i + 1) h'' := by
      refine ⟨he, (hs.2 TI D.TIz).trans (hk TI _ D.TIz D.TITO D.TIi1 D.TIi2 s2), ⟨u, u2, (hs.2 TO D.TOz).trans g2⟩, ?_, ?_⟩
      · exact g3.ext hs.extBut D.i1z
      · exact g4.ext hs.extBut D.i2z
    have th : ∀ b ∈ [z, TI, TO, i1, i2], ∃ o, h''.get? b = some o := fun b hb => by
      obtain ⟨h1, h2, ⟨a, c, h3⟩, h4, h5⟩ := st'
      obtain ⟨o4, e4, _⟩ := h4.obj
      obtain ⟨o5, e5, _⟩ := h5.obj
      simp only [List.mem_cons, List.not_mem_nil, or_false] at hb
      rcases hb with rfl | rfl | rfl | rfl | rfl
      · exact ⟨_, h1⟩
      · exact ⟨_, h2⟩
      · exact ⟨_, h3⟩
      · exact ⟨_, e4⟩
      · exact ⟨_, e5⟩
    have fresh : H s.heap.objs.size = none := I.hok.fresh (Nat.le_refl _)
    refine ⟨.ref s.heap.objs.size, _, I.pairOut (fp := [z, TI, TO, i1, i2]) (tk := s.toks) hf k ((hs.2 _ hsz).trans g5) live th ru ru2, rfl, ⟨s.heap.objs.size, x, y, fresh, rfl, rfl, fun ys hy => by rw [hy.inj I hq1]; exact hx, fun zs hz => by rw [hz.inj I hq2]; exact hy⟩, st', fun b hb => ?_⟩
    rw [upd_ne (Nat.ne_of_lt (live b hb))]
    exact (hf b hb).1
  done := by
    intro X hP hw hK hc i pins s σ H E I hf st hg
    subst hP hw hK
    obtain ⟨xs, ys, hq1, hq2, hx⟩ := hg
    obtain ⟨its, rv, p⟩ := hq1.heap I
    obtain ⟨its2, rv2, p2⟩ := hq2.heap I
    obtain ⟨s1, s2, ⟨a, c, s3⟩, s4, s5⟩ := st
    have e1 := rv.length
    have e2 := rv2.length
    refine pyNextB_end (I.ok.hd hc) D s1 s2 s3 s4 s5 p p2 (by rcases hx with q | q; exact .inl (by simp; omega); exact .inr (by simp; omega)) fun h' hk => ⟨rfl, I.turnedAll (fp := [z, TI, TO, i1, i2]) (tk := s.toks) hf fun b o hb q => ?_⟩
    simp only [List.mem_cons, List.not_mem_nil, or_false, not_or] at hb
    exact hk b o hb.1 hb.2.2.1 hb.2.2.2.1 hb.2.2.2.2 q
  self := fun _ _ _ _ _ st h => wpAny_pyIter_zip st.1 h
def iZipB (K : PySem.W.Frag) (ta : TA) : TI := fun σ H R => ta σ H fun vs H1 => ∃ b1 b2 a b, vs = [.ref a, .ref b] ∧ (∃ xs, SqB b1 K H1 a xs) ∧ (∃ ys, SqB b2 K H1 b ys) ∧ R (ItzB b1 b2 K a b) H1
theorem pi_zipB {X : Cx} {es : List Expr} {x1} {tpos : Pos} {e f : Expr} {ta : TA} {p pos : Pos} (hg : Gl X "zip") (hm : X.mg "zip" = none) (ha : PA X [e, f] ta) (hs : starEach [e, f] X.env = [(false, eval e X.env), (false, eval f X.env)] := by rfl) (hs2 : starEach [f] X.env = [(false, eval f X.env)] := by rfl) :
    PI X (.Tuple es x1 tpos) (.Call (.Name "zip" p) [e, f] [] pos) (iZipB X.K ta) := by
  intro pins s σ H R I h
  refine Call_ (ld_blt I hg hm (show bootBuiltins "zip" = some (.type "zip") by decide +kernel) (PyProof.Rows.callWith_type1 (thn (ha pos pins s σ H _ I h) fun us s1 ⟨vs, H1, I1, r1, q1⟩ => ?_) (by rw [hs, hs2]) (by rw [hs2]; rfl)))
  obtain ⟨b1, b2, a, b, e1, ⟨xs, hq⟩, ⟨ys, hq2⟩, q⟩ := q1
  subst e1
  obtain ⟨u, u2, rfl, r, r2⟩ := vals2 r1
  cases r
  cases r2
  obtain ⟨its, rv, pl⟩ := hq.heap I1
  obtain ⟨its2, rv2, pl2⟩ := hq2.heap I1
  have la := pl.lt
  have lb := pl2.lt
  have ne : ∀ {i j : Nat}, i ≠ j → s1.heap.objs.size + i ≠ s1.heap.objs.size + j := fun h z => h (Nat.add_left_cancel z)
  have nl : ∀ {c : Addr} (i : Nat), c < s1.heap.objs.size → c ≠ s1.heap.objs.size + i := fun i h => Nat.ne_of_lt (Nat.lt_of_lt_of_le h (Nat.le_add_right _ _))
  refine call_zipB pl pl2 fun h' g1 g2 g3 g4 g5 k => wpAny_pyIter_zip g1 ?_
  have D : ZipApart (s1.heap.objs.size + 4) (s1.heap.objs.size + 2) (s1.heap.objs.size + 3) (s1.heap.objs.size + 0) (s1.heap.objs.size + 1) a b :=
    ⟨ne (by decide), ne (by decide), ne (by decide), ne (by decide), ne (by decide), ne (by decide), ne (by decide), ne (by decide), ne (by decide), ne (by decide), nl 4 la, nl 3 la, nl 0 la, nl 1 la, nl 4 lb, nl 3 lb, nl 0 lb, nl 1 lb⟩
  refine ⟨s1.heap.objs.size + 4, [s1.heap.objs.size + 4, s1.heap.objs.size + 2, s1.heap.objs.size + 3, s1.heap.objs.size + 0, s1.heap.objs.size + 1], _, _, H1, rfl, I1.kept (t' := s1.toks) k, turn_zipB D, ⟨g1, g2, ⟨_, _, g3⟩, g4, g5⟩, fun c hc => ?_, q⟩
  have ge : s1.heap.objs.size ≤ c := by
    simp only [List.mem_cons, List.not_mem_nil, or_false] at hc
    rcases hc with rfl | rfl | rfl | rfl | rfl <;> exact Nat.le_add_right _ _
  exact I1.fpOk ge (I1.hok.fresh ge)
/-- a comprehension over zip of two of like length that the block leaves as they are -/
theorem comp_zip {b1 b2 : Bool} {K : PySem.W.Frag} {own : List Str} {js : List Nat} {g : TG} {tt : TT} {te : TE} {σ : St} {H1 : Hp} {Q : VK} {a b : Addr} {xs ys : List V} (hlen : xs.length ≤ ys.length) (Pv : Addr → Nat → Hp → Prop) (h0 : ∀ acc, H1 acc = none → Pv acc 0 (upd H1 acc (.lst [])))
    (hl : ∀ acc i H, H1 acc = none → i ≤ xs.length → Pv acc i H → SqB b1 K H a xs ∧ SqB b2 K H b ys)
    (hs : ∀ acc i x y p H, H1 acc = none → xs[i]? = some x → ys[i]? = some y → Pv acc i H → H p = none → g (.ref p) (blkσ own js σ) (upd H p (.tup [x, y])) fun τ H4 => tt τ H4 fun c H5 =>
      if c = true then te τ H5 fun y H6 => ∃ ys, H6 acc = some (.lst ys) ∧ ys.length < sizeLine ∧ (i + 1 ≤ xs.length ∧ Pv acc (i + 1) (upd H6 acc (.lst (ys ++ [y])))) else (i + 1 ≤ xs.length ∧ Pv acc (i + 1) H5))
    (hd : ∀ acc H, H1 acc = none → Pv acc xs.length H → Q (.ref acc) H) : tCompW own js g tt te σ (ItzB b1 b2 K a b) H1 Q := by
  intro acc hacc
  refine ⟨fun i H => i ≤ xs.length ∧ Pv acc i H, xs.length, ⟨Nat.zero_le _, h0 acc hacc⟩, ?_⟩
  rintro i H ⟨hi, p⟩
  obtain ⟨q1, q2⟩ := hl acc i H hacc hi p
  by_cases hlt : i < xs.length
  · have hl2 : i < ys.length := by omega
    refine .inr ⟨hlt, ⟨xs, ys, xs[i], ys[i], q1, q2, by simp [hlt], by simp [hl2]⟩, fun x H' y => ?_⟩
    obtain ⟨pa, z1, z2, hp, e1, e2, y1, y2⟩ := y
    subst e1 e2
    exact hs acc i z1 z2 pa H hacc (y1 xs q1) (y2 ys q2) p hp
  · have e : i = xs.length := by omega
    subst e
    exact .inl ⟨⟨xs, ys, q1, q2, .inl (Nat.le_refl _)⟩, hd acc H hacc p⟩
end L2

set_option Elab.async false
set_option linter.all false
set_option maxRecDepth 100000
set_option maxHeartbeats 4000000
namespace L2
open PySem PySem.Spec PyProof.Rows PySem.SeqAt
/-! ### rules with the fragment named: within a block -/
theorem callK_len (K : PySem.W.Frag) {X : Cx} (hK : X.K = K := by rfl) : CallR X (.builtin "len") (fun xs H Q => ∃ p ys, xs = [.ref p] ∧ (SqL K H p ys ∨ SqT K H p ys) ∧ Q (.int ys.length) H) := by subst hK; exact call_len_seq
/-- a comprehension that takes no name of the text's own -/
theorem CompOk.bare {X : Cx} {scope : Scope} {own : List Str} (h : ((scope.kind == .function) && scope.names.all fun y => (y.2 != .cell) && (y.2 != .free) && ((y.2 != .local) || (scope.names.lookup y.1 == some .local))) = true) : CompOk X scope own [] := by
  simp only [Bool.and_eq_true, beq_iff_eq, List.all_eq_true, Bool.or_eq_true, bne_iff_ne, ne_eq] at h
  obtain ⟨h1, h2⟩ := h
  refine ⟨h1, fun y hy => (h2 y hy).1.1, fun y hy hf => absurd hf (h2 y hy).1.2, fun y hy hl => ?_, fun j hj => by cases hj⟩
  rcases (h2 y hy).2 with z | z
  · exact absurd hl z
  · exact z
section
variable {X : Cx}
/-! ### lists of lists, tuples of tuples -/
/-- a list of refs, each to a list of ints -/
def LLs (H : Hp) (rs : List Addr) (N : List (List Int)) : Prop := rs.length = N.length ∧ ∀ (j : Nat) r xs, rs[j]? = some r → N[j]? = some xs → H r = some (.lst (xs.map V.int))
def TTs (H : Hp) (rs : List Addr) (N : List (List Int)) : Prop := rs.length = N.length ∧ ∀ (j : Nat) r xs, rs[j]? = some r → N[j]? = some xs → H r = some (.tup (xs.map V.int))
theorem LLs.same {H H' : Hp} {rs : List Addr} {N : List (List Int)} (h : LLs H rs N) (s : Same H H') : LLs H' rs N := ⟨h.1, fun j r xs a b => s _ _ (h.2 j r xs a b)⟩
theorem TTs.same {H H' : Hp} {rs : List Addr} {N : List (List Int)} (h : TTs H rs N) (s : Same H H') : TTs H' rs N := ⟨h.1, fun j r xs a b => s _ _ (h.2 j r xs a b)⟩
theorem TTs.lst {H : Hp} {rs : List Addr} {N : List (List Int)} {acc : Addr} {ys zs : List V} (h : TTs H rs N) (e : H acc = some (.lst zs)) : TTs (upd H acc (.lst ys)) rs N := ⟨h.1, fun j r xs a b => by
  have := h.2 j r xs a b
  rw [upd_ne (by intro z; subst z; rw [e] at this; cases this)]
  exact this⟩
theorem LLs.lst {H : Hp} {rs : List Addr} {N : List (List Int)} {acc : Addr} {ys : List V} (h : LLs H rs N) (e : acc ∉ rs) : LLs (upd H acc (.lst ys)) rs N := ⟨h.1, fun j r xs a b => by
  rw [upd_ne (by intro z; subst z; exact e (List.mem_of_getElem? a))]
  exact h.2 j r xs a b⟩
theorem snoc_get {α : Type} {xs : List α} {x y : α} {j : Nat} (h : (xs ++ [x])[j]? = some y) : xs[j]? = some y ∨ (j = xs.length ∧ y = x) := by
  by_cases hj : j < xs.length
  · rw [List.getElem?_append_left hj] at h; exact .inl h
  · rw [List.getElem?_append_right (by omega)] at h
    have : j - xs.length = 0 := by
      cases e : j - xs.length with
      | zero => rfl
      | succ m => rw [e] at h; simp at h
    rw [this] at h
    exact .inr ⟨by omega, by simpa using h.symm⟩
theorem TTs.snoc {H : Hp} {rs : List Addr} {N : List (List Int)} {r : Addr} {x : List Int} (h : TTs H rs N) (e : H r = some (.tup (x.map V.int))) : TTs H (rs ++ [r]) (N ++ [x]) := ⟨by simp [h.1], fun j r' xs a b => by
  rcases snoc_get a with a | ⟨a, rfl⟩
  · rcases snoc_get b with b | ⟨b, _⟩
    · exact h.2 j r' xs a b
    · have := (List.getElem?_eq_some_iff.mp a).1; have := h.1; omega
  · rcases snoc_get b with b | ⟨_, rfl⟩
    · have := (List.getElem?_eq_some_iff.mp b).1; have := h.1; omega
    · exact e⟩
theorem LLs.snoc {H : Hp} {rs : List Addr} {N : List (List Int)} {r : Addr} {x : List Int} (h : LLs H rs N) (e : H r = some (.lst (x.map V.int))) : LLs H (rs ++ [r]) (N ++ [x]) := ⟨by simp [h.1], fun j r' xs a b => by
  rcases snoc_get a with a | ⟨a, rfl⟩
  · rcases snoc_get b with b | ⟨b, _⟩
    · exact h.2 j r' xs a b
    · have := (List.getElem?_eq_some_iff.mp a).1; have := h.1; omega
  · rcases snoc_get b with b | ⟨_, rfl⟩
    · have := (List.getElem?_eq_some_iff.mp b).1; have := h.1; omega
    · exact e⟩
theorem all_range (n : Nat) : ((List.range n).all fun _ => true) = true := by simp
end
end L2

set_option Elab.async false
set_option linter.all false
set_option maxRecDepth 100000
set_option maxHeartbeats 4000000
namespace L2
open PySem PySem.Spec PyProof.Rows
/-! ### what a thing reads as: leaves, lists and tuples -/
mutual
inductive RdN (H : Hp) : V → PyData → Prop
  | non : RdN H .non .none
  | bl (b : Bool) : RdN H (.bl b) (.bool b)
  | int (i : Int) : RdN H (.int i) (.int i)
  | str (x : Str) : RdN H (.str x) (.str x)
  | lst {a : Addr} {xs : List V} {ds : List PyData} : H a = some (.lst xs) → RdL H xs ds → RdN H (.ref a) (.list ds)
  | tup {a : Addr} {xs : List V} {ds : List PyData} : H a = some (.tup xs) → RdL H xs ds → RdN H (.ref a) (.tuple ds)
inductive RdL (H : Hp) : List V → List PyData → Prop
  | nil : RdL H [] []
  | cons {x : V} {xs : List V} {d : PyData} {ds : List PyData} : RdN H x d → RdL H xs ds → RdL H (x :: xs) (d :: ds)
end
section
variable {P : Program} {w : World} {H : Hp} {h : Heap}
end
section
variable {X : Cx}
theorem op_isnotB : OpR X (compareOp .IsNot) (fun x y H Q => ∃ b c : Bool, x = .bl b ∧ y = .bl c ∧ Q (.bl (b != c)) H) := by
  intro pins s σ H x y v u Q I rx ry h
  obtain ⟨b, c, rfl, rfl, q⟩ := h
  cases rx
  cases ry
  exact isnot_bool ⟨.bl _, H, I, rfl, q⟩
end
end L2

set_option Elab.async false
set_option linter.all false
set_option maxRecDepth 100000
set_option maxHeartbeats 4000000
namespace L2
open PySem PySem.Spec PyProof.Rows PySem.SeqAt
/-! ### isinstance(x, (T, ..)) -/
inductive TyS (H : Hp) : V → Value → Prop
  | int (i : Int) : TyS H (.int i) (.type "int")
  | bl (b : Bool) : TyS H (.bl b) (.type "bool")
  | lst {a : Addr} {xs : List V} (e : H a = some (.lst xs)) : TyS H (.ref a) (.type "list")
  | tup {a : Addr} {xs : List V} (e : H a = some (.tup xs)) : TyS H (.ref a) (.type "tuple")
theorem tys_vals : ∀ {Ts : List String} {its : List Value}, Vals (Ts.map V.ty) its → its = Ts.map Value.type
  | [], _, r => by cases r; rfl
  | T :: Ts, _, r => by
    cases r with
    | cons r1 r2 =>
      rw [tys_vals r2]
      cases (show _ = Value.type T from r1)
      rfl
section
variable {X : Cx}
theorem call_isinstT : CallR X (.builtin "isinstance") (fun xs H Q => ∃ (x : V) (tp : Addr) (Ts : List String) (t : Value) (b : Bool), xs = [x, .ref tp] ∧ H tp = some (.tup (Ts.map V.ty)) ∧ TyS H x t ∧ PySem.W.kitAny X.K t (Ts.map Value.type) = some b ∧ Q (.bl b) H) := by
  intro pins s σ H xs us Q I r h
  obtain ⟨x, tp, Ts, t, b, rfl, htp, ty, e, q⟩ := h
  obtain ⟨u, u2, rfl, r1, r2⟩ := vals2 r
  cases r2
  obtain ⟨_, its, rv, ⟨oc, od, oa, osl⟩, h1, h2, h3, n, h4⟩ := (show ObjOk X.prog X.w H s.heap tp (.tup (Ts.map V.ty)) from I.hok tp _ htp)
  dsimp only at h2 h3 h4
  subst h2; subst h3; subst h4
  rw [tys_vals rv] at h1
  have fin : ∀ tk, EP X pins σ Q (.bool b) { s with toks := tk } := fun tk => ⟨.bl b, H, I.tok _, rfl, q⟩
  cases ty with
  | int i => obtain ⟨t, z⟩ := (show ∃ t, u = Value.int i t from r1); cases z; exact PySem.W.kia_tup PySem.W.kitx_int I.kIn True.intro h1 e (fun z => nomatch z) fin
  | bl y => cases (show u = Value.bool y from r1); exact PySem.W.kia_tup PySem.W.kitx_bool I.kIn True.intro h1 e (fun z => nomatch z) fin
  | @lst a xs ea =>
    cases (show u = Value.ref a from r1)
    obtain ⟨_, _, n, _, g1⟩ := (show ObjOk X.prog X.w H s.heap a (.lst xs) from I.hok a _ ea)
    exact PySem.W.kia_tup PySem.W.kitx_list I.kIn ⟨_, g1, rfl⟩ h1 e (fun z => nomatch z) fin
  | @tup a xs ea =>
    cases (show u = Value.ref a from r1)
    obtain ⟨_, _, _, o, g1, g2, _⟩ := (show ObjOk X.prog X.w H s.heap a (.tup xs) from I.hok a _ ea)
    exact PySem.W.kia_tup PySem.W.kitx_tuple I.kIn ⟨o, g1, g2⟩ h1 e (fun z => nomatch z) fin
end
end L2

set_option Elab.async false
set_option linter.all false
set_option maxRecDepth 100000
set_option maxHeartbeats 4000000
namespace L2
open PySem PySem.Spec PyProof.Rows PySem.SeqAt
section
variable {X : Cx}
theorem argBest_max (f : Nat → Int) : ∀ k i, i ≤ k → f i ≤ f (argBest (fun i j => decide (f j < f i)) k)
  | 0, i, h => by
    have : i = 0 := by omega
    subst this
    exact Int.le_refl _
  | k + 1, i, h => by
    unfold argBest
    by_cases e : f (argBest (fun i j => decide (f j < f i)) k) < f (k + 1)
    · rw [if_pos (decide_eq_true e)]
      by_cases hi : i = k + 1
      · subst hi; exact Int.le_refl _
      · have := argBest_max f k i (by omega)
        omega
    · rw [if_neg (by simpa using e)]
      by_cases hi : i = k + 1
      · subst hi; omega
      · exact argBest_max f k i (by omega)
/-- the walk over a list or a tuple, as its iterator lies -/
theorem walkB {b : Bool} {pins : List (Addr × Obj)} {σ : St} {H : Hp} {s : Shared} {a : Addr} {ns : List Int} {Q : Value → Shared → Prop} {A : Around} {E : Value → Shared → Prop} (I : Inv X pins σ H s) (hh : A.handled = none) (h : SqB b X.K H a (ns.map V.int))
    (k : ∀ (I0 : Addr) (fp wr : List Addr) (P : Nat → Value → Prop) (St : Nat → Heap → Prop) (s2 : Shared), Walks X.prog X.w A I0 fp wr ns.length P St → St 0 s2.heap → (∀ c ∈ fp, c < s2.heap.objs.size) → (∀ i v, P i v → i < ns.length ∧ ∃ t, v = .int (ns.getD i 0) t) →
      (∀ h' tk, (∀ c o, c ∉ wr → s2.heap.get? c = some o → h'.get? c = some o) → Inv X pins σ H { s2 with heap := h', toks := tk }) → Q (.ref I0) s2) : wpAny (model X.prog X.w) A (pyIter (.ref a)) Q E s := by
  have fin : ∀ (its : List Value) (rv : Vals (ns.map V.int) its) (ob : Obj), a < s.heap.objs.size → (∀ h' tk, (∀ c o, c ∉ [s.heap.objs.size] → (s.heap.push ob).get? c = some o → h'.get? c = some o) → Inv X pins σ H { s with heap := h', toks := tk }) ∧ its.toArray.size = ns.length ∧
      (∀ i v, its.toArray[i]? = some v → i < ns.length ∧ ∃ t, v = .int (ns.getD i 0) t) ∧ ∀ c ∈ [s.heap.objs.size, a], c < (s.heap.push ob).objs.size := fun its rv ob hlt => by
    have hlen : its.toArray.size = ns.length := by rw [List.size_toArray, ← rv.length, List.length_map]
    refine ⟨fun h' tk hk => I.kept (h' := h') (t' := tk) fun c o e => hk c o ?_ (Heap.get?_push_of_some _ e), hlen, fun i v e => ?_, fun c hc => ?_⟩
    · intro hm
      have : c = s.heap.objs.size := by simpa using hm
      rw [this] at e
      exact absurd (Heap.lt_size e) (Nat.lt_irrefl _)
    · have hi : i < its.toArray.size := (Array.getElem?_eq_some_iff.mp e).1
      obtain ⟨t, q⟩ := ints_at rv hi
      rw [Array.getElem?_eq_getElem hi] at e
      have e' := Option.some.inj e
      rw [q] at e'
      exact ⟨by rw [← hlen]; exact hi, t, e'.symm⟩
    · rcases List.mem_cons.mp hc with z | z
      · rw [z, Heap.size_push]; exact Nat.lt_succ_self _
      · have z : c = a := by simpa using z
        rw [z, Heap.size_push]
        exact Nat.lt_succ_of_lt hlt
  cases b with
  | true =>
    obtain ⟨its, rv, p, hz⟩ := I.list h
    have hlt : a < s.heap.objs.size := by obtain ⟨o, n, e, _⟩ := p; exact Heap.lt_size e
    have hne : a ≠ s.heap.objs.size := Nat.ne_of_lt hlt
    refine wpAny_pyIter_list p.isList ?_
    obtain ⟨f1, f2, f3, f4⟩ := fin its rv _ hlt
    have W := Walks.list (prog := X.prog) (w := X.w) (A := A) hh s.heap.objs.size a hne its.toArray
    rw [f2] at W
    refine k _ _ _ _ _ _ W ⟨⟨_, Heap.get?_push_size _ rfl, rfl, rfl⟩, ?_⟩ f4 f3 f1
    obtain ⟨o, n, e, c, _, d⟩ := p
    exact ⟨o, Heap.get?_push_of_some _ e, c, n, d⟩
  | false =>
    obtain ⟨its, rv, p0, hz⟩ := I.tuple h
    have p : s.heap.IsTuple a its.toArray := p0
    have hlt : a < s.heap.objs.size := by obtain ⟨o, e, _⟩ := p; exact Heap.lt_size e
    have hne : a ≠ s.heap.objs.size := Nat.ne_of_lt hlt
    refine wpAny_pyIter_tuple p ?_
    obtain ⟨f1, f2, f3, f4⟩ := fin its rv _ hlt
    have W := Walks.tuple (prog := X.prog) (w := X.w) (A := A) hh s.heap.objs.size a hne its.toArray
    rw [f2] at W
    refine k _ _ _ _ _ _ W ⟨⟨_, Heap.get?_push_size _ rfl, rfl, rfl⟩, ?_⟩ f4 f3 f1
    obtain ⟨o, e, c, d⟩ := p
    exact ⟨o, Heap.get?_push_of_some _ e, c, d⟩
theorem getD_mem {ns : List Int} {i : Nat} (h : i < ns.length) : ns.getD i 0 ∈ ns := by
  rw [List.getD_eq_getElem?_getD, List.getElem?_eq_getElem h]
  exact List.getElem_mem h
/-- max(..) of a list or a tuple of ints -/
theorem call_maxB (hc : X.calm = true) : CallR X (.builtin "max") (fun xs H Q => ∃ (b : Bool) (a : Addr) (ns : List Int), xs = [.ref a] ∧ SqB b X.K H a (ns.map V.int) ∧ ns ≠ [] ∧ ∀ m, m ∈ ns → (∀ x ∈ ns, x ≤ m) → Q (.int m) H) := by
  intro pins s σ H xs us Q I r h
  obtain ⟨b, a, ns, rfl, hq, hn, q⟩ := h
  obtain ⟨u, rfl, r1⟩ := vals1 r
  cases r1
  have hpos : 0 < ns.length := List.length_pos_iff.mpr hn
  refine call_max_walk (walkB I (I.ok.hd hc) hq fun I0 fp wr P St s2 W st hfp hP hk => ?_)
  refine ⟨I0, fp, wr, ns.length, P, St, fun i j => decide (ns.getD j 0 < ns.getD i 0), rfl, W, st, hfp, hpos, ?_, ?_⟩
  · intro i j vi vj s' Q' E' hi hj hQ
    obtain ⟨_, t, rfl⟩ := hP i vi hi
    obtain ⟨_, t', rfl⟩ := hP j vj hj
    exact gt_int hQ
  · intro v h' tk hPv hkk
    obtain ⟨hi, t, rfl⟩ := hP _ v hPv
    refine ⟨.int _, H, hk h' tk hkk, ⟨t, rfl⟩, q _ (getD_mem hi) fun x hx => ?_⟩
    obtain ⟨i, hi', e⟩ := List.getElem_of_mem hx
    have := argBest_max (fun i => ns.getD i 0) (ns.length - 1) i (by omega)
    have e2 : ns.getD i 0 = ns[i] := by rw [List.getD_eq_getElem?_getD, List.getElem?_eq_getElem hi']; rfl
    rw [← e, ← e2]
    exact this
/-- min(..) of a list or a tuple of ints -/
theorem call_minB (hc : X.calm = true) : CallR X (.builtin "min") (fun xs H Q => ∃ (b : Bool) (a : Addr) (ns : List Int), xs = [.ref a] ∧ SqB b X.K H a (ns.map V.int) ∧ ns ≠ [] ∧ ∀ m, m ∈ ns → (∀ x ∈ ns, m ≤ x) → Q (.int m) H) := by
  intro pins s σ H xs us Q I r h
  obtain ⟨b, a, ns, rfl, hq, hn, q⟩ := h
  obtain ⟨u, rfl, r1⟩ := vals1 r
  cases r1
  have hpos : 0 < ns.length := List.length_pos_iff.mpr hn
  refine call_min_walk (walkB I (I.ok.hd hc) hq fun I0 fp wr P St s2 W st hfp hP hk => ?_)
  refine ⟨I0, fp, wr, ns.length, P, St, fun i j => decide (ns.getD i 0 < ns.getD j 0), rfl, W, st, hfp, hpos, ?_, ?_⟩
  · intro i j vi vj s' Q' E' hi hj hQ
    obtain ⟨_, t, rfl⟩ := hP i vi hi
    obtain ⟨_, t', rfl⟩ := hP j vj hj
    exact lt_int hQ
  · intro v h' tk hPv hkk
    obtain ⟨hi, t, rfl⟩ := hP _ v hPv
    refine ⟨.int _, H, hk h' tk hkk, ⟨t, rfl⟩, q _ (getD_mem hi) fun x hx => ?_⟩
    obtain ⟨i, hi', e⟩ := List.getElem_of_mem hx
    have := argBest_min (fun i => ns.getD i 0) (ns.length - 1) i (by omega)
    have e2 : ns.getD i 0 = ns[i] := by rw [List.getD_eq_getElem?_getD, List.getElem?_eq_getElem hi']; rfl
    rw [← e, ← e2]
    exact this
end
/-- a comprehension over zip of two, the second no longer than the first -/
theorem comp_zipR {b1 b2 : Bool} {K : PySem.W.Frag} {own : List Str} {js : List Nat} {g : TG} {tt : TT} {te : TE} {σ : St} {H1 : Hp} {Q : VK} {a b : Addr} {xs ys : List V} (hlen : ys.length ≤ xs.length) (Pv : Addr → Nat → Hp → Prop) (h0 : ∀ acc, H1 acc = none → Pv acc 0 (upd H1 acc (.lst [])))
    (hl : ∀ acc i H, H1 acc = none → i ≤ ys.length → Pv acc i H → SqB b1 K H a xs ∧ SqB b2 K H b ys)
    (hs : ∀ acc i x y p H, H1 acc = none → xs[i]? = some x → ys[i]? = some y → Pv acc i H → H p = none → g (.ref p) (blkσ own js σ) (upd H p (.tup [x, y])) fun τ H4 => tt τ H4 fun c H5 =>
      if c = true then te τ H5 fun y H6 => ∃ zs, H6 acc = some (.lst zs) ∧ zs.length < sizeLine ∧ (i + 1 ≤ ys.length ∧ Pv acc (i + 1) (upd H6 acc (.lst (zs ++ [y])))) else (i + 1 ≤ ys.length ∧ Pv acc (i + 1) H5))
    (hd : ∀ acc H, H1 acc = none → Pv acc ys.length H → Q (.ref acc) H) : tCompW own js g tt te σ (ItzB b1 b2 K a b) H1 Q := by
  intro acc hacc
  refine ⟨fun i H => i ≤ ys.length ∧ Pv acc i H, ys.length, ⟨Nat.zero_le _, h0 acc hacc⟩, ?_⟩
  rintro i H ⟨hi, p⟩
  obtain ⟨q1, q2⟩ := hl acc i H hacc hi p
  by_cases hlt : i < ys.length
  · have hl2 : i < xs.length := by omega
    refine .inr ⟨hlt, ⟨xs, ys, xs[i], ys[i], q1, q2, by simp [hl2], by simp [hlt]⟩, fun x H' y => ?_⟩
    obtain ⟨pa, z1, z2, hp, e1, e2, y1, y2⟩ := y
    subst e1 e2
    exact hs acc i z1 z2 pa H hacc (y1 xs q1) (y2 ys q2) p hp
  · have e : i = ys.length := by omega
    subst e
    exact .inl ⟨⟨xs, ys, q1, q2, .inr (Nat.le_refl _)⟩, hd acc H hacc p⟩
end L2

set_option Elab.async false
set_option linter.all false
set_option maxRecDepth 100000
set_option maxHeartbeats 4000000
namespace L2
open PySem PySem.Spec PyProof.Rows PySem.SeqAt
section
variable {prog : Program} {w : World} {A : Around} {E : Value → Shared → Prop} {s : Shared}
end
section
variable {X : Cx}
end
end L2

set_option Elab.async false
set_option linter.all false
set_option maxRecDepth 100000
set_option maxHeartbeats 4000000
namespace Lv
open PySem L2
theorem pe_ty {X : Cx} {x : Str} {T : String} {pos : Pos} (hg : Gl X x) (hm : X.mg x = none) (hv : bootBuiltins x = some (.type T)) (hn : x ≠ "__name__" := by decide) (hd : (x == ("__debug__" : Str)) = false := by decide) : PE X (.Name x pos) (tC (.ty T)) :=
  pe_bltn hg hm hv rfl hn hd
theorem pe_gint {X : Cx} {x : Str} {i : Int} {t : Tok} {pos : Pos} (hg : Gl X x) (hm : X.mg x = some (.int i t)) (hd : (x == ("__debug__" : Str)) = false := by decide) : PE X (.Name x pos) (tC (.int i)) :=
  pe_glob hg hm ⟨t, rfl⟩ hd
/-- the names of the module that are none of the text's own -/
structure Txt (mg : Str → Option Value) : Prop where
  isinstance : mg "isinstance" = none
  int : mg "int" = none
  bool : mg "bool" = none
  list : mg "list" = none
  tuple : mg "tuple" = none
  min : mg "min" = none
  max : mg "max" = none
  len : mg "len" = none
  range : mg "range" = none
  all : mg "all" = none
  sum : mg "sum" = none
  sorted : mg "sorted" = none
  zip : mg "zip" = none
theorem b_isinstance : bootBuiltins "isinstance" = some (.builtin "isinstance") := by decide +kernel
theorem b_int : bootBuiltins "int" = some (.type "int") := by decide +kernel
theorem b_bool : bootBuiltins "bool" = some (.type "bool") := by decide +kernel
theorem b_list : bootBuiltins "list" = some (.type "list") := by decide +kernel
theorem b_tuple : bootBuiltins "tuple" = some (.type "tuple") := by decide +kernel
theorem b_min : bootBuiltins "min" = some (.builtin "min") := by decide +kernel
theorem b_max : bootBuiltins "max" = some (.builtin "max") := by decide +kernel
theorem b_all : bootBuiltins "all" = some (.builtin "all") := by decide +kernel
theorem b_sum : bootBuiltins "sum" = some (.builtin "sum") := by decide +kernel
theorem b_sorted : bootBuiltins "sorted" = some (.builtin "sorted") := by decide +kernel
theorem kit_int_int {K : PySem.W.Frag} : PySem.W.kitOne K (.type "int") (.type "int") = some true := by rfl
theorem kit_int_bool {K : PySem.W.Frag} : PySem.W.kitOne K (.type "int") (.type "bool") = some false := by with_unfolding_all rfl
theorem kit_tuple_tuple {K : PySem.W.Frag} : PySem.W.kitOne K (.type "tuple") (.type "tuple") = some true := by rfl
/-- a def of the text that is called by its name -/
structure Cal (P : Program) (w : World) (K : PySem.W.Frag) (mg : Str → Option Value) (base : Heap) (k : Nat) (x : Str) (ps : List Str) (sp : Sp) (f : Addr) (fd : FuncData) : Prop where
  ok : FnOk P w K mg base CX0 k f fd ps sp
  mg : mg x = some (.ref f)
  kp : PySem.W.keepIn K (.ref f) = true
  bd : Binds K fd ps []
theorem pe_cal {X : Cx} {k : Nat} {x : Str} {ps : List Str} {sp : Sp} {f : Addr} {fd : FuncData} {e : Expr} {es : List Expr} {t : TA} {p pos : Pos} (C : Cal X.prog X.w X.K X.mg X.base k x ps sp f fd) (hr : Room k X.A) (hg : Gl X x) (ha : PA X (e :: es) t)
    (hdb : (x == ("__debug__" : Str)) = false := by decide) (he : starEach (e :: es) X.env = (false, eval e X.env) :: starEach es X.env := by rfl) (hpl : (backTo pos (starEach es X.env)).any (·.1) = false := by rfl) :
    PE X (.Call (.Name x p) (e :: es) [] pos) (tCall sp [] E0 t) := pe_call C.ok hr hg C.mg C.kp C.bd .nil pass0 ha hdb he hpl
theorem ixK_list (K : PySem.W.Frag) {X : Cx} (hK : X.K = K := by rfl) : IxR X (rIxL K) := by subst hK; exact ix_list
theorem map_get {xs : List Int} {i : Nat} {x : V} (h : (xs.map V.int)[i]? = some x) : ∃ p, xs[i]? = some p ∧ x = .int p := by
  rw [List.getElem?_map] at h
  cases e : xs[i]? with
  | none => rw [e] at h; cases h
  | some p => rw [e] at h; exact ⟨p, rfl, (Option.some.inj h).symm⟩
theorem _root_.L2.Same.new {q : Addr} {H : Hp} {o : HO} (h : H q = none) : Same H (upd H q o) := fun b u e => by rw [upd_ne (ne_of_none e h)]; exact e
theorem _root_.L2.Same.put {q : Addr} {H H' : Hp} {o : HO} (s : Same H H') (h : H q = none) : Same H (upd H' q o) := fun b u e => by rw [upd_ne (ne_of_none e h)]; exact s b u e
theorem _root_.L2.Same.tup {K : PySem.W.Frag} {H H' : Hp} {a : Addr} {xs : List V} (e : Same H H') (h : SqT K H a xs) : SqT K H' a xs := by
  rcases h with (h | ⟨o, h⟩) | h
  · exact .inl (.inl (e _ _ h))
  · exact .inl (.inr ⟨o, e _ _ h⟩)
  · exact .inr h
theorem ixN_of {n : Nat} {x : Int} (h0 : 0 ≤ x) (h1 : x < n) : ixN n x = some x.toNat := by
  unfold ixN
  rw [if_pos h0, if_pos h1]
theorem atI_int {fs : List Int} {x : Int} (h0 : 0 ≤ x) (h1 : x < fs.length) : atI (fs.map V.int) x = some (.int (fs.getD x.toNat 0)) := by
  unfold atI
  have hx : x.toNat < fs.length := by omega
  rw [List.length_map, ixN_of h0 h1]
  show (fs.map V.int)[x.toNat]? = _
  rw [List.getElem?_map, List.getElem?_eq_getElem hx, List.getD_eq_getElem?_getD, List.getElem?_eq_getElem hx]
  rfl
theorem atI_head {c0 : Int} {cr : List Int} : atI ((c0 :: cr).map V.int) 0 = some (.int c0) := atI_nat (j := 0) rfl
theorem all_true (n : Nat) : (List.replicate n true).all id = true := by
  rw [List.all_eq_true]
  intro b hb
  exact (List.mem_replicate.mp hb).2
/-! ### a text cut in two -/
theorem cut2 {a b R : TS} {D : Ends} {σ : St} {H : Hp} (M : St → Hp → Prop) (h1 : ∀ R' : TS, (∀ σ' H', M σ' H' → R' D σ' H') → tSeq a (tSeq b R') D σ H) (h2 : ∀ σ' H', M σ' H' → R D σ' H') : tSeq a (tSeq b R) D σ H := h1 R h2
theorem cut1 {a R : TS} {D : Ends} {σ : St} {H : Hp} (M : St → Hp → Prop) (h1 : ∀ R' : TS, (∀ σ' H', M σ' H' → R' D σ' H') → tSeq a R' D σ H) (h2 : ∀ σ' H', M σ' H' → R D σ' H') : tSeq a R D σ H := h1 R h2
/-! ### pools of two ints -/
/-- all but p as it was -/
def Sm (p : Addr) (H H' : Hp) : Prop := ∀ b o, H b = some o → b ≠ p → H' b = some o
theorem Sm.trans {p : Addr} {H H1 H2 : Hp} (a : Sm p H H1) (b : Sm p H1 H2) : Sm p H H2 := fun c o h n => b c o (a c o h n) n
theorem Sm.refl (p : Addr) (H : Hp) : Sm p H H := fun _ _ h _ => h
theorem Sm.of {p : Addr} {H H' : Hp} (h : Same H H') : Sm p H H' := fun b o e _ => h b o e
theorem Sm.new {p q : Addr} {H : Hp} {o : HO} (h : H q = none) : Sm p H (upd H q o) := fun b u e _ => by rw [upd_ne (ne_of_none e h)]; exact e
theorem Sm.put {p : Addr} {H : Hp} {o : HO} : Sm p H (upd H p o) := fun b u e n => by rw [upd_ne n]; exact e
theorem Sm.free {p q : Addr} {H H' : Hp} (s : Sm p H H') (hn : q ≠ p) (h : H' q = none) : H q = none := by
  cases e : H q with
  | none => rfl
  | some o => rw [s q o e hn] at h; cases h
def spWhole : Sp := fun vs H Q _ => ∃ i, vs = [.int i] ∧ Q (.bl true) H
theorem bits_small {m : Int} (h0 : 0 ≤ m) (h1 : m < 2 ^ 64) : Builtin.Int.intBits m ≤ 8000 := Nat.le_trans (intBits_le_64 (by omega) h1) (by decide)
/-! ### counts of levels, in plain Lean -/
def nextC (c : List Int) : List Int := (c.tail.map (c.getD 0 0 + ·)) ++ [c.getD 0 0]
def firstC (p : Nat) : List Int := 1 :: List.replicate (p - 1) 0
def cnt (p : Nat) : Nat → List Int
  | 0 => firstC p
  | n + 1 => nextC (cnt p n)
theorem nextC_len {c : List Int} (h : c ≠ []) : (nextC c).length = c.length := by
  cases c with
  | nil => exact absurd rfl h
  | cons x r => simp [nextC]
theorem cnt_len {p : Nat} (hp : 1 ≤ p) : ∀ n, (cnt p n).length = p
  | 0 => by simp [cnt, firstC]; omega
  | n + 1 => by
    have := cnt_len hp n
    show (nextC (cnt p n)).length = p
    rw [nextC_len (by intro z; rw [z] at this; simp at this; omega), this]
def Down (c : List Int) : Prop := c.Pairwise (· ≥ ·) ∧ ∀ x ∈ c, 0 ≤ x
theorem down_next {c : List Int} (h : Down c) : Down (nextC c) := by
  cases c with
  | nil => exact ⟨by simp [nextC], by intro x hx; simp [nextC] at hx; omega⟩
  | cons a r =>
    obtain ⟨h1, h2⟩ := h
    have h3 := List.pairwise_cons.mp h1
    have h0 : 0 ≤ a := h2 a (by simp)
    refine ⟨?_, ?_⟩
    · show ((r.map (a + ·)) ++ [a]).Pairwise (· ≥ ·)
      rw [List.pairwise_append]
      refine ⟨?_, by simp, ?_⟩
      · rw [List.pairwise_map]
        exact h3.2.imp fun h => by omega
      · intro x hx y hy
        obtain ⟨z, hz, rfl⟩ := List.mem_map.mp hx
        have := h2 z (by simp [hz])
        have : y = a := by simpa using hy
        omega
    · show ∀ x ∈ (r.map (a + ·)) ++ [a], 0 ≤ x
      intro x hx
      rcases List.mem_append.mp hx with hx | hx
      · obtain ⟨z, hz, rfl⟩ := List.mem_map.mp hx
        have := h2 z (by simp [hz])
        omega
      · have : x = a := by simpa using hx
        omega
theorem down_cnt (p : Nat) : ∀ n, Down (cnt p n)
  | 0 => by
    refine ⟨?_, ?_⟩
    · show (1 :: List.replicate (p - 1) (0 : Int)).Pairwise (· ≥ ·)
      rw [List.pairwise_cons]
      refine ⟨fun y hy => ?_, ?_⟩
      · have := (List.mem_replicate.mp hy).2
        omega
      · rw [List.pairwise_replicate]
        exact .inr (Int.le_refl _)
    · intro x hx
      rcases List.mem_cons.mp hx with rfl | hx
      · decide
      · have := (List.mem_replicate.mp hx).2
        omega
  | n + 1 => down_next (down_cnt p n)
def spWays : Sp := fun vs H Q _ => ∃ i, vs = [.int i] ∧ 2 ≤ i ∧ i ≤ 7 ∧ Q .non H
def spFirst : Sp := fun vs H Q _ => ∃ p : Nat, vs = [.int p] ∧ 2 ≤ p ∧ p ≤ 7 ∧ ∀ l H', H l = none → H' l = some (.tup ((firstC p).map V.int)) → Same H H' → Q (.ref l) H'
def spNext (K : PySem.W.Frag) : Sp := fun vs H Q _ => ∃ (a : Addr) (c : List Int), vs = [.ref a] ∧ SqT K H a (c.map V.int) ∧ 2 ≤ c.length ∧ c.length ≤ 7 ∧ ∀ l H', H l = none → H' l = some (.tup ((nextC c).map V.int)) → Same H H' → Q (.ref l) H'
def spCounts : Sp := fun vs H Q _ => ∃ p n : Nat, vs = [.int p, .int n] ∧ 2 ≤ p ∧ p ≤ 7 ∧ n ≤ 300 ∧ ∀ l H', H l = none → H' l = some (.tup ((cnt p n).map V.int)) → Same H H' → Q (.ref l) H'
def spLaw (K : PySem.W.Frag) : Sp := fun vs H Q _ => ∃ (a : Addr) (ns : List Int), vs = [.ref a] ∧ SqL K H a (ns.map V.int) ∧ ns.length ≤ 63 ∧ ∀ H', Q (.bl true) H'
end Lv

set_option Elab.async false
set_option linter.all false
set_option maxRecDepth 100000
set_option maxHeartbeats 4000000
namespace Lv
open PySem L2 PySem.Spec PyProof.Rows
/-- a def of the text with defaults, which lie in the tuple at da -/
structure FunD (K : PySem.W.Frag) (x qual : Str) (st : Stmt) (f da : Addr) (fd : FuncData) : Prop where
  ex : ∃ (oc : Value) (od : Option Addr) (kV doc pm : Value) (an : Option Addr) (cdv ct : Value) (osl : Array (Option Value)),
    fd = PySem.W.fnOf x qual (defArgs st) (defBody st) (defScope st) (.ref da) kV doc pm an cdv ct ∧ K.lookup f = some ⟨oc, od, .func fd, osl⟩ ∧ PySem.W.codeIn K cdv qual = true
  kp : PySem.W.keepIn K (.ref f) = true
section
variable {P : Program} {w : World} {K : PySem.W.Frag} {mg : Str → Option Value} {base : Heap}
theorem FunD.ok {x qual : Str} {st : Stmt} {f da : Addr} {fd : FuncData} {N ps : List Str} {k : Nat} {sp : Sp} (F : FunD K x qual st f da fd) (S : FnScope N ps (defScope st)) (len : ∀ vs H Q E, sp vs H Q E → vs.length = ps.length)
    (hbody : ∀ (cdv : Value) (A : Around) (outer : List Env) (s : Shared) (H : Hp) (vs : List V) (Q : VK) (E : XK), Room k (A.deeper (envOfC qual (defScope st) s.heap.objs.size f cdv)) → sp vs H Q E →
      ∃ t, PSs (cxOf CX0 P w K mg base N qual (defScope st) f cdv A outer s H E).nox (defBody st) t ∧ t { nx := fun _ H' => Q .non H', rt := Q } (start N vs) H) : FnOk P w K mg base CX0 (k + 1) f fd ps sp := by
  obtain ⟨oc, od, kV, doc, pm, an, cdv, ct, osl, rfl, lk, hcd⟩ := F.ex
  refine fn_of lk hcd S len fun A outer s H vs Q E hr hsp => ?_
  obtain ⟨t, h, q⟩ := hbody cdv A outer s H vs Q E hr hsp
  exact ⟨t, h.nox, q⟩
theorem FunD.binds {x qual : Str} {st : Stmt} {f da : Addr} {fd : FuncData} {ps : List Str} {o : Obj} {items : Array Value} {n : Nat} (F : FunD K x qual st f da fd) (ho : K.lookup da = some o) (hs : o.data = .seq items n) (ds : List Value) (qs : List Str) (hq : qs.length + ds.length = ps.length)
    (h : ∀ (kV doc pm : Value) (an : Option Addr) (cdv ct : Value) (us : List Value), us.length = qs.length →
      ∃ k : Option (Array Value) → Sem (List (Str × Value)), bindArgs (PySem.W.fnOf x qual (defArgs st) (defBody st) (defScope st) (.ref da) kV doc pm an cdv ct) ⟨us, []⟩ = seqItems? (.ref da) >>= k ∧ k (some items) = pure (ps.zip (us ++ ds))) : Binds K fd ps ds := by
  obtain ⟨oc, od, kV, doc, pm, an, cdv, ct, osl, rfl, lk, hcd⟩ := F.ex
  intro s us X hl
  obtain ⟨k, h1, h2⟩ := h kV doc pm an cdv ct us (by rw [List.length_append] at hl; omega)
  exact PySem.W.binds_K X rfl ho hs h1 h2
theorem funD_mk {x qual : Str} {st : Stmt} {f da : Addr} {oc : Value} {od an : Option Addr} {osl : Array (Option Value)} {kV doc pm cdv ct : Value} (l : K.lookup f = some ⟨oc, od, .func (PySem.W.fnOf x qual (defArgs st) (defBody st) (defScope st) (.ref da) kV doc pm an cdv ct), osl⟩)
    (c : PySem.W.codeIn K cdv qual = true) (k : PySem.W.keepIn K (.ref f) = true) : FunD K x qual st f da (PySem.W.fnOf x qual (defArgs st) (defBody st) (defScope st) (.ref da) kV doc pm an cdv ct) := ⟨⟨oc, od, kV, doc, pm, an, cdv, ct, osl, rfl, l, c⟩, k⟩
end
/-- such a def, called with the last places left to their defaults dvs -/
structure CalD (P : Program) (w : World) (K : PySem.W.Frag) (mg : Str → Option Value) (base : Heap) (k : Nat) (x : Str) (ps : List Str) (dvs : List V) (sp : Sp) (f : Addr) (fd : FuncData) : Prop where
  ok : FnOk P w K mg base CX0 k f fd ps sp
  mg : mg x = some (.ref f)
  kp : PySem.W.keepIn K (.ref f) = true
  bd : ∃ ds, Binds K fd ps ds ∧ Vals dvs ds
theorem pe_calD {X : Cx} {k : Nat} {x : Str} {ps : List Str} {dvs : List V} {sp : Sp} {f : Addr} {fd : FuncData} {e : Expr} {es : List Expr} {t : TA} {p pos : Pos} (C : CalD X.prog X.w X.K X.mg X.base k x ps dvs sp f fd) (hr : Room k X.A) (hg : Gl X x) (ha : PA X (e :: es) t)
    (hdb : (x == ("__debug__" : Str)) = false := by decide) (he : starEach (e :: es) X.env = (false, eval e X.env) :: starEach es X.env := by rfl) (hpl : (backTo pos (starEach es X.env)).any (·.1) = false := by rfl) :
    PE X (.Call (.Name x p) (e :: es) [] pos) (tCall sp dvs E0 t) := by
  obtain ⟨ds, h1, h2⟩ := C.bd
  exact pe_call C.ok hr hg C.mg C.kp h1 h2 pass0 ha hdb he hpl
def spLevelD : Sp := fun vs H Q _ => ∃ i m, vs = [.int i, .int m] ∧ 0 ≤ i ∧ i ≤ m ∧ Q .non H
end Lv

set_option Elab.async false
set_option linter.all false
set_option maxRecDepth 100000
set_option maxHeartbeats 4000000
namespace Lv
open PySem L2 PySem.Spec PyProof.Rows
/-! ### the script's numbers are of 2 ** 20 bits at most -/
end Lv

set_option Elab.async false
set_option linter.all false
set_option maxRecDepth 100000
set_option maxHeartbeats 4000000
namespace Lv
open PySem L2
def hd (p n : Nat) : Int := (cnt p n).getD 0 0
def tot (p n : Nat) : Int := (cnt p n).sum
theorem cnt_cons {p : Nat} (hp : 2 ≤ p) (n : Nat) : ∃ a b r, cnt p n = a :: b :: r ∧ r.length = p - 2 := by
  have h := cnt_len (p := p) (by omega) n
  match hc : cnt p n with
  | [] => rw [hc] at h; simp at h; omega
  | [x] => rw [hc] at h; simp at h; omega
  | a :: b :: r => rw [hc] at h; exact ⟨a, b, r, rfl, by simp at h; omega⟩
theorem hd_pos {p : Nat} (hp : 2 ≤ p) : ∀ n, 1 ≤ hd p n
  | 0 => by simp [hd, cnt, firstC]
  | n + 1 => by
    obtain ⟨a, b, r, e, _⟩ := cnt_cons hp n
    have ih := hd_pos hp n
    have nn := (down_cnt p n).2 b (by rw [e]; simp)
    unfold hd at ih ⊢
    show 1 ≤ (nextC (cnt p n)).getD 0 0
    rw [e] at ih ⊢
    simp [nextC] at ih ⊢
    omega
end Lv

set_option Elab.async false
set_option linter.all false
set_option maxRecDepth 100000
set_option maxHeartbeats 4000000
namespace Lv
open PySem L2
theorem pgK_tup (K : PySem.W.Frag) {X : Cx} {es : List Expr} {k : Nat} {t : TGs} {n : Nat} {pos : Pos} (hc : X.calm = true) (h : PGs X es t) (hK : X.K = K := by rfl) (hn : (assignEach es X.env).length = n := by rfl) (hst : (assignEach es X.env).findIdx? (·.1) = none := by rfl) : PG X (.Tuple es k pos) (gTup K n t) := by
  subst hK; exact pg_tup hc h hn hst
theorem nextC_getD {c : List Int} {j : Nat} (hj : j < c.length) : (nextC c).getD j 0 = c.getD 0 0 + c.getD (j + 1) 0 := by
  cases c with
  | nil => simp at hj
  | cons a r =>
    show ((r.map (a + ·)) ++ [a]).getD j 0 = a + r.getD j 0
    simp only [List.getD_eq_getElem?_getD]
    by_cases h : j < r.length
    · rw [List.getElem?_append_left (by simpa using h)]
      simp [h]
    · have e : j = r.length := by simp at hj; omega
      subst e
      simp
theorem getD_len {c : List Int} {j : Nat} (h : c.length ≤ j) : c.getD j 0 = 0 := by
  rw [List.getD_eq_getElem?_getD, List.getElem?_eq_none h]
  rfl
theorem getD_nn {c : List Int} (h : ∀ x ∈ c, 0 ≤ x) (j : Nat) : 0 ≤ c.getD j 0 := by
  rw [List.getD_eq_getElem?_getD]
  cases e : c[j]? with
  | none => exact Int.le_refl _
  | some x => exact h x (List.mem_of_getElem? e)
theorem down_head {c : List Int} (h : Down c) (j : Nat) : c.getD j 0 ≤ c.getD 0 0 := by
  cases c with
  | nil => simp
  | cons a r =>
    cases j with
    | zero => exact Int.le_refl _
    | succ j =>
      show r.getD j 0 ≤ a
      rw [List.getD_eq_getElem?_getD]
      cases e : r[j]? with
      | none => exact h.2 a (by simp)
      | some x => exact (List.pairwise_cons.mp h.1).1 x (List.mem_of_getElem? e)
theorem grow {p : Nat} (hp : 1 ≤ p) (n j : Nat) (hj : j < p) : (cnt p n).getD j 0 ≤ (cnt p (n + 1)).getD j 0 := by
  show _ ≤ (nextC (cnt p n)).getD j 0
  rw [nextC_getD (by rw [cnt_len hp]; exact hj)]
  have h1 := down_head (down_cnt p n) j
  have h2 := getD_nn (down_cnt p n).2 (j + 1)
  omega
theorem rep_getD (m j : Nat) : (List.replicate m (0 : Int)).getD j 0 = 0 := by
  rw [List.getD_eq_getElem?_getD, List.getElem?_replicate]
  split <;> rfl
end Lv

set_option Elab.async false
set_option linter.all false
set_option maxRecDepth 100000
set_option maxHeartbeats 4000000
namespace HT
open PySem PySem.Spec PyProof.Rows
section
variable {prog : Program} {w : World} {A : Around} {E : Value → Shared → Prop} {s : Shared}
end
end HT

namespace L2
open PySem PySem.Spec PyProof.Rows PySem.SeqAt
inductive TyA (H : Hp) : V → String → Prop
  | non : TyA H .non "NoneType"
  | int (i : Int) : TyA H (.int i) "int"
  | bl (b : Bool) : TyA H (.bl b) "bool"
  | str (x : Str) : TyA H (.str x) "str"
  | lst {a : Addr} {xs : List V} (e : H a = some (.lst xs)) : TyA H (.ref a) "list"
  | tup {a : Addr} {xs : List V} (e : H a = some (.tup xs)) : TyA H (.ref a) "tuple"
  | dK {a : Addr} {kvs : List (Key × V)} (e : H a = some (.dK kvs)) : TyA H (.ref a) "dict"
section
variable {X : Cx}
end
end L2

set_option Elab.async false
set_option linter.all false
set_option maxRecDepth 100000
set_option maxHeartbeats 4000000
namespace Lv
open PySem L2
/-! ### pots of three, of which so many have been taken -/
def PotC (H : Hp) (p : Addr) (c : Int) : Prop := ∃ a b m : Int, H p = some (.lst [.int a, .int b, .int m]) ∧ 0 ≤ b ∧ b ≤ c ∧ 0 ≤ m ∧ m < 2147483647
theorem PotC.put {H : Hp} {p q : Addr} {o : HO} {c : Int} (h : PotC H p c) (hq : H q = none) : PotC (upd H q o) p c := by
  obtain ⟨a, b, m, e, z⟩ := h
  exact ⟨a, b, m, by rw [upd_ne (ne_of_none e hq)]; exact e, z⟩
theorem PotC.ne {H : Hp} {p q : Addr} {c : Int} (h : PotC H p c) (hq : H q = none) : q ≠ p := by
  obtain ⟨a, b, m, e, _⟩ := h
  exact Ne.symm (ne_of_none e hq)
theorem PotC.same {H H' : Hp} {p : Addr} {c : Int} (h : PotC H p c) (s : Same H H') : PotC H' p c := by
  obtain ⟨a, b, m, e, z⟩ := h
  exact ⟨a, b, m, s p _ e, z⟩
theorem PotC.up {H : Hp} {p : Addr} {c d : Int} (h : PotC H p c) (hd : c ≤ d) : PotC H p d := by
  obtain ⟨a, b, m, e, z1, z2, z⟩ := h
  exact ⟨a, b, m, e, z1, by omega, z⟩
theorem PotC.off {H : Hp} {p q : Addr} {o : HO} {c : Int} (h : PotC H p c) (hq : q ≠ p) : PotC (upd H q o) p c := by
  obtain ⟨a, b, m, e, z⟩ := h
  exact ⟨a, b, m, by rw [upd_ne (Ne.symm hq)]; exact e, z⟩
theorem Sm.putC {p q : Addr} {H H2 : Hp} {o : HO} (s : Sm p H H2) (h : H q = none) : Sm p H (upd H2 q o) := fun b u e n => by
  rw [upd_ne (ne_of_none e h)]
  exact s b u e n
def spBegun : Sp := fun vs H Q _ => ∃ z : Int, vs = [.int z] ∧ ∀ p H', H p = none → PotC H' p 0 → Same H H' → Q (.ref p) H'
def spTakeC : Sp := fun vs H Q _ => ∃ (p : Addr) (m c : Int), vs = [.ref p, .int m] ∧ PotC H p c ∧ c ≤ 1000000000 ∧ 0 < m ∧ Builtin.Int.intBits m ≤ 8000 ∧ ∀ d H', 0 ≤ d → d < m → PotC H' p (c + 1) → Sm p H H' → Q (.int d) H'
def spFold (K : PySem.W.Frag) : Sp := fun vs H Q _ => ∃ (a : Addr) (ns : List Int) (m : Nat), vs = [.ref a, .int m] ∧ SqL K H a (ns.map V.int) ∧ ns.length ≤ 63 ∧ 1 ≤ m ∧ m ≤ 50 ∧ ∀ l (fs : List Int) H', H l = none → H' l = some (.lst (fs.map V.int)) → fs.length ≤ 50 → Same H H' → Q (.ref l) H'
def big61 : Int := 10000000000000000000000000000000000000000000000000000000000000
/-! ### things that are told by their kinds -/
/-- rising, from a place on -/
def upI : List Int → Bool
  | [] => true
  | [_] => true
  | a :: b :: r => decide (a ≤ b) && upI (b :: r)
inductive El (H : Hp) : V → Prop
  | int {z : Int} (h1 : -big61 - 2 < z) (h2 : z < big61 + 2) : El H (.int z)
  | bl (b : Bool) : El H (.bl b)
  | non : El H .non
  | str {x : Str} (h : x.length ≤ 400) (hc : ∀ c ∈ x.cps.toList, c < 16 ^ 8) : El H (.str x)
  | lst {a : Addr} {zs : List Int} (e : H a = some (.lst (zs.map V.int))) (hl : zs.length ≤ 3) (hb : ∀ z ∈ zs, -big61 - 2 < z ∧ z < big61 + 2) : El H (.ref a)
  | tup {a : Addr} {zs : List Int} (e : H a = some (.tup (zs.map V.int))) (hl : zs.length ≤ 3) (hb : ∀ z ∈ zs, -big61 - 2 < z ∧ z < big61 + 2) : El H (.ref a)
/-- no list and no tuple -/
inductive Lf (H : Hp) : V → Prop
  | non : Lf H .non
  | int (i : Int) (h : i = 7) : Lf H (.int i)
  | bl (b : Bool) : Lf H (.bl b)
  | str (x : Str) : Lf H (.str x)
  | d0 {a : Addr} (e : H a = some (.dK [])) : Lf H (.ref a)
  | d1 {a : Addr} (e : H a = some (.dK [(.inl 1, .int 2)])) : Lf H (.ref a)
/-! ### texts of things -/
/-- small enough to be shown -/
structure Sh (d : PyData) (n : Nat) : Prop where
  ok : d.showable = true
  nd : d.hasDict = false
  dp : d.depth ≤ 1
  sz : d.shown.length ≤ n
/-! ### rows, told by reckoning -/
end Lv

set_option Elab.async false
set_option linter.all false
set_option maxRecDepth 100000
set_option maxHeartbeats 4000000
namespace L2
open PySem PySem.Spec PyProof.Rows PySem.SeqAt
section
variable {X : Cx}
end
end L2

set_option Elab.async false
set_option linter.all false
set_option maxRecDepth 100000
set_option maxHeartbeats 4000000
namespace Lv
open PySem L2
/-! ### orders by which rows are merged -/
/-- what may be taken next: a row that is there and of which not all is taken -/
def Free (N : List (List Int)) (m : List Nat) (o : Int) : Prop := 0 ≤ o ∧ o < N.length ∧ m.getD o.toNat 0 ≠ (N.getD o.toNat []).length
instance (N : List (List Int)) (m : List Nat) (o : Int) : Decidable (Free N m o) := by unfold Free; infer_instance
def nextM (m : List Nat) (o : Int) : List Nat := m.set o.toNat (m.getD o.toNat 0 + 1)
def atO (N : List (List Int)) (m : List Nat) (o : Int) : Int := (N.getD o.toNat []).getD (m.getD o.toNat 0) 0
def hold (N : List (List Int)) : List Nat → List Int → List Int → Option (List Nat × List Int)
  | m, t, [] => some (m, t)
  | m, t, o :: os => if Free N m o then hold N (nextM m o) (t ++ [atO N m o]) os else none
/-- what has been taken is within -/
def InM (N : List (List Int)) (m : List Nat) : Prop := m.length = N.length ∧ ∀ j, j < N.length → m.getD j 0 ≤ (N.getD j []).length
end Lv

set_option Elab.async false
set_option linter.all false
set_option maxRecDepth 100000
set_option maxHeartbeats 4000000
namespace Lv
open PySem L2
def lenN (N : List (List Int)) : List Nat := N.map List.length
def opn (N : List (List Int)) (m : List Nat) (j : Nat) : Bool := decide (m.getD j 0 < (N.getD j []).length)
def opnL (N : List (List Int)) (m : List Nat) : List Nat := (List.range N.length).filter (opn N m)
structure OrS (N : List (List Int)) (m : List Nat) (t os : List Int) : Prop where
  hd : hold N (N.map fun _ => 0) [] os = some (m, t)
  up : upI t = true
  lst : ∀ l, t.getLast? = some l → ∀ j ∈ opnL N m, l ≤ atO N m j
  inm : InM N m
  sm : m.sum = os.length
end Lv

set_option Elab.async false
set_option linter.all false
set_option maxRecDepth 100000
set_option maxHeartbeats 4000000
namespace L2
open PySem PySem.Spec PyProof.Rows
/-! ### a list comprehension of two clauses -/
abbrev two (elt t1 i1 : Expr) (f1 : List Expr) (t2 i2 : Expr) (f2 : List Expr) (scope : Scope) (pos : Pos) : Expr := .ListComp elt [⟨t1, i1, f1, 0⟩, ⟨t2, i2, f2, 0⟩] scope pos
theorem turn_two0 (elt t1 i1 : Expr) (f1 : List Expr) (t2 i2 : Expr) (f2 : List Expr) (scope : Scope) (pos : Pos) (it acc : Value) (env : Env) :
    compTurn (two elt t1 i1 f1 t2 i2 f2 scope pos) 0 it acc env = (do
      standAt i1.pos
      match ← pyNext it with
      | none => pure (.done .next)
      | some v =>
        letOwnedTupleGo t1 it v
        assign t1 env v
        let mut ok := true
        for c in f1 do
          if ok then ok ← isTrue c env (eval c env)
        if ok then
          let x ← eval i2 env
          standAt i2.pos
          let x ← foldedSetIterable i2 env x
          let _ ← runOwn (.compStart (two elt t1 i1 f1 t2 i2 f2 scope pos) 1 (← holding [x] (pyIter x)) acc env) env
        again (.compLoop (two elt t1 i1 f1 t2 i2 f2 scope pos) 0 it acc env)) := by rfl
theorem turn_two1 (elt t1 i1 : Expr) (f1 : List Expr) (t2 i2 : Expr) (f2 : List Expr) (scope : Scope) (pos : Pos) (it acc : Value) (env : Env) :
    compTurn (two elt t1 i1 f1 t2 i2 f2 scope pos) 1 it acc env = (do
      standAt i2.pos
      match ← pyNext it with
      | none => pure (.done .next)
      | some v =>
        letOwnedTupleGo t2 it v
        assign t2 env v
        let mut ok := true
        for c in f2 do
          if ok then ok ← isTrue c env (eval c env)
        if ok then
          (do let _ ← call (.builtin "list.append") [acc, ← eval elt env])
        again (.compLoop (two elt t1 i1 f1 t2 i2 f2 scope pos) 1 it acc env)) := by rfl
section
variable {prog : Program} {w : World} {A : Around} {R : Result → Shared → Prop} {s : Shared} {elt t1 i1 : Expr} {f1 : List Expr} {t2 i2 : Expr} {f2 : List Expr} {scope : Scope} {pos : Pos} {it acc : Value} {env : Env}
/-- the inner clause's loop -/
theorem loop_two1 (I : Nat → Shared → Prop)
    (turn : ∀ n s, I n s → wpAny (model prog w) A (pyNext it) (fun r s₁ => match r with
      | none => R (.ok .next) s₁
      | some v => wpAny (model prog w) A (letOwnedTupleGo t2 it v) (fun _ s₁' => wpAny (model prog w) A (assign t2 env v) (fun _ s₂ =>
          wpAny (model prog w) A (forIn f2 true fun c r => if r = true then do let ok ← isTrue c env (eval c env); pure (ForInStep.yield ok) else pure (ForInStep.yield r)) (fun ok s₃ =>
            if ok = true then wpAny (model prog w) A (eval elt env) (fun x s₄ =>
              wpAny (model prog w) A (call (.builtin "list.append") [acc, x]) (fun _ s₅ => ∃ m, m < n ∧ I m s₅) (fun _ _ => False) s₄) (fun _ _ => False) s₃
            else ∃ m, m < n ∧ I m s₃) (fun _ _ => False) s₂) (fun _ _ => False) s₁') (fun _ _ => False) s₁) (fun _ _ => False) s)
    (n : Nat) (h : I n s) : codeAny (model prog w) A (.compLoop (two elt t1 i1 f1 t2 i2 f2 scope pos) 1 it acc env) R s := by
  refine codeAny_loop rfl I (fun n s hI => ?_) n h
  show wpAny _ A ((compTurn (two elt t1 i1 f1 t2 i2 f2 scope pos) 1 it acc env).onRaise (fun x => do noteFrame x env; theTreesLotGoes x)) _ _ s
  refine wpAny_noted ?_
  rw [turn_two1]
  refine wpAny_bind (wpAny_standAt (wpAny_bind (wpAny_mono (turn n s hI) (fun r s₁ h₁ => ?_) fun _ _ h' => h'.elim)))
  cases r with
  | none => exact wpAny_pure h₁
  | some v =>
    refine wpAny_bind (wpAny_mono h₁ (fun _ s₁' h₁ => ?_) fun _ _ h' => h'.elim)
    refine wpAny_bind (wpAny_mono h₁ (fun _ s₂ h₂ => wpAny_bind (wpAny_mono h₂ (fun ok s₃ h₃ => ?_) fun _ _ h' => h'.elim)) fun _ _ h' => h'.elim)
    cases ok with
    | false => exact wpAny_pure ⟨rfl, h₃⟩
    | true =>
      exact wpAny_bind (wpAny_bind (wpAny_mono h₃ (fun x s₄ h₄ => wpAny_bind (wpAny_mono h₄ (fun _ s₅ h₅ => wpAny_pure (wpAny_pure ⟨rfl, h₅⟩)) fun _ _ h' => h'.elim)) fun _ _ h' => h'.elim))
theorem start_two1
    (h0 : codeAny (model prog w) A (.compLoop (two elt t1 i1 f1 t2 i2 f2 scope pos) 1 it acc env) R s)
    (h : wpAny (model prog w) A (pyIter it) (fun it' s' => codeAny (model prog w) A (.compLoop (two elt t1 i1 f1 t2 i2 f2 scope pos) 1 it' acc env) R s')
      (notedBy (model prog w) A env fun x s' => R (.error x) s') s) :
    codeAny (model prog w) A (.compStart (two elt t1 i1 f1 t2 i2 f2 scope pos) 1 it acc env) R s := by
  refine codeAny_of_tree ?_
  show wpAny _ _ ((compStart (two elt t1 i1 f1 t2 i2 f2 scope pos) 1 it acc env).onRaise (fun x => do noteFrame x env; standAt theWindowsPlace)) _ _ s
  refine wpAny_notedAt ?_
  unfold compStart
  show wpAny _ _ (ask >>= _) _ _ s
  refine wpAny_bind (wpAny_askSetting (wpAny_ite ?_))
  split
  · first
      | exact wpAny_bind (wpAny_pure (wpAny_pure (And.intro rfl h0)))
      | exact wpAny_pure (And.intro rfl h0)
  · refine wpAny_bind (wpAny_rule ?_)
    show wpAny _ _ (standAt i2.pos >>= _) _ _ s
    exact wpAny_bind (wpAny_standAt (wpAny_bind (wpAny_mono h (fun it' s' h' => wpAny_pure (And.intro rfl h')) fun _ _ x => x)))
/-- the outer clause's loop; inner: what the inner clause does with its iterator -/
theorem loop_two0 (I : Nat → Shared → Prop) (hs : ∀ x, foldedSetIterable i2 env x = pure x)
    (turn : ∀ n s, I n s → wpAny (model prog w) A (pyNext it) (fun r s₁ => match r with
      | none => R (.ok .next) s₁
      | some v => wpAny (model prog w) A (letOwnedTupleGo t1 it v) (fun _ s₁' => wpAny (model prog w) A (assign t1 env v) (fun _ s₂ =>
          wpAny (model prog w) A (forIn f1 true fun c r => if r = true then do let ok ← isTrue c env (eval c env); pure (ForInStep.yield ok) else pure (ForInStep.yield r)) (fun ok s₃ =>
            if ok = true then wpAny (model prog w) A (eval i2 env) (fun x s₄ => wpAny (model prog w) A (pyIter x) (fun itv s₅ =>
              codeAny (model prog w) A (.compStart (two elt t1 i1 f1 t2 i2 f2 scope pos) 1 itv acc env) (fun r s₆ => ∃ fl, r = .ok fl ∧ ∃ m, m < n ∧ I m s₆) s₅) (fun _ _ => False) s₄) (fun _ _ => False) s₃
            else ∃ m, m < n ∧ I m s₃) (fun _ _ => False) s₂) (fun _ _ => False) s₁') (fun _ _ => False) s₁) (fun _ _ => False) s)
    (n : Nat) (h : I n s) : codeAny (model prog w) A (.compLoop (two elt t1 i1 f1 t2 i2 f2 scope pos) 0 it acc env) R s := by
  refine codeAny_loop rfl I (fun n s hI => ?_) n h
  show wpAny _ A ((compTurn (two elt t1 i1 f1 t2 i2 f2 scope pos) 0 it acc env).onRaise (fun x => do noteFrame x env; theTreesLotGoes x)) _ _ s
  refine wpAny_noted ?_
  rw [turn_two0]
  refine wpAny_bind (wpAny_standAt (wpAny_bind (wpAny_mono (turn n s hI) (fun r s₁ h₁ => ?_) fun _ _ h' => h'.elim)))
  cases r with
  | none => exact wpAny_pure h₁
  | some v =>
    refine wpAny_bind (wpAny_mono h₁ (fun _ s₁' h₁ => ?_) fun _ _ h' => h'.elim)
    refine wpAny_bind (wpAny_mono h₁ (fun _ s₂ h₂ => wpAny_bind (wpAny_mono h₂ (fun ok s₃ h₃ => ?_) fun _ _ h' => h'.elim)) fun _ _ h' => h'.elim)
    cases ok with
    | false => exact wpAny_pure ⟨rfl, h₃⟩
    | true =>
      refine wpAny_bind (wpAny_mono h₃ (fun x s₄ h₄ => wpAny_bind (wpAny_standAt ?_)) fun _ _ h' => h'.elim)
      rw [hs]
      refine wpAny_bind (wpAny_pure (wpAny_bind (wpAny_holding (wpAny_mono h₄ (fun itv s₅ h₅ => ?_) fun _ _ h' => h'.elim))))
      refine wpAny_bind (wpAny_runOwn (h := none) (codeAny_mono h₅ fun r s₆ ⟨fl, er, h₆⟩ => ?_))
      subst er
      exact wpAny_pure ⟨rfl, h₆⟩
end
end L2

set_option Elab.async false
set_option linter.all false
set_option maxRecDepth 100000
set_option maxHeartbeats 4000000
namespace L2
open PySem PySem.Spec PyProof.Rows
/-- what the inner clause wants: W2 the invariant by the turn, Z what comes behind it -/
def tInW (g2 : TG) (tt2 : TT) (te : TE) (τ : St) (acc : Addr) (J2 : It) (H6 : Hp) (Z : Hp → Prop) : Prop :=
  ∃ (W2 : Nat → Hp → Prop) (n2 : Nat), W2 0 H6 ∧ ∀ k H7, W2 k H7 → (J2.stop k H7 ∧ Z H7) ∨ (k < n2 ∧ J2.go k H7 ∧ ∀ y H8, J2.yld k H7 y H8 → g2 y τ H8 fun τ2 H9 => tt2 τ2 H9 fun c H10 =>
    if c = true then te τ2 H10 fun z H11 => ∃ ys, H11 acc = some (.lst ys) ∧ ys.length < sizeLine ∧ W2 (k + 1) (upd H11 acc (.lst (ys ++ [z]))) else W2 (k + 1) H10)
def tComp2W (own : List Str) (js : List Nat) (g1 : TG) (tt1 : TT) (wi2 : TI) (g2 : TG) (tt2 : TT) (te : TE) (σ : St) (J : It) (H1 : Hp) (Q : VK) : Prop :=
  ∀ acc, H1 acc = none → ∃ (W : Nat → Hp → Prop) (n : Nat), W 0 (upd H1 acc (.lst [])) ∧ ∀ i H2, W i H2 →
    (J.stop i H2 ∧ Q (.ref acc) H2) ∨ (i < n ∧ J.go i H2 ∧ ∀ x H3, J.yld i H2 x H3 → g1 x (blkσ own js σ) H3 fun τ H4 => tt1 τ H4 fun c H5 =>
      if c = true then wi2 τ H5 fun J2 H6 => tInW g2 tt2 te τ acc J2 H6 (W (i + 1)) else W (i + 1) H5)
def tComp2 (own : List Str) (js : List Nat) (wi : TI) (g1 : TG) (tt1 : TT) (wi2 : TI) (g2 : TG) (tt2 : TT) (te : TE) : TE := fun σ H Q => wi σ H fun J H1 => tComp2W own js g1 tt1 wi2 g2 tt2 te σ J H1 Q
/-- the names at these places aren't bound yet -/
def Unset (fr : List Nat) (τ : St) : Prop := ∀ i ∈ fr, ∀ v, τ[i]? ≠ some (some v)
/-- the outer target keeps the names taken and leaves those of the inner target unbound -/
def GKeepF (own : List Str) (fr : List Nat) (g : TG) : Prop := ∀ (js : List Nat) (σ : St) (x : V) (H : Hp) (Q : St → Hp → Prop), g x (blkσ own js σ) H Q →
  g x (blkσ own js σ) H fun τ H' => ((∀ (j : Nat) v, (blkσ own js σ)[j]? = some (some v) → τ[j]? = some (some v)) ∧ Unset fr τ) ∧ Q τ H'
/-- the inner target binds none but these -/
def GKeepT (fr : List Nat) (g : TG) : Prop := ∀ (τ : St), Unset fr τ → ∀ (x : V) (H : Hp) (Q : St → Hp → Prop), g x τ H Q → g x τ H fun τ' H' => (∀ (j : Nat) v, τ[j]? = some (some v) → τ'[j]? = some (some v)) ∧ Q τ' H'
theorem gkeepF_name {own : List Str} {i : Nat} {fr : List Nat} (hi : i < own.length := by decide) (hf : ∀ j ∈ fr, j < own.length ∧ j ≠ i := by decide) : GKeepF own fr (gName i) := fun js σ x H Q h => ⟨⟨fun j v e => by
    have hj : j ≠ i := by rintro rfl; exact blkσ_own hi e
    rw [List.getElem?_set_ne (Ne.symm hj)]
    exact e, fun j hj z e => by
    obtain ⟨h1, h2⟩ := hf j hj
    rw [List.getElem?_set_ne (Ne.symm h2)] at e
    exact blkσ_own h1 e⟩, h⟩
theorem gkeepT_name {i : Nat} : GKeepT [i] (gName i) := fun τ u x H Q h => ⟨fun j v e => by
  have hj : j ≠ i := by rintro rfl; exact u j (by simp) _ e
  rw [List.getElem?_set_ne (Ne.symm hj)]
  exact e, h⟩
section
variable {X : Cx} {scope : Scope} {own : List Str} {js fr : List Nat} {elt t1 i1 : Expr} {f1 : List Expr} {t2 i2 : Expr} {f2 : List Expr} {wi wi2 : TI} {g1 g2 : TG} {tt1 tt2 : TT} {te : TE} {pos : Pos}
/-- the inner clause runs -/
theorem inner_run {pins : List (Addr × Obj)} {s₂ : Shared} {H2 : Hp} {C : Addr} {fp : List Addr} {τ : St} {H6 : Hp} {s6 : Shared} {it2 acc : Addr} {fp2 : List Addr} {tn2 : Nat → Heap → Prop} {J2 : It} {Z : Hp → Prop} {P : List (Addr × Obj)}
    (hc : X.calm = true) (hgk : GKeepT fr g2) (hu : Unset fr τ)
    (hg : PG (X.blk scope own js s₂ H2 C fp pins) t2 g2) (ht : PTs (X.blk scope own js s₂ H2 C fp pins) f2 tt2) (he : PE (X.blk scope own js s₂ H2 C fp pins) elt te)
    (I6 : Inv (X.blk scope own js s₂ H2 C fp pins) P τ H6 s6) (T : Turn X.prog X.w X.K t2 J2 fp2 it2 tn2) (st : tn2 0 s6.heap) (hf : ∀ b ∈ fp2, FpOk (X.blk scope own js s₂ H2 C fp pins) P H6 b) (h : tInW g2 tt2 te τ acc J2 H6 Z) :
    codeAny (model X.prog X.w) X.A (.compStart (two elt t1 i1 f1 t2 i2 f2 scope pos) 1 (.ref it2) (.ref acc) (compEnvC scope (clOf scope X.env) C X.env)) (fun r s' => r = .ok .next ∧ ∃ H', Inv (X.blk scope own js s₂ H2 C fp pins) P τ H' s' ∧ Z H') s6 := by
  obtain ⟨W, nn, w0, turn⟩ := h
  have fOk : ∀ {H' : Hp}, (∀ b ∈ fp2, H' b = none) → ∀ b ∈ fp2, FpOk (X.blk scope own js s₂ H2 C fp pins) P H' b := fun hn b hb => ⟨hn b hb, (hf b hb).2⟩
  have loop : codeAny (model X.prog X.w) X.A (.compLoop (two elt t1 i1 f1 t2 i2 f2 scope pos) 1 (.ref it2) (.ref acc) (compEnvC scope (clOf scope X.env) C X.env)) (fun r s' => r = .ok .next ∧ ∃ H', Inv (X.blk scope own js s₂ H2 C fp pins) P τ H' s' ∧ Z H') s6 := by
    refine loop_two1 (fun n s' => ∃ i H', n = nn - i ∧ Inv (X.blk scope own js s₂ H2 C fp pins) P τ H' s' ∧ tn2 i s'.heap ∧ (∀ b ∈ fp2, H' b = none) ∧ W i H') ?_ nn ⟨0, _, rfl, I6, st, fun b hb => (hf b hb).1, w0⟩
    rintro n s3 ⟨i, H3, en, I3, st3, fr3, w3⟩
    rcases turn i H3 w3 with ⟨stop, qn⟩ | ⟨hin, go, step⟩
    · refine thn (T.done (X.blk scope own js s₂ H2 C fp pins) rfl rfl rfl hc i P s3 _ H3 (fun _ _ => False) I3 (fOk fr3) st3 stop) fun r s4 ⟨hr, I4⟩ => ?_
      subst hr
      exact ⟨rfl, H3, I4, qn⟩
    · refine thn (T.item (X.blk scope own js s₂ H2 C fp pins) rfl rfl rfl hc i P s3 _ H3 (fun _ _ => False) I3 (fOk fr3) st3 go) fun r s4 ⟨u, hr, h4⟩ => ?_
      subst hr
      refine thn h4 fun _ s5 ⟨x, H5, I5, r5, y5, st5, fr5⟩ => ?_
      have I5' := I5.pinned (fOk fr5) (T.obj _ _ st5)
      have again : ∀ {σ7 : St} {H7 : Hp} {s7 : Shared}, Inv (X.blk scope own js s₂ H2 C fp pins) (P ++ pinsAt fp2 s5.heap) σ7 H7 s7 → (∀ (j : Nat) v, τ[j]? = some (some v) → σ7[j]? = some (some v)) → W (i + 1) H7 →
          ∃ m, m < n ∧ ∃ i H', m = nn - i ∧ Inv (X.blk scope own js s₂ H2 C fp pins) P τ H' s7 ∧ tn2 i s7.heap ∧ (∀ b ∈ fp2, H' b = none) ∧ W i H' := fun {σ7 H7 s7} I7 hw w7 => by
        refine ⟨nn - (i + 1), by omega, i + 1, H7, rfl, (I7.unpinned).weak (I3.len.trans I7.len.symm) hw, T.keep _ _ _ st5 fun b hb o e => (I7.pin (b, o) (List.mem_append_right _ (List.mem_append_right _ (mem_pinsAt hb e)))).1, fun b hb => ?_, w7⟩
        obtain ⟨o, e, d⟩ := T.obj _ _ st5 b hb
        exact (I7.pin (b, o) (List.mem_append_right _ (List.mem_append_right _ (mem_pinsAt hb e)))).2.1
      refine thn (hg _ s5 _ H5 x u _ I5' r5 (hgk τ hu _ _ _ (step x H5 y5))) fun _ s6 ⟨σ6, H6, I6, kp, q6⟩ => ?_
      refine thn (ht _ s6 σ6 H6 _ I6 q6) fun ok s7 ⟨H7, I7, q7⟩ => ?_
      cases ok with
      | false => exact again I7 kp q7
      | true =>
        refine thn (he _ s7 σ6 H7 _ I7 q7) fun y s8 ⟨v, H8, I8, r8, ys, hl, hz, w8⟩ => ?_
        refine thn (mt_append (X := X.blk scope own js s₂ H2 C fp pins) _ s8 σ6 H8 (.ref acc) [v] (.ref acc) [y] (fun _ H9 => W (i + 1) H9) I8 rfl (.cons r8 .nil) ⟨acc, ys, v, rfl, rfl, hl, hz, w8⟩) fun _ s9 ⟨_, H9, I9, _, w9⟩ => ?_
        exact again I9 kp w9
  exact start_two1 loop (T.self _ 0 _ _ _ st loop)
/-- the block runs -/
theorem blk_run2 {pins : List (Addr × Obj)} {σ : St} {H2 : Hp} {s₂ : Shared} {it : Addr} {fp : List Addr} {tn : Nat → Heap → Prop} {J : It} {Q : VK} {E : Value → Shared → Prop} {RR : Value → Addr → Result → Shared → Prop}
    (c : CompOk X scope own js) (hc : X.calm = true) (hgk : GKeepF own fr g1) (hgt : GKeepT fr g2)
    (hg : ∀ s H C fp pins, PG (X.blk scope own js s H C fp pins) t1 g1) (ht : ∀ s H C fp pins, PTs (X.blk scope own js s H C fp pins) f1 tt1) (hi2 : ∀ s H C fp pins, PI (X.blk scope own js s H C fp pins) t2 i2 wi2)
    (hg2 : ∀ s H C fp pins, PG (X.blk scope own js s H C fp pins) t2 g2) (ht2 : ∀ s H C fp pins, PTs (X.blk scope own js s H C fp pins) f2 tt2) (he : ∀ s H C fp pins, PE (X.blk scope own js s H C fp pins) elt te)
    (hs2 : ∀ env x, foldedSetIterable i2 env x = pure x)
    (I : Inv X pins σ H2 s₂) (T : Turn X.prog X.w X.K t1 J fp it tn) (st : tn 0 s₂.heap) (hf : ∀ b ∈ fp, FpOk X pins H2 b) (h : tComp2W own js g1 tt1 wi2 g2 tt2 te σ J H2 Q)
    (hRR : ∀ acc C H' s' m, s₂.heap.objs.size ≤ C → H' C = none → Inv X pins σ H' s' → s'.heap.Ns C m → Q (.ref acc) H' → RR (.ref acc) C (.ok .next) s') :
    wpAny (model X.prog X.w) X.A (newList []) (fun acc s₃ => wpAny (model X.prog X.w) X.A (newFunctionEnv scope X.env.globals (clOf scope X.env) [] X.env.qual none .none (some X.env)) (fun cenv s₄ =>
      codeAny (model X.prog X.w) X.A (.compStart (two elt t1 i1 f1 t2 i2 f2 scope pos) 0 (.ref it) acc { cenv with scope := relabel scope X.env }) (RR acc cenv.locals) s₄) E s₃) E s₂ := by
  refine wpAny_newObj_type (wpAny_newFunctionEnv c.cell (by intro y hy; simp at hy) (fun h₁ hns₁ hsb₁ => ?_) c.kind)
  dsimp only at hns₁ hsb₁ ⊢
  generalize hH2 : s₂.heap.push { cls := .type "list", dict := none, data := .seq ([] : List Value).toArray } = G2 at hns₁ hsb₁ ⊢
  have hC : G2.objs.size = s₂.heap.objs.size + 1 := by rw [← hH2, Heap.size_push]
  have hDC : s₂.heap.objs.size ≠ G2.objs.size := by rw [hC]; exact Nat.ne_of_lt (Nat.lt_succ_self _)
  have hCle : s₂.heap.objs.size ≤ G2.objs.size := by rw [hC]; exact Nat.le_succ _
  have old : ∀ b o, s₂.heap.get? b = some o → h₁.get? b = some o := fun b o e => hsb₁.extBut b o (Nat.ne_of_lt (Nat.lt_of_lt_of_le (Heap.lt_size e) hCle)) (Heap.get?_push_of_some _ (hH2 ▸ Heap.get?_push_of_some _ e))
  have hacc : h₁.get? s₂.heap.objs.size = some { cls := .type "list", data := .seq ([] : List Value).toArray 0 } := hsb₁.extBut _ _ hDC (Heap.get?_push_of_some _ (hH2 ▸ Heap.get?_push_size _ rfl))
  have ho2 : ∀ b ∈ fp, ∃ o, s₂.heap.get? b = some o := fun b hb => let ⟨o, e, _⟩ := T.obj 0 _ st b hb; ⟨o, e⟩
  have I0 : ∀ tk, Inv (X.blk scope own js s₂ H2 G2.objs.size fp pins) [] (blkσ own js σ) (upd H2 s₂.heap.objs.size (.lst [])) { s₂ with heap := h₁, toks := tk } := fun tk =>
    blk_start c I hCle hf ho2 hns₁ old (Nat.le_refl _) hDC hacc
  obtain ⟨W, nn, w0, turn⟩ := h s₂.heap.objs.size (I.hok.fresh (Nat.le_refl _))
  generalize hacc' : s₂.heap.objs.size = acc at *
  generalize hGC : G2.objs.size = C at *
  have st1 : tn 0 h₁ := T.keep 0 _ _ st fun b _ o e => old b o e
  have fOk : ∀ {H' : Hp}, (∀ b ∈ fp, H' b = none) → ∀ b ∈ fp, FpOk (X.blk scope own js s₂ H2 C fp pins) [] H' b := fun hn b hb => by
    obtain ⟨f0, f1, f2, f3, f4, f5⟩ := hf b hb
    obtain ⟨o, e⟩ := ho2 b hb
    refine ⟨hn b hb, Nat.ne_of_lt (Nat.lt_of_lt_of_le (Heap.lt_size e) (by rw [← hacc'] at hCle; exact hCle)), fun z => ?_, .inl hb, fun x a h => f4 x a (c.look I h), fun p hp => f5 p (by simpa [Cx.blk] using hp)⟩
    rcases List.mem_cons.mp (I.stkSub b z) with q | q
    · exact f1 q
    · exact f2 q
  have loop : ∀ s₃ : Shared, s₃ = { s₂ with heap := h₁, toks := s₂.toks + ([] : List (Str × Value)).length } →
      codeAny (model X.prog X.w) X.A (.compLoop (two elt t1 i1 f1 t2 i2 f2 scope pos) 0 (.ref it) (.ref acc) (compEnvC scope (clOf scope X.env) C X.env)) (RR (.ref acc) C) s₃ := by
    rintro s₃ rfl
    refine loop_two0 (fun n s' => ∃ i H', n = nn - i ∧ Inv (X.blk scope own js s₂ H2 C fp pins) [] (blkσ own js σ) H' s' ∧ tn i s'.heap ∧ (∀ b ∈ fp, H' b = none) ∧ W i H') (hs2 _) ?_ nn ⟨0, _, rfl, I0 _, st1, fun b hb => ?_, w0⟩
    · rintro n s3 ⟨i, H3, en, I3, st3, fr3, w3⟩
      rcases turn i H3 w3 with ⟨stop, qn⟩ | ⟨hin, go, step⟩
      · refine thn (T.done (X.blk scope own js s₂ H2 C fp pins) rfl rfl rfl hc i [] s3 _ H3 (fun _ _ => False) I3 (fOk fr3) st3 stop) fun r s4 ⟨hr, I4⟩ => ?_
        subst hr
        obtain ⟨m, hn, _⟩ := I4.loc
        exact hRR acc C H3 s4 m hCle I4.free (blk_end I hf I4) hn qn
      · refine thn (T.item (X.blk scope own js s₂ H2 C fp pins) rfl rfl rfl hc i [] s3 _ H3 (fun _ _ => False) I3 (fOk fr3) st3 go) fun r s4 ⟨u, hr, h4⟩ => ?_
        subst hr
        refine thn h4 fun _ s5 ⟨x, H5, I5, r5, y5, st5, fr5⟩ => ?_
        have I5' := I5.pinned (fOk fr5) (T.obj _ _ st5)
        have again : ∀ {σ7 : St} {H7 : Hp} {s7 : Shared}, Inv (X.blk scope own js s₂ H2 C fp pins) ([] ++ pinsAt fp s5.heap) σ7 H7 s7 → (∀ (j : Nat) v, (blkσ own js σ)[j]? = some (some v) → σ7[j]? = some (some v)) → W (i + 1) H7 →
            ∃ m, m < n ∧ ∃ i H', m = nn - i ∧ Inv (X.blk scope own js s₂ H2 C fp pins) [] (blkσ own js σ) H' s7 ∧ tn i s7.heap ∧ (∀ b ∈ fp, H' b = none) ∧ W i H' := fun {σ7 H7 s7} I7 hw w7 => by
          refine ⟨nn - (i + 1), by omega, i + 1, H7, rfl, (I7.unpinned).weak ((blk_len own js σ X).trans I7.len.symm) hw, T.keep _ _ _ st5 fun b hb o e => (I7.pin (b, o) (List.mem_append_right _ (List.mem_append_right _ (mem_pinsAt hb e)))).1, fun b hb => ?_, w7⟩
          obtain ⟨o, e, d⟩ := T.obj _ _ st5 b hb
          exact (I7.pin (b, o) (List.mem_append_right _ (List.mem_append_right _ (mem_pinsAt hb e)))).2.1
        refine thn (hg s₂ H2 C fp pins _ s5 _ H5 x u _ I5' r5 (hgk _ _ _ _ _ (step x H5 y5))) fun _ s6 ⟨σ6, H6, I6, ⟨kp, un⟩, q6⟩ => ?_
        refine thn (ht s₂ H2 C fp pins _ s6 σ6 H6 _ I6 q6) fun ok s7 ⟨H7, I7, q7⟩ => ?_
        cases ok with
        | false => exact again I7 kp q7
        | true =>
          refine thn (hi2 s₂ H2 C fp pins _ s7 σ6 H7 _ I7 q7) fun v s8 h8 => thn h8 fun itv s9 h9 => ?_
          obtain ⟨it2, fp2, tn2, J2, H9, e9, I9, T2, st9, f9, hw9⟩ := h9
          subst e9
          refine codeAny_mono (inner_run (t1 := t1) (i1 := i1) (f1 := f1) (i2 := i2) (pos := pos) hc hgt un (hg2 s₂ H2 C fp pins) (ht2 s₂ H2 C fp pins) (he s₂ H2 C fp pins) I9 T2 st9 f9 hw9) fun r s10 ⟨er, H10, I10, w10⟩ => ?_
          exact ⟨_, er, again I10 kp w10⟩
    · rw [upd_ne ?_]
      · exact (hf b hb).1
      · obtain ⟨o, e⟩ := ho2 b hb
        rw [← hacc']
        exact Nat.ne_of_lt (Heap.lt_size e)
  exact codeAny_compStart_list (loop _ rfl) (T.self _ 0 _ _ _ st1 (loop _ rfl))
/-- the comprehension of two clauses as a value -/
theorem pe_comp2 (c : CompOk X scope own js) (hc : X.calm = true) (hi : PI X t1 i1 wi) (hgk : GKeepF own fr g1) (hgt : GKeepT fr g2)
    (hg : ∀ s H C fp pins, PG (X.blk scope own js s H C fp pins) t1 g1) (ht : ∀ s H C fp pins, PTs (X.blk scope own js s H C fp pins) f1 tt1) (hi2 : ∀ s H C fp pins, PI (X.blk scope own js s H C fp pins) t2 i2 wi2)
    (hg2 : ∀ s H C fp pins, PG (X.blk scope own js s H C fp pins) t2 g2) (ht2 : ∀ s H C fp pins, PTs (X.blk scope own js s H C fp pins) f2 tt2) (he : ∀ s H C fp pins, PE (X.blk scope own js s H C fp pins) elt te)
    (hs : ∀ x, foldedSetIterable i1 X.env x = pure x := by intro _; rfl) (hs2 : ∀ env x, foldedSetIterable i2 env x = pure x := by intro _ _; rfl) : PE X (two elt t1 i1 f1 t2 i2 f2 scope pos) (tComp2 own js wi g1 tt1 wi2 g2 tt2 te) := by
  intro pins s σ H Q I h
  rw [eval_ListComp]
  refine wpAny_comprehension_free (use := none) rfl hs (closure_cl (c.cl I)) c.kind c.names (thn (hi pins s σ H _ I h) fun v s1 h1 => thn h1 fun itv s2 h2 => ?_)
  obtain ⟨it, fp, tn, J, H2, e, I2, T, st2, f2, hw⟩ := h2
  subst e
  refine blk_run2 (RR := fun acc C => compPost (model X.prog X.w) X.A X.xe none (EP X pins σ Q) acc C) c hc hgk hgt hg ht hi2 hg2 ht2 he hs2 I2 T st2 f2 hw ?_
  intro acc C H' s' m hCs hCn I' hn q
  refine ⟨m, hn, fun h' hs' => ⟨.ref acc, H', I'.other hs' hCn ?_ ?_ ?_ ?_, rfl, q⟩⟩
  · exact Nat.ne_of_gt (Nat.lt_of_lt_of_le I2.lt hCs)
  · exact Nat.le_trans I2.sz hCs
  · intro x a e z
    obtain ⟨v, q⟩ := I2.cell x a e
    exact absurd (Nat.lt_of_lt_of_le q.lt (by rw [z]; exact hCs)) (Nat.lt_irrefl _)
  · intro p hp z
    exact absurd (Nat.lt_of_lt_of_le (Heap.lt_size (I2.pin p hp).1) (by rw [z]; exact hCs)) (Nat.lt_irrefl _)
end
end L2

set_option Elab.async false
set_option linter.all false
set_option maxRecDepth 100000
set_option maxHeartbeats 4000000
namespace L2
open PySem PySem.Spec PyProof.Rows PySem.SeqAt
/-! ### walking a list or a tuple, whichever it is -/
def ItlB (b : Bool) (K : PySem.W.Frag) (a : Addr) : It := match b with | true => Itl K a | false => Itt K a
def iSeqB (K : PySem.W.Frag) (tl : TE) : TI := fun σ H R => tl σ H fun x H1 => ∃ a b, x = .ref a ∧ (∃ xs, SqB b K H1 a xs) ∧ R (ItlB b K a) H1
theorem piK_seqB (K : PySem.W.Frag) {X : Cx} {tg l : Expr} {tl : TE} (hl : PE X l tl) (hK : X.K = K := by rfl) : PI X tg l (iSeqB K tl) := by
  subst hK
  intro pins s σ H R I h
  refine thn (hl pins s σ H _ I h) fun v s1 ⟨x, H1, I1, r1, q1⟩ => ?_
  obtain ⟨a, b, e, ⟨xs, hq⟩, q⟩ := q1
  subst e
  cases r1
  have fp : ∀ b ∈ [s1.heap.objs.size], FpOk X pins H1 b := fun b hb => by
    have e : b = s1.heap.objs.size := by simpa using hb
    subst e
    exact I1.fpOk (Nat.le_refl _) (I1.hok.fresh (Nat.le_refl _))
  cases b with
  | true =>
    obtain ⟨its, rv, p, hz⟩ := I1.list hq
    exact wpAny_pyIter_list p.isList ⟨s1.heap.objs.size, [s1.heap.objs.size], _, _, H1, rfl, I1.kept (t' := s1.toks) fun b o e => Heap.get?_push_of_some _ e, turn_list a _, ⟨_, Heap.get?_push_size _ rfl, rfl, rfl⟩, fp, q⟩
  | false =>
    obtain ⟨its, rv, p, hz⟩ := I1.tuple hq
    exact wpAny_pyIter_tuple (show s1.heap.IsTuple a its.toArray from p) ⟨s1.heap.objs.size, [s1.heap.objs.size], _, _, H1, rfl, I1.kept (t' := s1.toks) fun b o e => Heap.get?_push_of_some _ e, turn_tuple a _, ⟨_, Heap.get?_push_size _ rfl, rfl, rfl⟩, fp, q⟩
theorem pi_seqB {X : Cx} {tg l : Expr} {tl : TE} (hl : PE X l tl) : PI X tg l (iSeqB X.K tl) := piK_seqB X.K hl
theorem itlB_go {b : Bool} {K : PySem.W.Frag} {H : Hp} {a : Addr} {xs : List V} {i : Nat} (q : SqB b K H a xs) (hi : i < xs.length) : (ItlB b K a).go i H := by
  cases b <;> exact ⟨xs, xs[i], q, List.getElem?_eq_getElem hi⟩
theorem itlB_yld {b : Bool} {K : PySem.W.Frag} {H H' : Hp} {a : Addr} {xs : List V} {i : Nat} {x : V} (q : SqB b K H a xs) (y : (ItlB b K a).yld i H x H') : H' = H ∧ xs[i]? = some x := by
  cases b <;> exact ⟨y.1, y.2 xs q⟩
theorem itlB_stop {b : Bool} {K : PySem.W.Frag} {H : Hp} {a : Addr} {xs : List V} {i : Nat} (q : SqB b K H a xs) (hi : xs.length ≤ i) : (ItlB b K a).stop i H := by
  cases b <;> exact ⟨xs, q, hi⟩
section
variable {b : Bool} {K : PySem.W.Frag} {own : List Str} {js : List Nat} {g1 g2 g : TG} {tt1 tt2 tt : TT} {wi2 : TI} {te : TE} {σ τ : St} {H1 H6 : Hp} {Q : VK} {a acc : Addr} {xs : List V}
theorem comp_seqB (Pv : Addr → Nat → Hp → Prop) (h0 : ∀ acc, H1 acc = none → Pv acc 0 (upd H1 acc (.lst []))) (hl : ∀ acc i H, H1 acc = none → i ≤ xs.length → Pv acc i H → SqB b K H a xs)
    (hs : ∀ acc i x H, H1 acc = none → xs[i]? = some x → Pv acc i H → g x (blkσ own js σ) H fun τ H4 => tt τ H4 fun c H5 =>
      if c = true then te τ H5 fun y H6 => ∃ ys, H6 acc = some (.lst ys) ∧ ys.length < sizeLine ∧ (i + 1 ≤ xs.length ∧ Pv acc (i + 1) (upd H6 acc (.lst (ys ++ [y])))) else (i + 1 ≤ xs.length ∧ Pv acc (i + 1) H5))
    (hd : ∀ acc H, H1 acc = none → Pv acc xs.length H → Q (.ref acc) H) : tCompW own js g tt te σ (ItlB b K a) H1 Q := by
  intro acc hacc
  refine ⟨fun i H => i ≤ xs.length ∧ Pv acc i H, xs.length, ⟨Nat.zero_le _, h0 acc hacc⟩, ?_⟩
  rintro i H ⟨hi, p⟩
  have q := hl acc i H hacc hi p
  rcases Nat.lt_or_ge i xs.length with hlt | hge
  · refine .inr ⟨hlt, itlB_go q hlt, fun x H' y => ?_⟩
    obtain ⟨rfl, hx⟩ := itlB_yld q y
    exact hs acc i x _ hacc hx p
  · obtain rfl : i = xs.length := by omega
    exact .inl ⟨itlB_stop q (Nat.le_refl _), hd acc H hacc p⟩
/-- the outer clause over a list or tuple -/
theorem comp2_seqB (Pv : Addr → Nat → Hp → Prop) (h0 : ∀ acc, H1 acc = none → Pv acc 0 (upd H1 acc (.lst []))) (hl : ∀ acc i H, H1 acc = none → i ≤ xs.length → Pv acc i H → SqB b K H a xs)
    (hs : ∀ acc i x H, H1 acc = none → xs[i]? = some x → Pv acc i H → g1 x (blkσ own js σ) H fun τ H4 => tt1 τ H4 fun c H5 =>
      if c = true then wi2 τ H5 fun J2 H6 => tInW g2 tt2 te τ acc J2 H6 (fun H7 => i + 1 ≤ xs.length ∧ Pv acc (i + 1) H7) else (i + 1 ≤ xs.length ∧ Pv acc (i + 1) H5))
    (hd : ∀ acc H, H1 acc = none → Pv acc xs.length H → Q (.ref acc) H) : tComp2W own js g1 tt1 wi2 g2 tt2 te σ (ItlB b K a) H1 Q := by
  intro acc hacc
  refine ⟨fun i H => i ≤ xs.length ∧ Pv acc i H, xs.length, ⟨Nat.zero_le _, h0 acc hacc⟩, ?_⟩
  rintro i H ⟨hi, p⟩
  have q := hl acc i H hacc hi p
  rcases Nat.lt_or_ge i xs.length with hlt | hge
  · refine .inr ⟨hlt, itlB_go q hlt, fun x H' y => ?_⟩
    obtain ⟨rfl, hx⟩ := itlB_yld q y
    exact hs acc i x _ hacc hx p
  · obtain rfl : i = xs.length := by omega
    exact .inl ⟨itlB_stop q (Nat.le_refl _), hd acc H hacc p⟩
/-- the inner clause over a list or tuple -/
theorem in_seqB {Z : Hp → Prop} (W2 : Nat → Hp → Prop) (h0 : W2 0 H6) (hl : ∀ i H, i ≤ xs.length → W2 i H → SqB b K H a xs)
    (hs : ∀ i x H, xs[i]? = some x → W2 i H → g2 x τ H fun τ2 H9 => tt2 τ2 H9 fun c H10 =>
      if c = true then te τ2 H10 fun z H11 => ∃ zs, H11 acc = some (.lst zs) ∧ zs.length < sizeLine ∧ (i + 1 ≤ xs.length ∧ W2 (i + 1) (upd H11 acc (.lst (zs ++ [z])))) else (i + 1 ≤ xs.length ∧ W2 (i + 1) H10))
    (hd : ∀ H, W2 xs.length H → Z H) : tInW g2 tt2 te τ acc (ItlB b K a) H6 Z := by
  refine ⟨fun i H => i ≤ xs.length ∧ W2 i H, xs.length, ⟨Nat.zero_le _, h0⟩, ?_⟩
  rintro i H ⟨hi, p⟩
  have q := hl i H hi p
  rcases Nat.lt_or_ge i xs.length with hlt | hge
  · refine .inr ⟨hlt, itlB_go q hlt, fun x H' y => ?_⟩
    obtain ⟨rfl, hx⟩ := itlB_yld q y
    exact hs i x _ hx p
  · obtain rfl : i = xs.length := by omega
    exact .inl ⟨itlB_stop q (Nat.le_refl _), hd H p⟩
/-- for over a list or tuple that the body leaves as it is -/
theorem for_seqB {tb : TS} {D : Ends} {H : Hp} (Pv : Nat → St → Hp → Prop) (h0 : Pv 0 σ H) (hl : ∀ i σ H, i ≤ xs.length → Pv i σ H → SqB b K H a xs)
    (hs : ∀ i x σ H, xs[i]? = some x → Pv i σ H → g x σ H fun σ2 H2 => tb { D with nx := Pv (i + 1), ct := Pv (i + 1), bk := D.nx } σ2 H2) (hd : ∀ σ H, Pv xs.length σ H → D.nx σ H) :
    ∃ W : Nat → Nat → St → Hp → Prop, (∃ m, W 0 m σ H) ∧ ∀ i m σ H, W i m σ H →
      ((ItlB b K a).stop i H ∧ D.nx σ H) ∨ ((ItlB b K a).go i H ∧ ∃ N : St → Hp → Prop, (∀ σ' H', N σ' H' → ∃ m', m' < m ∧ W (i + 1) m' σ' H') ∧ ∀ x H', (ItlB b K a).yld i H x H' → g x σ H' fun σ2 H2 => tb { D with nx := N, ct := N, bk := D.nx } σ2 H2) := by
  refine ⟨fun i m σ H => m = xs.length - i ∧ i ≤ xs.length ∧ Pv i σ H, ⟨xs.length, by simp, Nat.zero_le _, h0⟩, ?_⟩
  rintro i m σ H ⟨rfl, hi, p⟩
  have q := hl i σ H hi p
  rcases Nat.lt_or_ge i xs.length with hlt | hge
  · refine .inr ⟨itlB_go q hlt, Pv (i + 1), fun σ' H' z => ⟨xs.length - (i + 1), by omega, rfl, hlt, z⟩, fun x H' y => ?_⟩
    obtain ⟨rfl, hx⟩ := itlB_yld q y
    exact hs i x σ _ hx p
  · obtain rfl : i = xs.length := by omega
    exact .inl ⟨itlB_stop q (Nat.le_refl _), hd σ H p⟩
end
end L2

set_option Elab.async false
set_option linter.all false
set_option maxRecDepth 100000
set_option maxHeartbeats 4000000
namespace L2
open PySem PyProof.Rows
/-! ### sorting any number of things: runs and merges -/
/-- an order with the key of each thing -/
structure KO extends KeyOrd where
  ky : Keyed → α
namespace KO
variable {O : KO} {x y z : Keyed}
def le (O : KO) (x y : Keyed) : Prop := O.blt (O.ky y) (O.ky x) = false
theorem le_refl : O.le x x := O.irrefl _
theorem le_trans (h1 : O.le x y) (h2 : O.le y z) : O.le x z := KeyOrd.kle_trans (O := O.toKeyOrd) h1 h2
theorem le_of_lt (h : O.blt (O.ky x) (O.ky y) = true) : O.le x y := KeyOrd.klt_asymm (O := O.toKeyOrd) h
abbrev Srt (O : KO) (l : List Keyed) : Prop := l.Pairwise O.le
end KO
def gallop' : Bool → Keyed → Array Keyed → Nat → Nat → Nat → StateT SortSt Sem (Option Nat) := sortPriv% PySem.Builtin.gallop
def mergeLo' : Array Keyed → Array Keyed → StateT SortSt Sem (Array Keyed) := sortPriv% PySem.Builtin.mergeLo
def mergeHi' : Array Keyed → Array Keyed → StateT SortSt Sem (Array Keyed) := sortPriv% PySem.Builtin.mergeHi
def setGallop' : Nat → StateT SortSt Sem Unit := sortPriv% PySem.Builtin.setMinGallop
section
variable {prog : Program} {w : World} {A : Around} {E : Value → Shared → Prop} {s : Shared} {O : KO} {knd : SortKind} {ok : Keyed → Prop} {st : SortSt}
/-- the comparison tells the order, and changes nothing -/
def Asks (prog : Program) (w : World) (A : Around) (s : Shared) (O : KO) (knd : SortKind) (ok : Keyed → Prop) : Prop :=
  ∀ x y, ok x → ok y → ∀ (E : Value → Shared → Prop) (Q : Bool → Shared → Prop), Q (O.blt (O.ky x) (O.ky y)) s → wpAny (model prog w) A (keyLt' knd x.1 y.1) Q E s
theorem wpS_lt {x y : Keyed} {Q : Option Bool → SortSt → Prop} (hA : Asks prog w A s O knd ok) (hk : kindOf st = knd) (hx : ok x) (hy : ok y) (h : Q (some (O.blt (O.ky x) (O.ky y))) st) : wpS (model prog w) A E s (lt' x y) Q st := by
  rw [lt'_eq]
  refine wpS_bind (wpS_get ?_)
  rw [hk]
  refine wpS_bind (wpS_lift (wpAny_attempt (hA x y hx hy _ _ ⟨rfl, ?_⟩)))
  exact wpS_pure h
theorem wpS_elem {arr : Array Keyed} {i : Nat} {x : Keyed} {Q : Keyed → SortSt → Prop} (e : arr[i]? = some x) (h : Q x st) : wpS (model prog w) A E s (elem' arr i) Q st := by
  rw [elem'_eq, e]
  exact wpS_pure h
def beyond' (left : Bool) (key : Keyed) (arr : Array Keyed) (base i : Nat) : StateT SortSt Sem (Option Bool) :=
  elem' arr (base + i) >>= fun x => if left = true then lt' x key else lt' key x >>= fun r => pure (r.map (! ·))
/-- how far a sorted stretch lies ahead of the key -/
theorem wpS_gallop {left : Bool} {key : Keyed} {arr : Array Keyed} {base n hint : Nat} {Q : Option Nat → SortSt → Prop} (hA : Asks prog w A s O knd ok) (hk : kindOf st = knd) (hkey : ok key) (B : Nat → Bool)
    (hB : ∀ i, i < n → ∃ x, arr[base + i]? = some x ∧ ok x ∧ B i = if left = true then O.blt (O.ky x) (O.ky key) else !(O.blt (O.ky key) (O.ky x)))
    (mono : ∀ i j, i ≤ j → j < n → B j = true → B i = true) (hh : hint < n)
    (h : ∀ k, k ≤ n → (∀ i, i < k → B i = true) → (∀ i, k ≤ i → i < n → B i = false) → Q (some k) st) : wpS (model prog w) A E s (gallop' left key arr base n hint) Q st := by
  have bey : ∀ i, i < n → ∀ {Q' : Option Bool → SortSt → Prop}, Q' (some (B i)) st → wpS (model prog w) A E s (beyond' left key arr base i) Q' st := by
    intro i hi Q' hq
    obtain ⟨x, e, hx, eb⟩ := hB i hi
    refine wpS_bind (wpS_elem e ?_)
    rw [eb] at hq
    cases left with
    | true => simp only [if_true] at hq ⊢; exact wpS_lt hA hk hx hkey hq
    | false =>
      simp only [Bool.false_eq_true, if_false] at hq ⊢
      exact wpS_bind (wpS_lt hA hk hkey hx (wpS_pure hq))
  have monoF : ∀ i j, i ≤ j → j < n → B i = false → B j = false := by
    intro i j hij hj hf
    cases e : B j with
    | false => rfl
    | true => rw [mono i j hij hj e] at hf; cases hf
  have jp : ∀ lo hi, lo ≤ hi → hi ≤ n → (∀ i, i < lo → B i = true) → (∀ i, hi ≤ i → i < n → B i = false) →
      wpS (model prog w) A E s (forIn [:n] ((none : Option (Option Nat)), lo, hi) fun _ c => if c.2.1 ≥ c.2.2 then pure (ForInStep.done (none, c.2.1, c.2.2)) else beyond' left key arr base (c.2.1 + (c.2.2 - c.2.1) / 2) >>= fun x => match x with
          | some more => if more = true then pure (ForInStep.yield (none, c.2.1 + (c.2.2 - c.2.1) / 2 + 1, c.2.2)) else pure (ForInStep.yield (none, c.2.1, c.2.1 + (c.2.2 - c.2.1) / 2))
          | _ => pure (ForInStep.done (some none, c.2.1, c.2.2)))
        (fun c st' => st' = st ∧ ∃ l k, c = (none, l, k) ∧ Q (some k) st) st := by
    intro lo hi hle hin hlo hhi
    refine wpS_forRange (I := fun x c st' => st' = st ∧ ∃ l k, c = (none, l, k) ∧ l ≤ k ∧ k ≤ n ∧ k - l ≤ n - x ∧ (∀ i, i < l → B i = true) ∧ (∀ i, k ≤ i → i < n → B i = false)) ?step ?fin ⟨rfl, lo, hi, rfl, hle, hin, by omega, hlo, hhi⟩
    case fin =>
      rintro c st' ⟨rfl, l, k, rfl, h1, h2, h3, h4, h5⟩
      have e : l = k := by omega
      subst e
      exact ⟨rfl, l, l, rfl, h l h2 h4 h5⟩
    case step =>
      rintro x c st' _ hx ⟨rfl, l, k, rfl, h1, h2, h3, h4, h5⟩
      dsimp only
      by_cases hge : l ≥ k
      · rw [if_pos hge]
        have e : l = k := by omega
        subst e
        exact wpS_pure ⟨rfl, l, l, rfl, h l h2 h4 h5⟩
      · rw [if_neg hge]
        have hm : l + (k - l) / 2 < k := by omega
        refine wpS_bind (bey _ (by omega) ?_)
        cases e : B (l + (k - l) / 2) with
        | true =>
          simp only [if_true]
          exact wpS_pure ⟨rfl, _, _, rfl, by omega, h2, by omega, fun i hi => mono i _ (by omega) (by omega) e, h5⟩
        | false =>
          simp only [Bool.false_eq_true, if_false]
          exact wpS_pure ⟨rfl, _, _, rfl, by omega, by omega, by omega, h4, fun i h6 h7 => monoF _ i h6 h7 e⟩
  refine wpS_bind (bey hint hh ?_)
  dsimp only
  cases e0 : B hint with
  | true =>
    simp only [if_true]
    refine wpS_bind (wpS_mono (wpS_forRange (I := fun x c st' => st' = st ∧ ∃ l k, c = ((none : Option (Option Nat)), l, k) ∧ l < k ∧ x + 1 ≤ k ∧ hint + l < n ∧ B (hint + l) = true)
      (Q := fun c st' => st' = st ∧ ∃ l k, c = ((none : Option (Option Nat)), l, k) ∧ l < k ∧ hint + l < n ∧ B (hint + l) = true ∧ (n - hint ≤ k ∨ (hint + k < n ∧ B (hint + k) = false))) ?step ?fin ⟨rfl, 0, 1, rfl, by omega, by omega, hh, e0⟩) ?post)
    case fin =>
      rintro c st' ⟨rfl, l, k, rfl, h1, h2, h3, h4⟩
      exact ⟨rfl, l, k, rfl, h1, h3, h4, .inl (by omega)⟩
    case step =>
      rintro x c st' _ hx ⟨rfl, l, k, rfl, h1, h2, h3, h4⟩
      dsimp only
      by_cases hge : k ≥ n - hint
      · rw [if_pos hge]
        exact wpS_pure ⟨rfl, l, k, rfl, h1, h3, h4, .inl hge⟩
      · rw [if_neg hge]
        refine wpS_bind (bey (hint + k) (by omega) ?_)
        cases e : B (hint + k) with
        | true =>
          simp only [Bool.not_true, Bool.false_eq_true, if_false]
          exact wpS_pure ⟨rfl, _, _, rfl, by omega, by omega, by omega, e⟩
        | false =>
          simp only [Bool.not_false, if_true]
          exact wpS_pure ⟨rfl, l, k, rfl, h1, h3, h4, .inr ⟨by omega, e⟩⟩
    case post =>
      rintro c st' ⟨rfl, l, k, rfl, h1, h3, h4, h5⟩
      dsimp only
      refine wpS_bind (wpS_mono (jp (hint + l + 1) (hint + min k (n - hint)) (by omega) (by omega) (fun i hi => mono i (hint + l) (by omega) h3 h4) (fun i h6 h7 => ?_)) ?_)
      · rcases h5 with h5 | ⟨h5, h8⟩
        · omega
        · exact monoF (hint + k) i (by omega) h7 h8
      · rintro c st' ⟨rfl, l, k, rfl, q⟩
        exact wpS_pure q
  | false =>
    simp only [Bool.false_eq_true, if_false]
    refine wpS_bind (wpS_mono (wpS_forRange (I := fun x c st' => st' = st ∧ ∃ l k, c = ((none : Option (Option Nat)), l, k) ∧ l < k ∧ x + 1 ≤ k ∧ l ≤ hint ∧ B (hint - l) = false)
      (Q := fun c st' => st' = st ∧ ∃ l k, c = ((none : Option (Option Nat)), l, k) ∧ l < k ∧ l ≤ hint ∧ B (hint - l) = false ∧ (hint + 1 ≤ k ∨ (k ≤ hint ∧ B (hint - k) = true))) ?step ?fin ⟨rfl, 0, 1, rfl, by omega, by omega, by omega, e0⟩) ?post)
    case fin =>
      rintro c st' ⟨rfl, l, k, rfl, h1, h2, h3, h4⟩
      exact ⟨rfl, l, k, rfl, h1, h3, h4, .inl (by omega)⟩
    case step =>
      rintro x c st' _ hx ⟨rfl, l, k, rfl, h1, h2, h3, h4⟩
      dsimp only
      by_cases hge : k ≥ hint + 1
      · rw [if_pos hge]
        exact wpS_pure ⟨rfl, l, k, rfl, h1, h3, h4, .inl hge⟩
      · rw [if_neg hge]
        refine wpS_bind (bey (hint - k) (by omega) ?_)
        cases e : B (hint - k) with
        | true =>
          simp only [if_true]
          exact wpS_pure ⟨rfl, l, k, rfl, h1, h3, h4, .inr ⟨by omega, e⟩⟩
        | false =>
          simp only [Bool.false_eq_true, if_false]
          exact wpS_pure ⟨rfl, _, _, rfl, by omega, by omega, by omega, e⟩
    case post =>
      rintro c st' ⟨rfl, l, k, rfl, h1, h3, h4, h5⟩
      dsimp only
      refine wpS_bind (wpS_mono (jp (hint + 1 - min k (hint + 1)) (hint - l) (by omega) (by omega) (fun i hi => ?_) (fun i h6 h7 => monoF _ i h6 h7 h4)) ?_)
      · rcases h5 with h5 | ⟨h5, h8⟩
        · omega
        · exact mono i (hint - k) (by omega) (by omega) h8
      · rintro c st' ⟨rfl, l, k, rfl, q⟩
        exact wpS_pure q
end
section
variable {O : KO} {a b out : List Keyed} {ia ib : Nat} {x : Keyed}
theorem drop_at {l : List Keyed} {i : Nat} {x : Keyed} (e : l[i]? = some x) : l.drop i = x :: l.drop (i + 1) := by
  obtain ⟨h, rfl⟩ := List.getElem?_eq_some_iff.mp e
  exact List.drop_eq_getElem_cons h
theorem ext_to (a : Array Keyed) (i : Nat) : (a.extract i a.size).toList = a.toList.drop i := by
  rw [Array.toList_extract]
  simp only [List.extract]
  exact List.take_of_length_le (by simp)
theorem ext_to2 (a : Array Keyed) (i k : Nat) : (a.extract i (i + k)).toList = (a.toList.drop i).take k := by
  rw [Array.toList_extract]
  simp [List.extract]
/-- what stands of a merge from the front: out is taken, a from ia on and b from ib on are left -/
structure MI (O : KO) (a b out : List Keyed) (ia ib : Nat) : Prop where
  perm : (out ++ (a.drop ia ++ b.drop ib)).Perm (a ++ b)
  srt : O.Srt out
  le : ∀ x ∈ out, ∀ y ∈ a.drop ia ++ b.drop ib, O.le x y
theorem srt_snoc (h : O.Srt out) (hx : ∀ y ∈ out, O.le y x) : O.Srt (out ++ [x]) :=
  List.pairwise_append.mpr ⟨h, List.pairwise_singleton _ _, fun y hy z hz => by rw [List.mem_singleton.mp hz]; exact hx y hy⟩
theorem MI.takeA (h : MI O a b out ia ib) (sa : O.Srt a) (e : a[ia]? = some x) (hb : ∀ y ∈ b.drop ib, O.le x y) : MI O a b (out ++ [x]) (ia + 1) ib := by
  have ed := drop_at e
  have sd : O.Srt (x :: a.drop (ia + 1)) := ed ▸ sa.drop
  refine ⟨?_, srt_snoc h.srt fun y hy => h.le y hy x (by rw [ed]; simp), fun y hy z hz => ?_⟩
  · have p := h.perm
    rw [ed] at p
    simpa using p
  · rcases List.mem_append.mp hy with hy | hy
    · refine h.le y hy z ?_
      rw [ed]
      rcases List.mem_append.mp hz with hz | hz
      · exact List.mem_append_left _ (List.mem_cons_of_mem _ hz)
      · exact List.mem_append_right _ hz
    · rw [List.mem_singleton.mp hy]
      rcases List.mem_append.mp hz with hz | hz
      · exact (List.pairwise_cons.mp sd).1 z hz
      · exact hb z hz
theorem MI.takeB (h : MI O a b out ia ib) (sb : O.Srt b) (e : b[ib]? = some x) (ha : ∀ y ∈ a.drop ia, O.le x y) : MI O a b (out ++ [x]) ia (ib + 1) := by
  have ed := drop_at e
  have sd : O.Srt (x :: b.drop (ib + 1)) := ed ▸ sb.drop
  refine ⟨?_, srt_snoc h.srt fun y hy => h.le y hy x (by rw [ed]; simp), fun y hy z hz => ?_⟩
  · have p := h.perm
    rw [ed] at p
    refine List.Perm.trans ?_ p
    rw [List.append_assoc]
    exact List.Perm.append_left _ (show List.Perm (x :: (a.drop ia ++ b.drop (ib + 1))) _ from List.perm_middle.symm)
  · rcases List.mem_append.mp hy with hy | hy
    · refine h.le y hy z ?_
      rw [ed]
      rcases List.mem_append.mp hz with hz | hz
      · exact List.mem_append_left _ hz
      · exact List.mem_append_right _ (List.mem_cons_of_mem _ hz)
    · rw [List.mem_singleton.mp hy]
      rcases List.mem_append.mp hz with hz | hz
      · exact ha z hz
      · exact (List.pairwise_cons.mp sd).1 z hz
theorem take_snoc {l : List Keyed} {i k : Nat} {x : Keyed} (e : l[i + k]? = some x) : (l.drop i).take (k + 1) = (l.drop i).take k ++ [x] := by
  rw [List.take_succ, List.getElem?_drop, e]
  rfl
theorem MI.takeAs (h : MI O a b out ia ib) (sa : O.Srt a) : ∀ k, ia + k ≤ a.length → (∀ i z, i < k → a[ia + i]? = some z → ∀ y ∈ b.drop ib, O.le z y) → MI O a b (out ++ (a.drop ia).take k) (ia + k) ib
  | 0, _, _ => by simpa using h
  | k + 1, hl, hz => by
    have q := MI.takeAs h sa k (by omega) fun i z hi e => hz i z (by omega) e
    have e : a[ia + k]? = some a[ia + k] := List.getElem?_eq_getElem (by omega)
    have r := q.takeA sa e (hz k _ (by omega) e)
    rw [List.append_assoc, ← take_snoc e] at r
    exact r
theorem MI.takeBs (h : MI O a b out ia ib) (sb : O.Srt b) : ∀ k, ib + k ≤ b.length → (∀ i z, i < k → b[ib + i]? = some z → ∀ y ∈ a.drop ia, O.le z y) → MI O a b (out ++ (b.drop ib).take k) ia (ib + k)
  | 0, _, _ => by simpa using h
  | k + 1, hl, hz => by
    have q := MI.takeBs h sb k (by omega) fun i z hi e => hz i z (by omega) e
    have e : b[ib + k]? = some b[ib + k] := List.getElem?_eq_getElem (by omega)
    have r := q.takeB sb e (hz k _ (by omega) e)
    rw [List.append_assoc, ← take_snoc e] at r
    exact r
/-- merged: the same things, sorted -/
def Mg (O : KO) (a b r : List Keyed) : Prop := r.Perm (a ++ b) ∧ O.Srt r
theorem MI.doneA (h : MI O a b out ia ib) (sa : O.Srt a) (e : b.length ≤ ib) : Mg O a b (out ++ a.drop ia ++ b.drop ib) := by
  have eb : b.drop ib = [] := List.drop_eq_nil_of_le e
  refine ⟨by rw [List.append_assoc]; exact h.perm, ?_⟩
  rw [eb, List.append_nil]
  exact List.pairwise_append.mpr ⟨h.srt, sa.drop, fun x hx y hy => h.le x hx y (List.mem_append_left _ hy)⟩
theorem MI.doneB (h : MI O a b out ia ib) (sa : O.Srt a) (sb : O.Srt b) (hl : ∀ x ∈ b.drop ib, ∀ y ∈ a.drop ia, O.le x y) : Mg O a b (out ++ b.drop ib ++ a.drop ia) := by
  refine ⟨by rw [List.append_assoc]; exact (List.Perm.append_left _ List.perm_append_comm).trans h.perm, ?_⟩
  rw [List.append_assoc]
  refine List.pairwise_append.mpr ⟨h.srt, List.pairwise_append.mpr ⟨sb.drop, sa.drop, hl⟩, fun x hx y hy => h.le x hx y ?_⟩
  rcases List.mem_append.mp hy with hy | hy
  · exact List.mem_append_right _ hy
  · exact List.mem_append_left _ hy
end
section
variable {prog : Program} {w : World} {A : Around} {E : Value → Shared → Prop} {s : Shared} {O : KO} {knd : SortKind} {ok : Keyed → Prop} {st : SortSt}
theorem wpS_ite {α : Type} {c : Prop} [Decidable c] {p q : StateT SortSt Sem α} {Q : α → SortSt → Prop} (h1 : c → wpS (model prog w) A E s p Q st) (h2 : ¬ c → wpS (model prog w) A E s q Q st) : wpS (model prog w) A E s (if c then p else q) Q st := by
  by_cases h : c
  · rw [if_pos h]; exact h1 h
  · rw [if_neg h]; exact h2 h
/-- the same but for the length from which it gallops -/
def Gal (st st' : SortSt) : Prop := kindOf st' = kindOf st ∧ arrOf st' = arrOf st ∧ pendingOf st' = pendingOf st ∧ failedOf st' = failedOf st
theorem Gal.refl : Gal st st := ⟨rfl, rfl, rfl, rfl⟩
theorem wpS_setGallop {g : Nat} {st1 : SortSt} {Q : Unit → SortSt → Prop} (hG : Gal st st1) (h : ∀ st', Gal st st' → Q () st') : wpS (model prog w) A E s (setGallop' g) Q st1 :=
  wpS_modify (h _ ⟨hG.1, hG.2.1, hG.2.2.1, hG.2.2.2⟩)
theorem sorted_at {l : List Keyed} (sl : O.Srt l) {i j : Nat} {x y : Keyed} (hij : i ≤ j) (hx : l[i]? = some x) (hy : l[j]? = some y) : O.le x y := by
  obtain ⟨h1, rfl⟩ := List.getElem?_eq_some_iff.mp hx
  obtain ⟨h2, rfl⟩ := List.getElem?_eq_some_iff.mp hy
  rcases Nat.lt_or_eq_of_le hij with h | h
  · exact List.pairwise_iff_getElem.mp sl i j h1 h2 h
  · subst h; exact KO.le_refl
theorem mem_drop_at {l : List Keyed} {i : Nat} {y : Keyed} (h : y ∈ l.drop i) : ∃ j, i ≤ j ∧ l[j]? = some y := by
  obtain ⟨j, hj, e⟩ := List.mem_iff_getElem.mp h
  exact ⟨i + j, by omega, by rw [← List.getElem?_drop, List.getElem?_eq_getElem hj, e]⟩
theorem le_drop {l : List Keyed} (sl : O.Srt l) {i : Nat} {x : Keyed} (hx : l[i]? = some x) : ∀ y ∈ l.drop i, O.le x y := fun y hy =>
  let ⟨_, hj, e⟩ := mem_drop_at hy
  sorted_at sl hj hx e
theorem arr_at {a : Array Keyed} {i : Nat} (h : i < a.size) : ∃ x, a[i]? = some x ∧ a.toList[i]? = some x ∧ x ∈ a.toList :=
  ⟨a[i], Array.getElem?_eq_getElem h, by rw [Array.getElem?_toList]; exact Array.getElem?_eq_getElem h, by simp⟩
theorem arr_to {a : Array Keyed} {i : Nat} {x : Keyed} (h : a[i]? = some x) : a.toList[i]? = some x := by rw [Array.getElem?_toList]; exact h
/-- galloping through a sorted stretch of an array, from its place i on, for those no greater than the key -/
theorem wpS_gallopR {key : Keyed} {a : Array Keyed} {i n hint : Nat} {Q : Option Nat → SortSt → Prop} (hA : Asks prog w A s O knd ok) (hk : kindOf st = knd) (hkey : ok key) (oka : ∀ x ∈ a.toList, ok x) (hi : i + n ≤ a.size)
    (sa : ∀ p q x y, i ≤ p → p ≤ q → q < i + n → a[p]? = some x → a[q]? = some y → O.le x y) (hh : hint < n)
    (h : ∀ k, k ≤ n → (∀ j z, j < k → a[i + j]? = some z → O.le z key) → (∀ j z, k ≤ j → j < n → a[i + j]? = some z → O.blt (O.ky key) (O.ky z) = true) → Q (some k) st) : wpS (model prog w) A E s (gallop' false key a i n hint) Q st := by
  refine wpS_gallop hA hk hkey (fun j => !(O.blt (O.ky key) (O.ky (a.getD (i + j) key)))) ?_ ?_ hh ?_
  · intro j hj
    obtain ⟨x, e1, _, e3⟩ := arr_at (a := a) (i := i + j) (by omega)
    refine ⟨x, e1, oka x e3, ?_⟩
    have e4 : a.getD (i + j) key = x := by rw [Array.getD_eq_getD_getElem?, e1]; rfl
    simp [e4]
  · intro p q hpq hq hb
    obtain ⟨x, e1, _, _⟩ := arr_at (a := a) (i := i + p) (by omega)
    obtain ⟨y, f1, _, _⟩ := arr_at (a := a) (i := i + q) (by omega)
    have e4 : a.getD (i + p) key = x := by rw [Array.getD_eq_getD_getElem?, e1]; rfl
    have f4 : a.getD (i + q) key = y := by rw [Array.getD_eq_getD_getElem?, f1]; rfl
    rw [f4] at hb
    rw [e4]
    have z : O.le x key := KO.le_trans (sa _ _ x y (by omega) (by omega) (by omega) e1 f1) (show O.blt _ _ = false by simpa using hb)
    have z : O.blt (O.ky key) (O.ky x) = false := z
    simpa using z
  · intro k hk1 h1 h2
    refine h k hk1 (fun j z hj e => ?_) (fun j z hj hj2 e => ?_)
    · have e4 : a.getD (i + j) key = z := by rw [Array.getD_eq_getD_getElem?, e]; rfl
      have := h1 j hj
      rw [e4] at this
      exact (show O.blt _ _ = false by simpa using this)
    · have e4 : a.getD (i + j) key = z := by rw [Array.getD_eq_getD_getElem?, e]; rfl
      have := h2 j hj hj2
      rw [e4] at this
      simpa using this
/-- the same for those less than the key -/
theorem wpS_gallopL {key : Keyed} {a : Array Keyed} {i n hint : Nat} {Q : Option Nat → SortSt → Prop} (hA : Asks prog w A s O knd ok) (hk : kindOf st = knd) (hkey : ok key) (oka : ∀ x ∈ a.toList, ok x) (hi : i + n ≤ a.size)
    (sa : ∀ p q x y, i ≤ p → p ≤ q → q < i + n → a[p]? = some x → a[q]? = some y → O.le x y) (hh : hint < n)
    (h : ∀ k, k ≤ n → (∀ j z, j < k → a[i + j]? = some z → O.blt (O.ky z) (O.ky key) = true) → (∀ j z, k ≤ j → j < n → a[i + j]? = some z → O.le key z) → Q (some k) st) : wpS (model prog w) A E s (gallop' true key a i n hint) Q st := by
  refine wpS_gallop hA hk hkey (fun j => O.blt (O.ky (a.getD (i + j) key)) (O.ky key)) ?_ ?_ hh ?_
  · intro j hj
    obtain ⟨x, e1, _, e3⟩ := arr_at (a := a) (i := i + j) (by omega)
    refine ⟨x, e1, oka x e3, ?_⟩
    have e4 : a.getD (i + j) key = x := by rw [Array.getD_eq_getD_getElem?, e1]; rfl
    simp [e4]
  · intro p q hpq hq hb
    obtain ⟨x, e1, _, _⟩ := arr_at (a := a) (i := i + p) (by omega)
    obtain ⟨y, f1, _, _⟩ := arr_at (a := a) (i := i + q) (by omega)
    have e4 : a.getD (i + p) key = x := by rw [Array.getD_eq_getD_getElem?, e1]; rfl
    have f4 : a.getD (i + q) key = y := by rw [Array.getD_eq_getD_getElem?, f1]; rfl
    rw [f4] at hb
    rw [e4]
    exact KeyOrd.klt_of_kle_of_klt (O := O.toKeyOrd) (sa _ _ x y (by omega) (by omega) (by omega) e1 f1) hb
  · intro k hk1 h1 h2
    refine h k hk1 (fun j z hj e => ?_) (fun j z hj hj2 e => ?_)
    · have e4 : a.getD (i + j) key = z := by rw [Array.getD_eq_getD_getElem?, e]; rfl
      have := h1 j hj
      rw [e4] at this
      exact this
    · have e4 : a.getD (i + j) key = z := by rw [Array.getD_eq_getD_getElem?, e]; rfl
      have := h2 j hj hj2
      rw [e4] at this
      exact this
theorem srtA {a : Array Keyed} (sa : O.Srt a.toList) (i n : Nat) : ∀ p q x y, i ≤ p → p ≤ q → q < i + n → a[p]? = some x → a[q]? = some y → O.le x y := fun p q x y _ h _ e1 e2 => sorted_at sa h (arr_to e1) (arr_to e2)
/-- merging from the front -/
theorem wpS_mergeLo {a b : Array Keyed} {Q : Array Keyed → SortSt → Prop} (hA : Asks prog w A s O knd ok) (hk : kindOf st = knd) (oka : ∀ x ∈ a.toList, ok x) (okb : ∀ x ∈ b.toList, ok x) (sa : O.Srt a.toList) (sb : O.Srt b.toList) (ha : 1 ≤ a.size) (hb : 1 ≤ b.size)
    (hfirst : ∀ y, b[0]? = some y → ∀ x ∈ a.toList, O.le y x) (hlast : ∀ z, a[a.size - 1]? = some z → ∀ y ∈ b.toList, O.blt (O.ky y) (O.ky z) = true)
    (h : ∀ r st', Gal st st' → Mg O a.toList b.toList r.toList → Q r st') : wpS (model prog w) A E s (mergeLo' a b) Q st := by
  obtain ⟨b0, eb0, eb0', _⟩ := arr_at (a := b) (i := 0) (by omega)
  have done : ∀ {out : Array Keyed} {ia ib : Nat}, MI O a.toList b.toList out.toList ia ib → b.size ≤ ib → Mg O a.toList b.toList (out ++ a.extract ia a.size ++ b.extract ib b.size).toList := by
    intro out ia ib m hl
    rw [Array.toList_append, Array.toList_append, ext_to, ext_to]
    exact m.doneA sa hl
  have last : ∀ {out : Array Keyed} {ia ib : Nat}, MI O a.toList b.toList out.toList ia ib → ia + 1 = a.size → Mg O a.toList b.toList (out ++ b.extract ib b.size ++ a.extract ia a.size).toList := by
    intro out ia ib m hl
    rw [Array.toList_append, Array.toList_append, ext_to, ext_to]
    refine m.doneB sa sb fun x hx y hy => ?_
    obtain ⟨j, hj, e⟩ := mem_drop_at hy
    have hj2 : j < a.size := (List.getElem?_eq_some_iff.mp e).1
    have e2 : j = a.size - 1 := by omega
    rw [e2] at e
    rw [Array.getElem?_toList] at e
    exact KO.le_of_lt (hlast y e x (List.mem_of_mem_drop hx))
  have pB : ∀ {out : Array Keyed} {ia ib : Nat} {y : Keyed}, MI O a.toList b.toList out.toList ia ib → b[ib]? = some y → (∀ z ∈ a.toList.drop ia, O.le y z) → MI O a.toList b.toList (out.push y).toList ia (ib + 1) := by
    intro out ia ib y m e hz
    rw [Array.toList_push]
    exact m.takeB sb (arr_to e) hz
  have pA : ∀ {out : Array Keyed} {ia ib : Nat} {y : Keyed}, MI O a.toList b.toList out.toList ia ib → a[ia]? = some y → (∀ z ∈ b.toList.drop ib, O.le y z) → MI O a.toList b.toList (out.push y).toList (ia + 1) ib := by
    intro out ia ib y m e hz
    rw [Array.toList_push]
    exact m.takeA sa (arr_to e) hz
  refine wpS_bind (wpS_lift (wpAny_rule ⟨rfl, ?_⟩))
  refine wpS_bind (wpS_elem eb0 ?_)
  have m0 : MI O a.toList b.toList #[b0].toList 0 1 :=
    MI.takeB (out := []) (ib := 0) ⟨by simp, List.Pairwise.nil, fun x hx => by cases hx⟩ sb eb0' (by simpa using hfirst b0 eb0)
  dsimp only
  by_cases c1 : 1 = b.size
  · rw [if_pos (by simpa using c1)]
    exact wpS_pure (h _ _ Gal.refl (done m0 (by omega)))
  rw [if_neg (by simpa using c1)]
  by_cases c2 : 0 + 1 = a.size
  · rw [if_pos (by simpa using c2)]
    exact wpS_pure (h _ _ Gal.refl (last m0 (by omega)))
  rw [if_neg (by simpa using c2)]
  refine wpS_bind (wpS_get ?_)
  refine wpS_bind (wpS_mono (wpS_forRange
    (I := fun x c st' => Gal st st' ∧ ∃ (out : Array Keyed) (ia ib g : Nat), c = ((none : Option (Array Keyed)), out, ia, ib, g) ∧ MI O a.toList b.toList out.toList ia ib ∧ ia + 1 < a.size ∧ ib < b.size ∧ x ≤ ia + ib)
    (Q := fun c st' => Gal st st' ∧ ∃ (r out : Array Keyed) (ia ib g : Nat), c = (some r, out, ia, ib, g) ∧ Mg O a.toList b.toList r.toList) ?step ?fin ⟨Gal.refl, #[b0], 0, 1, gallopOf st, rfl, m0, by omega, by omega, by omega⟩) ?post)
  case fin =>
    rintro c st' ⟨_, out, ia, ib, g, rfl, _, h1, h2, h3⟩
    omega
  case post =>
    rintro c st' ⟨hG, r, out, ia, ib, g, rfl, hm⟩
    exact wpS_pure (h r st' hG hm)
  case step =>
    rintro x c st1 _ hx ⟨hG1, out, ia, ib, g, rfl, hm, h1, h2, h3⟩
    dsimp only
    have hk1 : kindOf st1 = knd := hG1.1.trans hk
    refine wpS_bind (wpS_mono (wpS_forRange
      (I := fun y c st' => st' = st1 ∧ ∃ (out : Array Keyed) (ia ib p q : Nat), c = ((none : Option (Array Keyed)), out, ia, ib, p, q) ∧ MI O a.toList b.toList out.toList ia ib ∧ ia + 1 < a.size ∧ ib < b.size ∧ x + y ≤ ia + ib)
      (Q := fun c st' => st' = st1 ∧ ((∃ (r out : Array Keyed) (ia ib p q : Nat), c = (some r, out, ia, ib, p, q) ∧ Mg O a.toList b.toList r.toList) ∨
        (∃ (out : Array Keyed) (ia ib p q : Nat), c = (none, out, ia, ib, p, q) ∧ MI O a.toList b.toList out.toList ia ib ∧ ia + 1 < a.size ∧ ib < b.size ∧ x + 1 ≤ ia + ib))) ?step1 ?fin1 ⟨rfl, out, ia, ib, 0, 0, rfl, hm, h1, h2, by omega⟩) ?post1)
    case fin1 =>
      rintro c st' ⟨rfl, out, ia, ib, p, q, rfl, hm, h1, h2, h3⟩
      exact ⟨rfl, .inr ⟨out, ia, ib, p, q, rfl, hm, h1, h2, by omega⟩⟩
    case step1 =>
      rintro y c st' _ hy ⟨rfl, out, ia, ib, p, q, rfl, hm, h1, h2, h3⟩
      dsimp only
      obtain ⟨u, eu, eu', mu⟩ := arr_at (a := b) h2
      obtain ⟨v, ev, ev', mv⟩ := arr_at (a := a) (i := ia) (by omega)
      refine wpS_bind (wpS_elem eu (wpS_bind (wpS_elem ev ?_)))
      refine wpS_bind (wpS_lt hA hk1 (okb u mu) (oka v mv) ?_)
      cases e : O.blt (O.ky u) (O.ky v) with
      | true =>
        simp only [if_true]
        refine wpS_bind (wpS_elem eu ?_)
        have m2 := pB hm eu fun z hz => KO.le_trans (KO.le_of_lt e) (le_drop sa ev' z hz)
        by_cases c3 : ib + 1 = b.size
        · rw [if_pos (by simpa using c3)]
          exact wpS_pure ⟨rfl, .inl ⟨_, _, _, _, _, _, rfl, done m2 (by omega)⟩⟩
        rw [if_neg (by simpa using c3)]
        refine wpS_ite (fun _ => ?_) (fun _ => ?_)
        · exact wpS_pure ⟨rfl, .inr ⟨_, _, _, _, _, rfl, m2, by omega, by omega, by omega⟩⟩
        · exact wpS_pure ⟨rfl, _, _, _, _, _, rfl, m2, by omega, by omega, by omega⟩
      | false =>
        simp only [Bool.false_eq_true, if_false]
        refine wpS_bind (wpS_elem ev ?_)
        have m2 := pA hm ev fun z hz => KO.le_trans (show O.le v u from e) (le_drop sb eu' z hz)
        by_cases c3 : ia + 1 + 1 = a.size
        · rw [if_pos (by simpa using c3)]
          exact wpS_pure ⟨rfl, .inl ⟨_, _, _, _, _, _, rfl, last m2 c3⟩⟩
        rw [if_neg (by simpa using c3)]
        refine wpS_ite (fun _ => ?_) (fun _ => ?_)
        · exact wpS_pure ⟨rfl, .inr ⟨_, _, _, _, _, rfl, m2, by omega, by omega, by omega⟩⟩
        · exact wpS_pure ⟨rfl, _, _, _, _, _, rfl, m2, by omega, by omega, by omega⟩
    case post1 =>
      rintro c st' ⟨rfl, ⟨r, out, ia, ib, p, q, rfl, hr⟩ | ⟨out, ia, ib, p, q, rfl, hm, h1, h2, h3⟩⟩
      · exact wpS_pure ⟨hG1, _, _, _, _, _, rfl, hr⟩
      dsimp only
      refine wpS_bind (wpS_lift (wpAny_rule ⟨rfl, ?_⟩))
      refine wpS_bind (wpS_mono (wpS_forRange
        (I := fun y c st' => Gal st st' ∧ ∃ (out : Array Keyed) (ia ib g p q : Nat), c = ((none : Option (Array Keyed)), out, ia, ib, g, p, q) ∧ MI O a.toList b.toList out.toList ia ib ∧ ia + 1 < a.size ∧ ib < b.size ∧ x + 1 ≤ ia + ib)
        (Q := fun c st' => Gal st st' ∧ ((∃ (r out : Array Keyed) (ia ib g p q : Nat), c = (some r, out, ia, ib, g, p, q) ∧ Mg O a.toList b.toList r.toList) ∨
          (∃ (out : Array Keyed) (ia ib g p q : Nat), c = (none, out, ia, ib, g, p, q) ∧ MI O a.toList b.toList out.toList ia ib ∧ ia + 1 < a.size ∧ ib < b.size ∧ x + 1 ≤ ia + ib))) ?step2 ?fin2 ⟨hG1, out, ia, ib, g + 1, p, q, rfl, hm, h1, h2, h3⟩) ?post2)
      case fin2 =>
        rintro c st' ⟨hG, out, ia, ib, g, p, q, rfl, hm, h1, h2, h3⟩
        exact ⟨hG, .inr ⟨out, ia, ib, g, p, q, rfl, hm, h1, h2, h3⟩⟩
      case post2 =>
        rintro c st' ⟨hG, ⟨r, out, ia, ib, g, p, q, rfl, hr⟩ | ⟨out, ia, ib, g, p, q, rfl, hm, h1, h2, h3⟩⟩
        · exact wpS_pure ⟨hG, _, _, _, _, _, rfl, hr⟩
        exact wpS_bind (wpS_setGallop hG fun st2 hG2 => wpS_pure ⟨hG2, _, _, _, _, rfl, hm, h1, h2, h3⟩)
      case step2 =>
        rintro y c st' _ hy ⟨hG, out, ia, ib, g, p, q, rfl, hm, h1, h2, h3⟩
        dsimp only
        obtain ⟨u, eu, eu', mu⟩ := arr_at (a := b) h2
        refine wpS_ite (fun cg => ?_) (fun cg => ?_)
        all_goals
          refine wpS_bind (wpS_setGallop hG fun st2 hG2 => wpS_bind (wpS_elem eu ?_))
          refine wpS_bind (wpS_gallopR hA (hG2.1.trans hk) (okb u mu) oka (by omega) (srtA sa _ _) (by omega) fun k hk1 b1 b2 => ?_)
          have m3 := hm.takeAs sa k (by simp; omega) fun i z hi e y hy => KO.le_trans (b1 i z hi (by rw [← Array.getElem?_toList]; exact e)) (le_drop sb eu' y hy)
          have hu : ∀ z ∈ a.toList.drop (ia + k), O.le u z := by
            intro z hz
            obtain ⟨j, hj, e⟩ := mem_drop_at hz
            have hj2 : j < a.size := (List.getElem?_eq_some_iff.mp e).1
            refine KO.le_of_lt (b2 (j - ia) z (by omega) (by omega) ?_)
            rw [show ia + (j - ia) = j by omega, ← Array.getElem?_toList]
            exact e
          have hka : ia + k < a.size := by
            rcases Nat.lt_or_eq_of_le hk1 with z | z
            · omega
            · obtain ⟨zl, el, _, _⟩ := arr_at (a := a) (i := a.size - 1) (by omega)
              have q1 := hlast zl el u mu
              have q2 := b1 (a.size - 1 - ia) zl (by omega) (by rw [show ia + (a.size - 1 - ia) = a.size - 1 by omega]; exact el)
              rw [show O.blt (O.ky u) (O.ky zl) = false from q2] at q1
              cases q1
          dsimp only
          by_cases ck : k > 0
          · rw [if_pos ck]
            rw [← ext_to2, ← Array.toList_append] at m3
            by_cases c3 : ia + k + 1 = a.size
            · rw [if_pos (by simpa using c3)]
              exact wpS_pure ⟨hG2, .inl ⟨_, _, _, _, _, _, _, rfl, last m3 c3⟩⟩
            rw [if_neg (by simpa using c3), if_neg (by simp; omega)]
            refine wpS_bind (wpS_elem eu ?_)
            have m4 := pB m3 eu hu
            by_cases c4 : ib + 1 = b.size
            · rw [if_pos (by simpa using c4)]
              exact wpS_pure ⟨hG2, .inl ⟨_, _, _, _, _, _, _, rfl, done m4 (by omega)⟩⟩
            rw [if_neg (by simpa using c4)]
            obtain ⟨v, ev, ev', mv⟩ := arr_at (a := a) (i := ia + k) (by omega)
            refine wpS_bind (wpS_elem ev ?_)
            refine wpS_bind (wpS_gallopL hA (hG2.1.trans hk) (oka v mv) okb (by omega) (srtA sb _ _) (by omega) fun k2 hk2 d1 d2 => ?_)
            have m5 := m4.takeBs sb k2 (by simp; omega) fun i z hi e y hy => KO.le_trans (KO.le_of_lt (d1 i z hi (by rw [← Array.getElem?_toList]; exact e))) (le_drop sa ev' y hy)
            have hv : ∀ z ∈ b.toList.drop (ib + 1 + k2), O.le v z := by
              intro z hz
              obtain ⟨j, hj, e⟩ := mem_drop_at hz
              have hj2 : j < b.size := (List.getElem?_eq_some_iff.mp e).1
              refine d2 (j - (ib + 1)) z (by omega) (by omega) ?_
              rw [show ib + 1 + (j - (ib + 1)) = j by omega, ← Array.getElem?_toList]
              exact e
            dsimp only
            by_cases ck2 : k2 > 0
            · rw [if_pos ck2]
              rw [← ext_to2, ← Array.toList_append] at m5
              by_cases c6 : ib + 1 + k2 = b.size
              · rw [if_pos (by simpa using c6)]
                exact wpS_pure ⟨hG2, .inl ⟨_, _, _, _, _, _, _, rfl, done m5 (by omega)⟩⟩
              rw [if_neg (by simpa using c6)]
              refine wpS_bind (wpS_elem ev ?_)
              have m7 := pA m5 ev hv
              by_cases c7 : ia + k + 1 + 1 = a.size
              · rw [if_pos (by simpa using c7)]
                exact wpS_pure ⟨hG2, .inl ⟨_, _, _, _, _, _, _, rfl, last m7 c7⟩⟩
              rw [if_neg (by simpa using c7)]
              refine wpS_ite (fun _ => ?_) (fun _ => ?_)
              · exact wpS_pure ⟨hG2, .inr ⟨_, _, _, _, _, _, rfl, m7, by omega, by omega, by omega⟩⟩
              · exact wpS_pure ⟨hG2, _, _, _, _, _, _, rfl, m7, by omega, by omega, by omega⟩
            · rw [if_neg ck2]
              have k0 : k2 = 0 := by omega
              subst k0
              rw [List.take_zero, List.append_nil] at m5
              refine wpS_bind (wpS_elem ev ?_)
              have m7 := pA m5 ev hv
              by_cases c7 : ia + k + 1 + 1 = a.size
              · rw [if_pos (by simpa using c7)]
                exact wpS_pure ⟨hG2, .inl ⟨_, _, _, _, _, _, _, rfl, last m7 c7⟩⟩
              rw [if_neg (by simpa using c7)]
              refine wpS_ite (fun _ => ?_) (fun _ => ?_)
              · exact wpS_pure ⟨hG2, .inr ⟨_, _, _, _, _, _, rfl, m7, by omega, by omega, by omega⟩⟩
              · exact wpS_pure ⟨hG2, _, _, _, _, _, _, rfl, m7, by omega, by omega, by omega⟩
          · rw [if_neg ck]
            have k0 : k = 0 := by omega
            subst k0
            rw [List.take_zero, List.append_nil] at m3
            refine wpS_bind (wpS_elem eu ?_)
            have m4 := pB m3 eu hu
            by_cases c4 : ib + 1 = b.size
            · rw [if_pos (by simpa using c4)]
              exact wpS_pure ⟨hG2, .inl ⟨_, _, _, _, _, _, _, rfl, done m4 (by omega)⟩⟩
            rw [if_neg (by simpa using c4)]
            obtain ⟨v, ev, ev', mv⟩ := arr_at (a := a) (i := ia + 0) (by omega)
            refine wpS_bind (wpS_elem ev ?_)
            refine wpS_bind (wpS_gallopL hA (hG2.1.trans hk) (oka v mv) okb (by omega) (srtA sb _ _) (by omega) fun k2 hk2 d1 d2 => ?_)
            have m5 := m4.takeBs sb k2 (by simp; omega) fun i z hi e y hy => KO.le_trans (KO.le_of_lt (d1 i z hi (by rw [← Array.getElem?_toList]; exact e))) (le_drop sa ev' y hy)
            have hv : ∀ z ∈ b.toList.drop (ib + 1 + k2), O.le v z := by
              intro z hz
              obtain ⟨j, hj, e⟩ := mem_drop_at hz
              have hj2 : j < b.size := (List.getElem?_eq_some_iff.mp e).1
              refine d2 (j - (ib + 1)) z (by omega) (by omega) ?_
              rw [show ib + 1 + (j - (ib + 1)) = j by omega, ← Array.getElem?_toList]
              exact e
            dsimp only
            by_cases ck2 : k2 > 0
            · rw [if_pos ck2]
              rw [← ext_to2, ← Array.toList_append] at m5
              by_cases c6 : ib + 1 + k2 = b.size
              · rw [if_pos (by simpa using c6)]
                exact wpS_pure ⟨hG2, .inl ⟨_, _, _, _, _, _, _, rfl, done m5 (by omega)⟩⟩
              rw [if_neg (by simpa using c6)]
              refine wpS_bind (wpS_elem ev ?_)
              have m7 := pA m5 ev hv
              by_cases c7 : ia + 0 + 1 + 1 = a.size
              · rw [if_pos (by simpa using c7)]
                exact wpS_pure ⟨hG2, .inl ⟨_, _, _, _, _, _, _, rfl, last m7 c7⟩⟩
              rw [if_neg (by simpa using c7)]
              refine wpS_ite (fun _ => ?_) (fun _ => ?_)
              · exact wpS_pure ⟨hG2, .inr ⟨_, _, _, _, _, _, rfl, m7, by omega, by omega, by omega⟩⟩
              · exact wpS_pure ⟨hG2, _, _, _, _, _, _, rfl, m7, by omega, by omega, by omega⟩
            · rw [if_neg ck2]
              have k0 : k2 = 0 := by omega
              subst k0
              rw [List.take_zero, List.append_nil] at m5
              refine wpS_bind (wpS_elem ev ?_)
              have m7 := pA m5 ev hv
              by_cases c7 : ia + 0 + 1 + 1 = a.size
              · rw [if_pos (by simpa using c7)]
                exact wpS_pure ⟨hG2, .inl ⟨_, _, _, _, _, _, _, rfl, last m7 c7⟩⟩
              rw [if_neg (by simpa using c7)]
              refine wpS_ite (fun _ => ?_) (fun _ => ?_)
              · exact wpS_pure ⟨hG2, .inr ⟨_, _, _, _, _, _, rfl, m7, by omega, by omega, by omega⟩⟩
              · exact wpS_pure ⟨hG2, _, _, _, _, _, _, rfl, m7, by omega, by omega, by omega⟩
end
section
variable {O : KO} {a b out : List Keyed} {na nb : Nat} {x : Keyed}
/-- what stands of a merge from the end -/
structure MH (O : KO) (a b out : List Keyed) (na nb : Nat) : Prop where
  perm : (a.take na ++ b.take nb ++ out.reverse).Perm (a ++ b)
  srt : O.Srt out.reverse
  le : ∀ x ∈ a.take na ++ b.take nb, ∀ y ∈ out, O.le x y
theorem take_at {l : List Keyed} {i : Nat} {x : Keyed} (e : l[i]? = some x) : l.take (i + 1) = l.take i ++ [x] := by
  rw [List.take_succ, e]; rfl
theorem MH.takeA (h : MH O a b out (na + 1) nb) (sa : O.Srt a) (e : a[na]? = some x) (hb : ∀ y ∈ b.take nb, O.le y x) : MH O a b (out ++ [x]) na nb := by
  have ed := take_at e
  have sd : O.Srt (a.take na ++ [x]) := ed ▸ sa.take
  have hx : x ∈ a.take (na + 1) ++ b.take nb := by rw [ed]; simp
  refine ⟨?_, ?_, fun y hy z hz => ?_⟩
  · have p := h.perm
    rw [ed] at p
    refine List.Perm.trans ?_ p
    rw [List.reverse_append]
    simp only [List.reverse_cons, List.reverse_nil, List.nil_append, List.append_assoc, List.singleton_append]
    refine List.Perm.append_left _ ?_
    exact (List.perm_middle (a := x) (l₁ := b.take nb) (l₂ := out.reverse))
  · rw [List.reverse_append]
    exact List.pairwise_cons.mpr ⟨fun y hy => h.le x hx y (List.mem_reverse.mp hy), h.srt⟩
  · rcases List.mem_append.mp hz with hz | hz
    · refine h.le y ?_ z hz
      rw [ed]
      rcases List.mem_append.mp hy with hy | hy
      · exact List.mem_append_left _ (List.mem_append_left _ hy)
      · exact List.mem_append_right _ hy
    · rw [List.mem_singleton.mp hz]
      rcases List.mem_append.mp hy with hy | hy
      · exact (List.pairwise_append.mp sd).2.2 y hy x (by simp)
      · exact hb y hy
theorem MH.takeB (h : MH O a b out na (nb + 1)) (sb : O.Srt b) (e : b[nb]? = some x) (ha : ∀ y ∈ a.take na, O.le y x) : MH O a b (out ++ [x]) na nb := by
  have ed := take_at e
  have sd : O.Srt (b.take nb ++ [x]) := ed ▸ sb.take
  have hx : x ∈ a.take na ++ b.take (nb + 1) := by rw [ed]; simp
  refine ⟨?_, ?_, fun y hy z hz => ?_⟩
  · have p := h.perm
    rw [ed] at p
    rw [List.reverse_append]
    simpa using p
  · rw [List.reverse_append]
    exact List.pairwise_cons.mpr ⟨fun y hy => h.le x hx y (List.mem_reverse.mp hy), h.srt⟩
  · rcases List.mem_append.mp hz with hz | hz
    · refine h.le y ?_ z hz
      rw [ed]
      rcases List.mem_append.mp hy with hy | hy
      · exact List.mem_append_left _ hy
      · exact List.mem_append_right _ (List.mem_append_left _ hy)
    · rw [List.mem_singleton.mp hz]
      rcases List.mem_append.mp hy with hy | hy
      · exact ha y hy
      · exact (List.pairwise_append.mp sd).2.2 y hy x (by simp)
theorem seg_cons {l : List Keyed} {i d : Nat} {x : Keyed} (e : l[i]? = some x) : (l.drop i).take (d + 1) = x :: (l.drop (i + 1)).take d := by
  rw [drop_at e]; rfl
theorem MH.takeAs (h : MH O a b out na nb) (sa : O.Srt a) (hn : na ≤ a.length) : ∀ d, d ≤ na → (∀ i z, na - d ≤ i → i < na → a[i]? = some z → ∀ y ∈ b.take nb, O.le y z) → MH O a b (out ++ ((a.drop (na - d)).take d).reverse) (na - d) nb
  | 0, _, _ => by simpa using h
  | d + 1, hl, hz => by
    have q := MH.takeAs h sa hn d (by omega) fun i z h1 h2 e => hz i z (by omega) h2 e
    have e : a[na - (d + 1)]? = some a[na - (d + 1)] := List.getElem?_eq_getElem (by omega)
    rw [show na - d = na - (d + 1) + 1 by omega] at q
    have r := q.takeA sa e (hz _ _ (by omega) (by omega) e)
    rw [List.append_assoc, ← List.reverse_cons, ← seg_cons e] at r
    exact r
theorem MH.takeBs (h : MH O a b out na nb) (sb : O.Srt b) (hn : nb ≤ b.length) : ∀ d, d ≤ nb → (∀ i z, nb - d ≤ i → i < nb → b[i]? = some z → ∀ y ∈ a.take na, O.le y z) → MH O a b (out ++ ((b.drop (nb - d)).take d).reverse) na (nb - d)
  | 0, _, _ => by simpa using h
  | d + 1, hl, hz => by
    have q := MH.takeBs h sb hn d (by omega) fun i z h1 h2 e => hz i z (by omega) h2 e
    have e : b[nb - (d + 1)]? = some b[nb - (d + 1)] := List.getElem?_eq_getElem (by omega)
    rw [show nb - d = nb - (d + 1) + 1 by omega] at q
    have r := q.takeB sb e (hz _ _ (by omega) (by omega) e)
    rw [List.append_assoc, ← List.reverse_cons, ← seg_cons e] at r
    exact r
theorem MH.doneA (h : MH O a b out 0 nb) (sb : O.Srt b) : Mg O a b (a.take 0 ++ b.take nb ++ out.reverse) := by
  refine ⟨h.perm, ?_⟩
  rw [List.take_zero, List.nil_append]
  exact List.pairwise_append.mpr ⟨sb.take, h.srt, fun x hx y hy => h.le x (List.mem_append_right _ hx) y (List.mem_reverse.mp hy)⟩
theorem MH.doneB (h : MH O a b out na nb) (sa : O.Srt a) (sb : O.Srt b) (hl : ∀ x ∈ b.take nb, ∀ y ∈ a.take na, O.le x y) : Mg O a b (b.take nb ++ a.take na ++ out.reverse) := by
  refine ⟨(List.Perm.append_right _ List.perm_append_comm).trans h.perm, ?_⟩
  refine List.pairwise_append.mpr ⟨List.pairwise_append.mpr ⟨sb.take, sa.take, hl⟩, h.srt, fun x hx y hy => h.le x ?_ y (List.mem_reverse.mp hy)⟩
  rcases List.mem_append.mp hx with hx | hx
  · exact List.mem_append_right _ hx
  · exact List.mem_append_left _ hx
theorem mem_take_at {l : List Keyed} {i : Nat} {y : Keyed} (h : y ∈ l.take i) : ∃ j, j < i ∧ l[j]? = some y := by
  obtain ⟨j, hj, e⟩ := List.mem_iff_getElem.mp h
  rw [List.length_take] at hj
  refine ⟨j, by omega, ?_⟩
  rw [List.getElem_take] at e
  rw [List.getElem?_eq_getElem (by omega), e]
theorem le_take {l : List Keyed} (sl : O.Srt l) {i : Nat} {x : Keyed} (hx : l[i]? = some x) : ∀ y ∈ l.take (i + 1), O.le y x := fun y hy =>
  let ⟨_, hj, e⟩ := mem_take_at hy
  sorted_at sl (by omega) e hx
theorem ext_to0 (a : Array Keyed) (i : Nat) : (a.extract 0 i).toList = a.toList.take i := by
  rw [Array.toList_extract]
  simp [List.extract]
theorem ext_toR (a : Array Keyed) (i n : Nat) : (a.extract i n).toList = (a.toList.drop i).take (n - i) := by
  rw [Array.toList_extract]
end
section
variable {prog : Program} {w : World} {A : Around} {E : Value → Shared → Prop} {s : Shared} {O : KO} {knd : SortKind} {ok : Keyed → Prop} {st : SortSt}
/-- merging from the end -/
theorem wpS_mergeHi {a b : Array Keyed} {Q : Array Keyed → SortSt → Prop} (hA : Asks prog w A s O knd ok) (hk : kindOf st = knd) (oka : ∀ x ∈ a.toList, ok x) (okb : ∀ x ∈ b.toList, ok x) (sa : O.Srt a.toList) (sb : O.Srt b.toList) (ha : 1 ≤ a.size) (hb : 1 ≤ b.size)
    (hfirst : ∀ y, b[0]? = some y → ∀ x ∈ a.toList, O.blt (O.ky y) (O.ky x) = true) (hlast : ∀ z, a[a.size - 1]? = some z → ∀ y ∈ b.toList, O.le y z)
    (h : ∀ r st', Gal st st' → Mg O a.toList b.toList r.toList → Q r st') : wpS (model prog w) A E s (mergeHi' a b) Q st := by
  obtain ⟨a0, ea0, ea0', _⟩ := arr_at (a := a) (i := a.size - 1) (by omega)
  have done : ∀ {out : Array Keyed} {nb : Nat}, MH O a.toList b.toList out.toList 0 nb → Mg O a.toList b.toList (a.extract 0 0 ++ b.extract 0 nb ++ out.reverse).toList := by
    intro out nb m
    rw [Array.toList_append, Array.toList_append, ext_to0, ext_to0, Array.toList_reverse]
    exact m.doneA sb
  have first : ∀ {out : Array Keyed} {na : Nat}, MH O a.toList b.toList out.toList na 1 → Mg O a.toList b.toList (b.extract 0 1 ++ a.extract 0 na ++ out.reverse).toList := by
    intro out na m
    rw [Array.toList_append, Array.toList_append, ext_to0, ext_to0, Array.toList_reverse]
    refine m.doneB sa sb fun x hx y hy => ?_
    obtain ⟨j, hj, e⟩ := mem_take_at hx
    have e2 : j = 0 := by omega
    rw [e2, Array.getElem?_toList] at e
    exact KO.le_of_lt (hfirst x e y (List.mem_of_mem_take hy))
  have pB : ∀ {out : Array Keyed} {na nb : Nat} {y : Keyed}, 1 ≤ nb → MH O a.toList b.toList out.toList na nb → b[nb - 1]? = some y → (∀ z ∈ a.toList.take na, O.le z y) → MH O a.toList b.toList (out.push y).toList na (nb - 1) := by
    intro out na nb y hn m e hz
    rw [Array.toList_push]
    exact MH.takeB (by rw [show nb - 1 + 1 = nb by omega]; exact m) sb (arr_to e) hz
  have pA : ∀ {out : Array Keyed} {na nb : Nat} {y : Keyed}, 1 ≤ na → MH O a.toList b.toList out.toList na nb → a[na - 1]? = some y → (∀ z ∈ b.toList.take nb, O.le z y) → MH O a.toList b.toList (out.push y).toList (na - 1) nb := by
    intro out na nb y hn m e hz
    rw [Array.toList_push]
    exact MH.takeA (by rw [show na - 1 + 1 = na by omega]; exact m) sa (arr_to e) hz
  have leT : ∀ {l : List Keyed} {i : Nat} {x : Keyed}, O.Srt l → 1 ≤ i → l[i - 1]? = some x → ∀ y ∈ l.take i, O.le y x := by
    intro l i x sl hi e y hy
    exact le_take sl e y (by rw [show i - 1 + 1 = i by omega]; exact hy)
  refine wpS_bind (wpS_lift (wpAny_rule ⟨rfl, ?_⟩))
  refine wpS_bind (wpS_elem ea0 ?_)
  have m0 : MH O a.toList b.toList #[a0].toList (a.size - 1) b.size := by
    refine MH.takeA (out := []) (na := a.size - 1) (nb := b.size) ⟨?_, List.Pairwise.nil, fun x hx y hy => by cases hy⟩ sa ea0' fun y hy => hlast a0 ea0 y (List.mem_of_mem_take hy)
    rw [show a.size - 1 + 1 = a.size by omega, List.take_of_length_le (by simp), List.take_of_length_le (by simp)]
    simp
  dsimp only
  by_cases c1 : a.size - 1 = 0
  · rw [if_pos (by simpa using c1)]
    rw [c1] at m0 ⊢
    exact wpS_pure (h _ _ Gal.refl (done m0))
  rw [if_neg (by simpa using c1)]
  by_cases c2 : b.size = 1
  · rw [if_pos (by simpa using c2)]
    rw [c2] at m0
    rw [c2]
    exact wpS_pure (h _ _ Gal.refl (first m0))
  rw [if_neg (by simpa using c2)]
  refine wpS_bind (wpS_get ?_)
  refine wpS_bind (wpS_mono (wpS_forRange
    (I := fun x c st' => Gal st st' ∧ ∃ (out : Array Keyed) (na nb g : Nat), c = ((none : Option (Array Keyed)), na, nb, out, g) ∧ MH O a.toList b.toList out.toList na nb ∧ 1 ≤ na ∧ na ≤ a.size ∧ 2 ≤ nb ∧ nb ≤ b.size ∧ x + na + nb ≤ a.size + b.size)
    (Q := fun c st' => Gal st st' ∧ ∃ (r out : Array Keyed) (na nb g : Nat), c = (some r, na, nb, out, g) ∧ Mg O a.toList b.toList r.toList) ?step ?fin ⟨Gal.refl, #[a0], a.size - 1, b.size, gallopOf st, rfl, m0, by omega, by omega, by omega, by omega, show 0 + (a.size - 1) + b.size ≤ _ by omega⟩) ?post)
  case fin =>
    rintro c st' ⟨_, out, na, nb, g, rfl, _, h1, h1', h2, h2', h3⟩
    omega
  case post =>
    rintro c st' ⟨hG, r, out, na, nb, g, rfl, hm⟩
    exact wpS_pure (h r st' hG hm)
  case step =>
    rintro x c st1 _ hx ⟨hG1, out, na, nb, g, rfl, hm, h1, h1', h2, h2', h3⟩
    dsimp only
    have hk1 : kindOf st1 = knd := hG1.1.trans hk
    refine wpS_bind (wpS_mono (wpS_forRange
      (I := fun y c st' => st' = st1 ∧ ∃ (out : Array Keyed) (na nb p q : Nat), c = ((none : Option (Array Keyed)), na, nb, out, p, q) ∧ MH O a.toList b.toList out.toList na nb ∧ 1 ≤ na ∧ na ≤ a.size ∧ 2 ≤ nb ∧ nb ≤ b.size ∧ x + y + na + nb ≤ a.size + b.size)
      (Q := fun c st' => st' = st1 ∧ ((∃ (r out : Array Keyed) (na nb p q : Nat), c = (some r, na, nb, out, p, q) ∧ Mg O a.toList b.toList r.toList) ∨
        (∃ (out : Array Keyed) (na nb p q : Nat), c = (none, na, nb, out, p, q) ∧ MH O a.toList b.toList out.toList na nb ∧ 1 ≤ na ∧ na ≤ a.size ∧ 2 ≤ nb ∧ nb ≤ b.size ∧ x + 1 + na + nb ≤ a.size + b.size))) ?step1 ?fin1 ⟨rfl, out, na, nb, 0, 0, rfl, hm, h1, h1', h2, h2', by omega⟩) ?post1)
    case fin1 =>
      rintro c st' ⟨rfl, out, na, nb, p, q, rfl, hm, h1, h1', h2, h2', h3⟩
      exact ⟨rfl, .inr ⟨out, na, nb, p, q, rfl, hm, h1, h1', h2, h2', by omega⟩⟩
    case step1 =>
      rintro y c st' _ hy ⟨rfl, out, na, nb, p, q, rfl, hm, h1, h1', h2, h2', h3⟩
      dsimp only
      obtain ⟨u, eu, eu', mu⟩ := arr_at (a := b) (i := nb - 1) (by omega)
      obtain ⟨v, ev, ev', mv⟩ := arr_at (a := a) (i := na - 1) (by omega)
      refine wpS_bind (wpS_elem eu (wpS_bind (wpS_elem ev ?_)))
      refine wpS_bind (wpS_lt hA hk1 (okb u mu) (oka v mv) ?_)
      cases e : O.blt (O.ky u) (O.ky v) with
      | true =>
        simp only [if_true]
        refine wpS_bind (wpS_elem ev ?_)
        have m2 := pA h1 hm ev fun z hz => KO.le_trans (leT sb (by omega) eu' z hz) (KO.le_of_lt e)
        by_cases c3 : na - 1 = 0
        · rw [if_pos (by simpa using c3)]
          rw [c3] at m2 ⊢
          exact wpS_pure ⟨rfl, .inl ⟨_, _, _, _, _, _, rfl, done m2⟩⟩
        rw [if_neg (by simpa using c3)]
        refine wpS_ite (fun _ => ?_) (fun _ => ?_)
        · exact wpS_pure ⟨rfl, .inr ⟨_, _, _, _, _, rfl, m2, by omega, by omega, by omega, by omega, by omega⟩⟩
        · exact wpS_pure ⟨rfl, _, _, _, _, _, rfl, m2, by omega, by omega, by omega, by omega, by omega⟩
      | false =>
        simp only [Bool.false_eq_true, if_false]
        refine wpS_bind (wpS_elem eu ?_)
        have m2 := pB (by omega) hm eu fun z hz => KO.le_trans (leT sa (by omega) ev' z hz) (show O.le v u from e)
        by_cases c3 : nb - 1 = 1
        · rw [if_pos (by simpa using c3)]
          rw [c3] at m2 ⊢
          exact wpS_pure ⟨rfl, .inl ⟨_, _, _, _, _, _, rfl, first m2⟩⟩
        rw [if_neg (by simpa using c3)]
        refine wpS_ite (fun _ => ?_) (fun _ => ?_)
        · exact wpS_pure ⟨rfl, .inr ⟨_, _, _, _, _, rfl, m2, by omega, by omega, by omega, by omega, by omega⟩⟩
        · exact wpS_pure ⟨rfl, _, _, _, _, _, rfl, m2, by omega, by omega, by omega, by omega, by omega⟩
    case post1 =>
      rintro c st' ⟨rfl, ⟨r, out, na, nb, p, q, rfl, hr⟩ | ⟨out, na, nb, p, q, rfl, hm, h1, h1', h2, h2', h3⟩⟩
      · exact wpS_pure ⟨hG1, _, _, _, _, _, rfl, hr⟩
      dsimp only
      refine wpS_bind (wpS_lift (wpAny_rule ⟨rfl, ?_⟩))
      refine wpS_bind (wpS_mono (wpS_forRange
        (I := fun y c st' => Gal st st' ∧ ∃ (out : Array Keyed) (na nb g p q : Nat), c = ((none : Option (Array Keyed)), na, nb, out, g, p, q) ∧ MH O a.toList b.toList out.toList na nb ∧ 1 ≤ na ∧ na ≤ a.size ∧ 2 ≤ nb ∧ nb ≤ b.size ∧ x + 1 + na + nb ≤ a.size + b.size)
        (Q := fun c st' => Gal st st' ∧ ((∃ (r out : Array Keyed) (na nb g p q : Nat), c = (some r, na, nb, out, g, p, q) ∧ Mg O a.toList b.toList r.toList) ∨
          (∃ (out : Array Keyed) (na nb g p q : Nat), c = (none, na, nb, out, g, p, q) ∧ MH O a.toList b.toList out.toList na nb ∧ 1 ≤ na ∧ na ≤ a.size ∧ 2 ≤ nb ∧ nb ≤ b.size ∧ x + 1 + na + nb ≤ a.size + b.size))) ?step2 ?fin2 ⟨hG1, out, na, nb, g + 1, p, q, rfl, hm, h1, h1', h2, h2', h3⟩) ?post2)
      case fin2 =>
        rintro c st' ⟨hG, out, na, nb, g, p, q, rfl, hm, h1, h1', h2, h2', h3⟩
        exact ⟨hG, .inr ⟨out, na, nb, g, p, q, rfl, hm, h1, h1', h2, h2', h3⟩⟩
      case post2 =>
        rintro c st' ⟨hG, ⟨r, out, na, nb, g, p, q, rfl, hr⟩ | ⟨out, na, nb, g, p, q, rfl, hm, h1, h1', h2, h2', h3⟩⟩
        · exact wpS_pure ⟨hG, _, _, _, _, _, rfl, hr⟩
        exact wpS_bind (wpS_setGallop hG fun st2 hG2 => wpS_pure ⟨hG2, _, _, _, _, rfl, hm, h1, h1', h2, h2', h3⟩)
      case step2 =>
        rintro y c st' _ hy ⟨hG, out, na, nb, g, p, q, rfl, hm, h1, h1', h2, h2', h3⟩
        dsimp only
        obtain ⟨u, eu, eu', mu⟩ := arr_at (a := b) (i := nb - 1) (by omega)
        refine wpS_ite (fun cg => ?_) (fun cg => ?_)
        all_goals
          refine wpS_bind (wpS_setGallop hG fun st2 hG2 => wpS_bind (wpS_elem eu ?_))
          refine wpS_bind (wpS_gallopR hA (hG2.1.trans hk) (okb u mu) oka (by omega) (srtA sa _ _) (by omega) fun k hk1 b1 b2 => ?_)
          have m3 := hm.takeAs sa (by simp; omega) (na - k) (by omega) fun i z h6 h7 e y hy => KO.le_trans (leT sb (by omega) eu' y hy) (KO.le_of_lt (b2 i z (by omega) (by omega) (by rw [Nat.zero_add, ← Array.getElem?_toList]; exact e)))
          rw [show na - (na - k) = k by omega] at m3
          have hu : ∀ z ∈ a.toList.take k, O.le z u := by
            intro z hz
            obtain ⟨j, hj, e⟩ := mem_take_at hz
            refine b1 j z hj ?_
            rw [Nat.zero_add, ← Array.getElem?_toList]
            exact e
          dsimp only
          by_cases ck : na - k > 0
          · rw [if_pos ck]
            rw [← ext_toR, ← Array.toList_reverse, ← Array.toList_append] at m3
            by_cases c3 : k = 0
            · rw [if_pos (by simpa using c3)]
              rw [c3] at m3 ⊢
              exact wpS_pure ⟨hG2, .inl ⟨_, _, _, _, _, _, _, rfl, done m3⟩⟩
            rw [if_neg (by simpa using c3)]
            refine wpS_bind (wpS_elem eu ?_)
            have m4 := pB (by omega) m3 eu hu
            by_cases c4 : nb - 1 = 1
            · rw [if_pos (by simpa using c4)]
              rw [c4] at m4 ⊢
              exact wpS_pure ⟨hG2, .inl ⟨_, _, _, _, _, _, _, rfl, first m4⟩⟩
            rw [if_neg (by simpa using c4)]
            obtain ⟨v, ev, ev', mv⟩ := arr_at (a := a) (i := k - 1) (by omega)
            refine wpS_bind (wpS_elem ev ?_)
            refine wpS_bind (wpS_gallopL hA (hG2.1.trans hk) (oka v mv) okb (by omega) (srtA sb _ _) (by omega) fun k2 hk2 d1 d2 => ?_)
            have hk20 : 1 ≤ k2 := by
              rcases Nat.eq_zero_or_pos k2 with z | z
              · obtain ⟨zl, el, _, _⟩ := arr_at (a := b) (i := 0) (by omega)
                have q1 := hfirst zl el v mv
                have q2 := d2 0 zl (by omega) (by omega) (by rw [Nat.zero_add]; exact el)
                rw [show O.blt (O.ky zl) (O.ky v) = false from q2] at q1
                cases q1
              · exact z
            have m5 := m4.takeBs sb (by simp; omega) (nb - 1 - k2) (by omega) fun i z h6 h7 e y hy => KO.le_trans (leT sa (by omega) ev' y hy) (d2 i z (by omega) (by omega) (by rw [Nat.zero_add, ← Array.getElem?_toList]; exact e))
            rw [show nb - 1 - (nb - 1 - k2) = k2 by omega] at m5
            have hv : ∀ z ∈ b.toList.take k2, O.le z v := by
              intro z hz
              obtain ⟨j, hj, e⟩ := mem_take_at hz
              refine KO.le_of_lt (d1 j z hj ?_)
              rw [Nat.zero_add, ← Array.getElem?_toList]
              exact e
            dsimp only
            by_cases ck2 : nb - 1 - k2 > 0
            · rw [if_pos ck2]
              rw [← ext_toR, ← Array.toList_reverse, ← Array.toList_append] at m5
              by_cases c6 : k2 = 1
              · rw [if_pos (by simpa using c6)]
                rw [c6] at m5 ⊢
                exact wpS_pure ⟨hG2, .inl ⟨_, _, _, _, _, _, _, rfl, first m5⟩⟩
              rw [if_neg (by simpa using c6), if_neg (by simp; omega)]
              obtain ⟨v2, ev2, ev2', mv2⟩ := arr_at (a := a) (i := k - 1) (by omega)
              refine wpS_bind (wpS_elem ev2 ?_)
              have ee : v2 = v := Option.some.inj (ev2.symm.trans ev)
              subst ee
              have m7 := pA (by omega) m5 ev2 hv
              by_cases c7 : k - 1 = 0
              · rw [if_pos (by simpa using c7)]
                rw [c7] at m7 ⊢
                exact wpS_pure ⟨hG2, .inl ⟨_, _, _, _, _, _, _, rfl, done m7⟩⟩
              rw [if_neg (by simpa using c7)]
              refine wpS_ite (fun _ => ?_) (fun _ => ?_)
              · exact wpS_pure ⟨hG2, .inr ⟨_, _, _, _, _, _, rfl, m7, by omega, by omega, by omega, by omega, by omega⟩⟩
              · exact wpS_pure ⟨hG2, _, _, _, _, _, _, rfl, m7, by omega, by omega, by omega, by omega, by omega⟩
            · rw [if_neg ck2]
              have k0 : nb - 1 = k2 := by omega
              rw [show nb - 1 - k2 = 0 by omega, List.take_zero, List.reverse_nil, List.append_nil] at m5
              rw [k0]
              obtain ⟨v2, ev2, ev2', mv2⟩ := arr_at (a := a) (i := k - 1) (by omega)
              refine wpS_bind (wpS_elem ev2 ?_)
              have ee : v2 = v := Option.some.inj (ev2.symm.trans ev)
              subst ee
              have m7 := pA (by omega) m5 ev2 hv
              by_cases c7 : k - 1 = 0
              · rw [if_pos (by simpa using c7)]
                rw [c7] at m7 ⊢
                exact wpS_pure ⟨hG2, .inl ⟨_, _, _, _, _, _, _, rfl, done m7⟩⟩
              rw [if_neg (by simpa using c7)]
              refine wpS_ite (fun _ => ?_) (fun _ => ?_)
              · exact wpS_pure ⟨hG2, .inr ⟨_, _, _, _, _, _, rfl, m7, by omega, by omega, by omega, by omega, by omega⟩⟩
              · exact wpS_pure ⟨hG2, _, _, _, _, _, _, rfl, m7, by omega, by omega, by omega, by omega, by omega⟩
          · rw [if_neg ck]
            have k0 : na = k := by omega
            rw [show na - k = 0 by omega, List.take_zero, List.reverse_nil, List.append_nil] at m3
            rw [k0]
            refine wpS_bind (wpS_elem eu ?_)
            have m4 := pB (by omega) m3 eu hu
            by_cases c4 : nb - 1 = 1
            · rw [if_pos (by simpa using c4)]
              rw [c4] at m4 ⊢
              exact wpS_pure ⟨hG2, .inl ⟨_, _, _, _, _, _, _, rfl, first m4⟩⟩
            rw [if_neg (by simpa using c4)]
            obtain ⟨v, ev, ev', mv⟩ := arr_at (a := a) (i := k - 1) (by omega)
            refine wpS_bind (wpS_elem ev ?_)
            refine wpS_bind (wpS_gallopL hA (hG2.1.trans hk) (oka v mv) okb (by omega) (srtA sb _ _) (by omega) fun k2 hk2 d1 d2 => ?_)
            have hk20 : 1 ≤ k2 := by
              rcases Nat.eq_zero_or_pos k2 with z | z
              · obtain ⟨zl, el, _, _⟩ := arr_at (a := b) (i := 0) (by omega)
                have q1 := hfirst zl el v mv
                have q2 := d2 0 zl (by omega) (by omega) (by rw [Nat.zero_add]; exact el)
                rw [show O.blt (O.ky zl) (O.ky v) = false from q2] at q1
                cases q1
              · exact z
            have m5 := m4.takeBs sb (by simp; omega) (nb - 1 - k2) (by omega) fun i z h6 h7 e y hy => KO.le_trans (leT sa (by omega) ev' y hy) (d2 i z (by omega) (by omega) (by rw [Nat.zero_add, ← Array.getElem?_toList]; exact e))
            rw [show nb - 1 - (nb - 1 - k2) = k2 by omega] at m5
            have hv : ∀ z ∈ b.toList.take k2, O.le z v := by
              intro z hz
              obtain ⟨j, hj, e⟩ := mem_take_at hz
              refine KO.le_of_lt (d1 j z hj ?_)
              rw [Nat.zero_add, ← Array.getElem?_toList]
              exact e
            dsimp only
            by_cases ck2 : nb - 1 - k2 > 0
            · rw [if_pos ck2]
              rw [← ext_toR, ← Array.toList_reverse, ← Array.toList_append] at m5
              by_cases c6 : k2 = 1
              · rw [if_pos (by simpa using c6)]
                rw [c6] at m5 ⊢
                exact wpS_pure ⟨hG2, .inl ⟨_, _, _, _, _, _, _, rfl, first m5⟩⟩
              rw [if_neg (by simpa using c6), if_neg (by simp; omega)]
              obtain ⟨v2, ev2, ev2', mv2⟩ := arr_at (a := a) (i := k - 1) (by omega)
              refine wpS_bind (wpS_elem ev2 ?_)
              have ee : v2 = v := Option.some.inj (ev2.symm.trans ev)
              subst ee
              have m7 := pA (by omega) m5 ev2 hv
              by_cases c7 : k - 1 = 0
              · rw [if_pos (by simpa using c7)]
                rw [c7] at m7 ⊢
                exact wpS_pure ⟨hG2, .inl ⟨_, _, _, _, _, _, _, rfl, done m7⟩⟩
              rw [if_neg (by simpa using c7)]
              refine wpS_ite (fun _ => ?_) (fun _ => ?_)
              · exact wpS_pure ⟨hG2, .inr ⟨_, _, _, _, _, _, rfl, m7, by omega, by omega, by omega, by omega, by omega⟩⟩
              · exact wpS_pure ⟨hG2, _, _, _, _, _, _, rfl, m7, by omega, by omega, by omega, by omega, by omega⟩
            · rw [if_neg ck2]
              have k0 : nb - 1 = k2 := by omega
              rw [show nb - 1 - k2 = 0 by omega, List.take_zero, List.reverse_nil, List.append_nil] at m5
              rw [k0]
              obtain ⟨v2, ev2, ev2', mv2⟩ := arr_at (a := a) (i := k - 1) (by omega)
              refine wpS_bind (wpS_elem ev2 ?_)
              have ee : v2 = v := Option.some.inj (ev2.symm.trans ev)
              subst ee
              have m7 := pA (by omega) m5 ev2 hv
              by_cases c7 : k - 1 = 0
              · rw [if_pos (by simpa using c7)]
                rw [c7] at m7 ⊢
                exact wpS_pure ⟨hG2, .inl ⟨_, _, _, _, _, _, _, rfl, done m7⟩⟩
              rw [if_neg (by simpa using c7)]
              refine wpS_ite (fun _ => ?_) (fun _ => ?_)
              · exact wpS_pure ⟨hG2, .inr ⟨_, _, _, _, _, _, rfl, m7, by omega, by omega, by omega, by omega, by omega⟩⟩
              · exact wpS_pure ⟨hG2, _, _, _, _, _, _, rfl, m7, by omega, by omega, by omega, by omega, by omega⟩
/-! ### runs, wherever they begin -/
/-- the key at a place -/
def ka (O : KO) (xs : Array Keyed) (i : Nat) : O.α := O.ky ((xs[i]?).getD (.none, .none))
def Up (O : KO) (lo n : Nat) (xs : Array Keyed) : Prop := ∀ i j, i ≤ j → j < n → O.kle (ka O xs (lo + i)) (ka O xs (lo + j))
def Dn (O : KO) (lo n : Nat) (xs : Array Keyed) : Prop := ∀ i j, i ≤ j → j < n → O.kle (ka O xs (lo + j)) (ka O xs (lo + i))
/-- the things are those of b₀, and below lo they stand as there -/
structure FB (knd : SortKind) (b₀ : Array Keyed) (p₀ : Array (Nat × Nat × Nat)) (lo : Nat) (st : SortSt) : Prop where
  perm : (arrOf st).Perm b₀
  keep : ∀ i, i < lo → (arrOf st)[i]? = b₀[i]?
  kind : kindOf st = knd
  failed : failedOf st = none
  pend : pendingOf st = p₀
section
variable {b₀ : Array Keyed} {p₀ : Array (Nat × Nat × Nat)} {lo : Nat}
theorem FB.size (h : FB knd b₀ p₀ lo st) : (arrOf st).size = b₀.size := h.perm.size_eq
theorem FB.put {xs : Array Keyed} (h : FB knd b₀ p₀ lo st) (hp : xs.Perm (arrOf st)) (hx : ∀ i, i < lo → xs[i]? = (arrOf st)[i]?) : FB knd b₀ p₀ lo (setArr st xs) :=
  ⟨hp.trans h.perm, fun i hi => (hx i hi).trans (h.keep i hi), h.kind, h.failed, h.pend⟩
theorem FB.mir (h : FB knd b₀ p₀ lo st) {i j : Nat} (hi : lo ≤ i) (hj : j ≤ b₀.size) : FB knd b₀ p₀ lo (setArr st (mirror (arrOf st) i j ((j - i) / 2))) :=
  h.put (mirror_perm _ _ _ _) fun k hk => by rw [getElem?_mirror_all (by rw [h.size]; exact hj), if_neg (by omega)]
theorem ka_congr {xs ys : Array Keyed} {i j : Nat} (h : xs[i]? = ys[j]?) : ka O xs i = ka O ys j := by unfold ka; rw [h]
theorem ka_mir {xs : Array Keyed} {i j : Nat} (hj : j ≤ xs.size) (k : Nat) : ka O (mirror xs i j ((j - i) / 2)) k = if i ≤ k ∧ k < j then ka O xs (i + j - 1 - k) else ka O xs k := by
  have e := getElem?_mirror_all (i := i) hj k
  split
  · rename_i c; rw [if_pos c] at e; exact ka_congr e
  · rename_i c; rw [if_neg c] at e; exact ka_congr e
theorem ka_mirE {xs : Array Keyed} {i j : Nat} (hj : j ≤ xs.size) (he : ∀ k, i ≤ k → k < j → ka O xs k = ka O xs (j - 1)) (k : Nat) : ka O (mirror xs i j ((j - i) / 2)) k = ka O xs k := by
  rw [ka_mir hj]
  split
  · rw [he _ (by omega) (by omega), he k (by omega) (by omega)]
  · rfl
theorem ka_bub {xs : Array Keyed} {src d : Nat} (hs : src < xs.size) (hd : d ≤ src) (k : Nat) : ka O (bubble xs src d) k = if k = src - d then ka O xs src else if src - d < k ∧ k ≤ src then ka O xs (k - 1) else ka O xs k := by
  have e := getElem?_bubble hs d hd k
  split
  · rename_i c; rw [if_pos c] at e; exact ka_congr e
  · rename_i c
    rw [if_neg c] at e
    split
    · rename_i c2; rw [if_pos c2] at e; exact ka_congr e
    · rename_i c2; rw [if_neg c2] at e; exact ka_congr e
theorem wpS_ltA {i j : Nat} {Q : Option Bool → SortSt → Prop} (hA : Asks prog w A s O knd ok) (h0 : ∀ x ∈ b₀.toList, ok x) (hF : FB knd b₀ p₀ lo st) (hi : i < b₀.size) (hj : j < b₀.size) (h : Q (some (O.blt (ka O (arrOf st) i) (ka O (arrOf st) j))) st) : wpS (model prog w) A E s (ltAt' i j) Q st := by
  obtain ⟨x, ex, _, mx⟩ := arr_at (a := arrOf st) (i := i) (by rw [hF.size]; exact hi)
  obtain ⟨y, ey, _, my⟩ := arr_at (a := arrOf st) (i := j) (by rw [hF.size]; exact hj)
  have pm := Array.perm_iff_toList_perm.mp hF.perm
  rw [ltAt'_eq]
  refine wpS_bind (wpS_get ?_)
  refine wpS_bind (wpS_elem ex (wpS_bind (wpS_elem ey ?_)))
  refine wpS_lt hA hF.kind (h0 x (pm.mem_iff.mp mx)) (h0 y (pm.mem_iff.mp my)) ?_
  unfold ka at h
  rw [ex, ey] at h
  exact h
theorem wpS_rev {i j : Nat} {Q : Unit → SortSt → Prop} (h : Q () (setArr st (mirror (arrOf st) i j ((j - i) / 2)))) : wpS (model prog w) A E s (reverseSlice' i j) Q st := by
  rw [reverseSlice'_eq]; exact wpS_modify h
def ascL (lo a nrem : Nat) : StateT SortSt Sem (Option (Option Nat) × Nat) :=
  forIn [a:nrem] ((none, a) : Option (Option Nat) × Nat) fun _ c => ltAt' (lo + c.2) (lo + c.2 - 1) >>= fun x => match x with
    | some sm => if sm = true then pure (ForInStep.done (none, c.2)) else pure (ForInStep.yield (none, c.2 + 1))
    | _ => pure (ForInStep.done (some none, c.2))
theorem wpS_ascL {a nrem : Nat} {Q : Option (Option Nat) × Nat → SortSt → Prop} (hA : Asks prog w A s O knd ok) (h0 : ∀ x ∈ b₀.toList, ok x) (hF : FB knd b₀ p₀ lo st) (hn : lo + nrem ≤ b₀.size) (ha : 1 ≤ a) (hl : a ≤ nrem) (hu : Up O lo a (arrOf st))
    (h : ∀ n, a ≤ n → n ≤ nrem → Up O lo n (arrOf st) → (n = nrem ∨ O.klt (ka O (arrOf st) (lo + n)) (ka O (arrOf st) (lo + n - 1))) → Q (none, n) st) : wpS (model prog w) A E s (ascL lo a nrem) Q st := by
  unfold ascL
  refine wpS_forRange (I := fun n c τ => τ = st ∧ c = ((none : Option (Option Nat)), n) ∧ Up O lo n (arrOf st)) ?go ?out ⟨rfl, rfl, hu⟩
  case out =>
    rintro c τ ⟨rfl, rfl, u⟩
    rw [Nat.max_eq_right hl] at u ⊢
    exact h nrem hl (Nat.le_refl _) u (.inl rfl)
  case go =>
    rintro n c τ h1 h2 ⟨rfl, rfl, u⟩
    refine wpS_bind (wpS_ltA hA h0 hF (by dsimp only; omega) (by dsimp only; omega) ?_)
    dsimp only
    cases e : O.blt (ka O (arrOf τ) (lo + n)) (ka O (arrOf τ) (lo + n - 1)) with
    | true =>
      simp only [if_true]
      exact wpS_pure (h n h1 (by omega) u (.inr e))
    | false =>
      simp only [Bool.false_eq_true, if_false]
      refine wpS_pure ⟨rfl, rfl, fun i j hij hj => ?_⟩
      rcases Nat.lt_or_ge j n with z | z
      · exact u i j hij z
      · obtain rfl : j = n := by omega
        rcases Nat.lt_or_ge i j with y | y
        · exact KeyOrd.kle_trans (u i (j - 1) (by omega) (by omega)) (by rw [show lo + (j - 1) = lo + j - 1 by omega]; exact e)
        · obtain rfl : i = j := by omega
          exact KeyOrd.kle_refl _
theorem up_mir {n : Nat} {xs : Array Keyed} (hd : Dn O lo n xs) (hsz : lo + n ≤ xs.size) : Up O lo n (mirror xs lo (lo + n) ((lo + n - lo) / 2)) := by
  intro i j hij hj
  rw [ka_mir hsz, ka_mir hsz, if_pos (by omega), if_pos (by omega)]
  have q := hd (n - 1 - j) (n - 1 - i) (by omega) (by omega)
  rw [show lo + (n - 1 - j) = lo + (lo + n) - 1 - (lo + j) by omega, show lo + (n - 1 - i) = lo + (lo + n) - 1 - (lo + i) by omega] at q
  exact q
def dscL (lo n nrem : Nat) : StateT SortSt Sem (Option (Option Nat) × Nat × Nat) :=
  forIn [n:nrem] ((none, n, 0) : Option (Option Nat) × Nat × Nat) fun _ c => ltAt' (lo + c.2.1) (lo + c.2.1 - 1) >>= fun x => match x with
    | some sm => if sm = true then (if c.2.2 > 0 then reverseSlice' (lo + c.2.1 - (c.2.2 + 1)) (lo + c.2.1) >>= fun _ => pure (ForInStep.yield (none, c.2.1 + 1, 0)) else pure (ForInStep.yield (none, c.2.1 + 1, 0)))
      else ltAt' (lo + c.2.1 - 1) (lo + c.2.1) >>= fun y => match y with
        | some lg => if lg = true then pure (ForInStep.done (none, c.2.1, c.2.2)) else pure (ForInStep.yield (none, c.2.1 + 1, c.2.2 + 1))
        | _ => pure (ForInStep.done (some none, c.2.1, c.2.2))
    | _ => pure (ForInStep.done (some none, c.2.1, c.2.2))
theorem wpS_dscL {n nrem : Nat} {Q : Option (Option Nat) × Nat × Nat → SortSt → Prop} (hA : Asks prog w A s O knd ok) (h0 : ∀ x ∈ b₀.toList, ok x) (hF : FB knd b₀ p₀ lo st) (hn : lo + nrem ≤ b₀.size) (h1 : 1 ≤ n) (hl : n ≤ nrem) (hd : Dn O lo n (arrOf st))
    (h : ∀ m e τ, FB knd b₀ p₀ lo τ → n ≤ m → m ≤ nrem → Dn O lo m (arrOf τ) → e + 1 ≤ m → (∀ i, m - (e + 1) ≤ i → i < m → ka O (arrOf τ) (lo + i) = ka O (arrOf τ) (lo + m - 1)) → Q (none, m, e) τ) : wpS (model prog w) A E s (dscL lo n nrem) Q st := by
  unfold dscL
  refine wpS_forRange (I := fun m c τ => ∃ e, c = ((none : Option (Option Nat)), m, e) ∧ FB knd b₀ p₀ lo τ ∧ Dn O lo m (arrOf τ) ∧ e + 1 ≤ m ∧ ∀ i, m - (e + 1) ≤ i → i < m → ka O (arrOf τ) (lo + i) = ka O (arrOf τ) (lo + m - 1)) ?go ?out
    ⟨0, rfl, hF, hd, by omega, fun i h2 h3 => by congr 1; omega⟩
  case out =>
    rintro c τ ⟨e, rfl, hT, d, q, he⟩
    rw [Nat.max_eq_right hl] at d q he ⊢
    exact h nrem e τ hT hl (Nat.le_refl _) d q he
  case go =>
    rintro m c τ h2 h3 ⟨e, rfl, hT, d, q, he⟩
    have hsz : lo + m ≤ (arrOf τ).size := by rw [hT.size]; omega
    have more : ∀ xs : Array Keyed, (∀ k, ka O xs k = ka O (arrOf τ) k) → O.kle (ka O (arrOf τ) (lo + m)) (ka O (arrOf τ) (lo + m - 1)) → Dn O lo (m + 1) xs := by
      intro xs hk hle i j hij hj
      rw [hk, hk]
      rcases Nat.lt_or_ge j m with z | z
      · exact d i j hij z
      · obtain rfl : j = m := by omega
        rcases Nat.lt_or_ge i j with y | y
        · exact KeyOrd.kle_trans hle (by rw [show lo + j - 1 = lo + (j - 1) by omega]; exact d i (j - 1) (by omega) (by omega))
        · obtain rfl : i = j := by omega
          exact KeyOrd.kle_refl _
    have eq1 : ∀ k, lo + m - (e + 1) ≤ k → k < lo + m → ka O (arrOf τ) k = ka O (arrOf τ) (lo + m - 1) := fun k k1 k2 => by
      have := he (k - lo) (by omega) (by omega)
      rwa [show lo + (k - lo) = k by omega] at this
    refine wpS_bind (wpS_ltA hA h0 hT (by dsimp only; omega) (by dsimp only; omega) ?_)
    dsimp only
    cases ew : O.blt (ka O (arrOf τ) (lo + m)) (ka O (arrOf τ) (lo + m - 1)) with
    | true =>
      simp only [if_true]
      refine wpS_ite (fun _ => ?_) (fun _ => ?_)
      · exact wpS_bind (wpS_rev (wpS_pure ⟨0, rfl, hT.mir (by omega) (by omega), more _ (ka_mirE hsz eq1) (KeyOrd.kle_of_klt ew), by omega, fun i h2 h3 => by congr 1; omega⟩))
      · exact wpS_pure ⟨0, rfl, hT, more _ (fun _ => rfl) (KeyOrd.kle_of_klt ew), by omega, fun i h2 h3 => by congr 1; omega⟩
    | false =>
      simp only [Bool.false_eq_true, if_false]
      refine wpS_bind (wpS_ltA hA h0 hT (by omega) (by omega) ?_)
      dsimp only
      cases eg : O.blt (ka O (arrOf τ) (lo + m - 1)) (ka O (arrOf τ) (lo + m)) with
      | true =>
        simp only [if_true]
        exact wpS_pure (h m e τ hT h2 (by omega) d q he)
      | false =>
        simp only [Bool.false_eq_true, if_false]
        have hx : ka O (arrOf τ) (lo + m) = ka O (arrOf τ) (lo + m - 1) := KeyOrd.kle_antisymm (O := O.toKeyOrd) eg ew
        refine wpS_pure ⟨e + 1, rfl, hT, more _ (fun _ => rfl) eg, by omega, fun i i1 i2 => ?_⟩
        rw [show lo + (m + 1) - 1 = lo + m by omega]
        rcases Nat.lt_or_ge i m with z | z
        · rw [hx]; exact he i (by omega) z
        · obtain rfl : i = m := by omega
          rfl
theorem wpS_run {nrem : Nat} {Q : Option Nat → SortSt → Prop} (hA : Asks prog w A s O knd ok) (h0 : ∀ x ∈ b₀.toList, ok x) (hF : FB knd b₀ p₀ lo st) (hn : lo + nrem ≤ b₀.size) (h1 : 1 ≤ nrem)
    (h : ∀ m τ, FB knd b₀ p₀ lo τ → 1 ≤ m → m ≤ nrem → Up O lo m (arrOf τ) → Q (some m) τ) : wpS (model prog w) A E s (countRun' lo nrem) Q st := by
  refine wpS_bind (wpS_ascL (a := 1) hA h0 hF hn (Nat.le_refl 1) h1 (fun i j hij hj => ?_) fun n n1 n2 u hor => ?_)
  · obtain rfl : i = j := by omega
    exact KeyOrd.kle_refl _
  dsimp only
  by_cases c : n = nrem
  · rw [if_pos (by simpa using c)]
    exact wpS_pure (h n st hF n1 n2 u)
  rw [if_neg (by simpa using c)]
  have hlt := hor.resolve_left c
  have hsz : lo + n ≤ (arrOf st).size := by rw [hF.size]; omega
  by_cases cg : n > 1
  · rw [if_pos cg]
    refine wpS_bind (wpS_ltA hA h0 hF (by omega) (by omega) ?_)
    cases e : O.blt (ka O (arrOf st) lo) (ka O (arrOf st) (lo + n - 1)) with
    | true =>
      simp only [if_true]
      exact wpS_pure (h n st hF n1 n2 u)
    | false =>
      simp only [Bool.false_eq_true, if_false]
      have all : ∀ k, lo ≤ k → k < lo + n → ka O (arrOf st) k = ka O (arrOf st) (lo + n - 1) := by
        intro k k1 k2
        have a1 := u 0 (k - lo) (by omega) (by omega)
        have a2 := u (k - lo) (n - 1) (by omega) (by omega)
        rw [show lo + (k - lo) = k by omega] at a1 a2
        rw [show lo + (n - 1) = lo + n - 1 by omega] at a2
        exact KeyOrd.kle_antisymm a2 (KeyOrd.kle_trans (O := O.toKeyOrd) e a1)
      refine wpS_bind (wpS_rev ?_)
      have hF7 := FB.mir hF (i := lo) (j := lo + n) (Nat.le_refl _) (by omega)
      have d7 : Dn O lo (n + 1) (arrOf (setArr st (mirror (arrOf st) lo (lo + n) ((lo + n - lo) / 2)))) := by
        intro i j hij hj
        show O.kle (ka O (mirror (arrOf st) _ _ _) _) (ka O (mirror (arrOf st) _ _ _) _)
        rw [ka_mirE hsz all, ka_mirE hsz all]
        rcases Nat.lt_or_ge j n with z | z
        · rw [all _ (by omega) (show lo + j < lo + n by omega), all _ (by omega) (show lo + i < lo + n by omega)]; exact KeyOrd.kle_refl _
        · obtain rfl : j = n := by omega
          rcases Nat.lt_or_ge i j with y | y
          · rw [all _ (by omega) (show lo + i < lo + j by omega)]; exact KeyOrd.kle_of_klt hlt
          · obtain rfl : i = j := by omega
            exact KeyOrd.kle_refl _
      refine wpS_bind (wpS_lift (wpAny_rule ⟨rfl, ?_⟩))
      refine wpS_bind (wpS_dscL hA h0 hF7 hn (by omega) (by omega) d7 fun m e τ hT m1 m2 d q he => ?_)
      dsimp only
      have hsz : lo + m ≤ (arrOf τ).size := by rw [hT.size]; omega
      have eq1 : ∀ k, lo + m - (e + 1) ≤ k → k < lo + m → ka O (arrOf τ) k = ka O (arrOf τ) (lo + m - 1) := fun k k1 k2 => by
        have := he (k - lo) (by omega) (by omega)
        rwa [show lo + (k - lo) = k by omega] at this
      refine wpS_ite (fun _ => ?_) (fun _ => ?_)
      · refine wpS_bind (wpS_rev ?_)
        have hF8 := FB.mir hT (i := lo + m - (e + 1)) (j := lo + m) (by omega) (by omega)
        have d8 : Dn O lo m (arrOf (setArr τ (mirror (arrOf τ) (lo + m - (e + 1)) (lo + m) ((lo + m - (lo + m - (e + 1))) / 2)))) := by
          intro i j hij hj
          show O.kle (ka O (mirror (arrOf τ) _ _ _) _) (ka O (mirror (arrOf τ) _ _ _) _)
          rw [ka_mirE hsz eq1, ka_mirE hsz eq1]
          exact d i j hij hj
        refine wpS_bind (wpS_rev ?_)
        have hF9 := FB.mir hF8 (i := lo) (j := lo + m) (Nat.le_refl _) (by omega)
        refine wpS_bind (wpS_ascL hA h0 hF9 hn (by omega) m2 (up_mir d8 (by rw [FB.size hF8]; omega)) fun m' m1' m2' u' _ => wpS_pure (h m' _ hF9 (by omega) m2' u'))
      ·
        refine wpS_bind (wpS_rev ?_)
        have hF9 := FB.mir hT (i := lo) (j := lo + m) (Nat.le_refl _) (by omega)
        refine wpS_bind (wpS_ascL hA h0 hF9 hn (by omega) m2 (up_mir d (by rw [FB.size hT]; omega)) fun m' m1' m2' u' _ => wpS_pure (h m' _ hF9 (by omega) m2' u'))
  · rw [if_neg cg]
    obtain rfl : n = 1 := by omega
    have d7 : Dn O lo (1 + 1) (arrOf st) := by
      intro i j hij hj
      rcases Nat.lt_or_ge i j with y | y
      · obtain rfl : i = 0 := by omega
        obtain rfl : j = 1 := by omega
        exact KeyOrd.kle_of_klt hlt
      · obtain rfl : i = j := by omega
        exact KeyOrd.kle_refl _
    refine wpS_bind (wpS_lift (wpAny_rule ⟨rfl, ?_⟩))
    refine wpS_bind (wpS_dscL hA h0 hF hn (by omega) (by omega) d7 fun m e τ hT m1 m2 d q he => ?_)
    dsimp only
    have hsz : lo + m ≤ (arrOf τ).size := by rw [hT.size]; omega
    have eq1 : ∀ k, lo + m - (e + 1) ≤ k → k < lo + m → ka O (arrOf τ) k = ka O (arrOf τ) (lo + m - 1) := fun k k1 k2 => by
      have := he (k - lo) (by omega) (by omega)
      rwa [show lo + (k - lo) = k by omega] at this
    refine wpS_ite (fun _ => ?_) (fun _ => ?_)
    · refine wpS_bind (wpS_rev ?_)
      have hF8 := FB.mir hT (i := lo + m - (e + 1)) (j := lo + m) (by omega) (by omega)
      have d8 : Dn O lo m (arrOf (setArr τ (mirror (arrOf τ) (lo + m - (e + 1)) (lo + m) ((lo + m - (lo + m - (e + 1))) / 2)))) := by
        intro i j hij hj
        show O.kle (ka O (mirror (arrOf τ) _ _ _) _) (ka O (mirror (arrOf τ) _ _ _) _)
        rw [ka_mirE hsz eq1, ka_mirE hsz eq1]
        exact d i j hij hj
      refine wpS_bind (wpS_rev ?_)
      have hF9 := FB.mir hF8 (i := lo) (j := lo + m) (Nat.le_refl _) (by omega)
      refine wpS_bind (wpS_ascL hA h0 hF9 hn (by omega) m2 (up_mir d8 (by rw [FB.size hF8]; omega)) fun m' m1' m2' u' _ => wpS_pure (h m' _ hF9 (by omega) m2' u'))
    ·
      refine wpS_bind (wpS_rev ?_)
      have hF9 := FB.mir hT (i := lo) (j := lo + m) (Nat.le_refl _) (by omega)
      refine wpS_bind (wpS_ascL hA h0 hF9 hn (by omega) m2 (up_mir d (by rw [FB.size hT]; omega)) fun m' m1' m2' u' _ => wpS_pure (h m' _ hF9 (by omega) m2' u'))
end
end
end L2

set_option Elab.async false
set_option linter.all false
set_option maxRecDepth 100000
set_option maxHeartbeats 4000000
namespace L2
open PySem PyProof.Rows
section
variable {prog : Program} {w : World} {A : Around} {E : Value → Shared → Prop} {s : Shared} {O : KO} {knd : SortKind} {ok : Keyed → Prop} {st : SortSt} {b₀ : Array Keyed} {p₀ : Array (Nat × Nat × Nat)} {lo : Nat}
/-- putting in one after another -/
theorem mid_lt {l r : Nat} (h : l < r) : l ≤ (l + r) / 2 ∧ (l + r) / 2 < r := by omega
theorem mid_a {l r k x N : Nat} (m1 : l ≤ (l + r) / 2) (m2 : (l + r) / 2 < r) (hx : x < N) (e2 : r ≤ k) (e3 : r - l ≤ k - x) : (l + r) / 2 - l ≤ k - (x + 1) := by omega
theorem mid_b {l r k x N : Nat} (m1 : l ≤ (l + r) / 2) (m2 : (l + r) / 2 < r) (hx : x < N) (e2 : r ≤ k) (e3 : r - l ≤ k - x) : r - ((l + r) / 2 + 1) ≤ k - (x + 1) := by omega
theorem wpS_ins {n m : Nat} {Q : Bool → SortSt → Prop} (hA : Asks prog w A s O knd ok) (h0 : ∀ x ∈ b₀.toList, ok x) (hF : FB knd b₀ p₀ lo st) (hn : lo + n ≤ b₀.size) (h1 : 1 ≤ m) (hm : m ≤ n) (hu : Up O lo m (arrOf st))
    (h : ∀ τ, FB knd b₀ p₀ lo τ → Up O lo n (arrOf τ) → Q true τ) : wpS (model prog w) A E s (binarySort' lo n m) Q st := by
  rw [binarySort'_eq, Nat.max_eq_left h1]
  refine wpS_bind (wpS_mono (wpS_forRange (I := fun k c τ => c = (none, ()) ∧ FB knd b₀ p₀ lo τ ∧ Up O lo k (arrOf τ))
    (Q := fun c τ => c = (none, ()) ∧ FB knd b₀ p₀ lo τ ∧ Up O lo n (arrOf τ)) ?go ?out ⟨rfl, hF, hu⟩) ?fin)
  case fin =>
    rintro c τ ⟨rfl, hT, u⟩
    exact wpS_pure (h τ hT u)
  case out =>
    rintro c τ ⟨hc, hT, u⟩
    rw [Nat.max_eq_right hm] at u
    exact ⟨hc, hT, u⟩
  case go =>
    rintro k c τ k1 k2 ⟨rfl, hT, u⟩
    refine wpS_bind (wpS_mono (wpS_forRange (I := fun x c τ' => τ' = τ ∧ ∃ l r, c = (none, l, r) ∧ l ≤ r ∧ r ≤ k ∧ r - l ≤ k - x ∧
        (∀ i, i < l → O.kle (ka O (arrOf τ) (lo + i)) (ka O (arrOf τ) (lo + k))) ∧ ∀ i, r ≤ i → i < k → O.klt (ka O (arrOf τ) (lo + k)) (ka O (arrOf τ) (lo + i)))
      (Q := fun c τ' => τ' = τ ∧ ∃ l, c = (none, l, l) ∧ l ≤ k ∧ (∀ i, i < l → O.kle (ka O (arrOf τ) (lo + i)) (ka O (arrOf τ) (lo + k))) ∧ ∀ i, l ≤ i → i < k → O.klt (ka O (arrOf τ) (lo + k)) (ka O (arrOf τ) (lo + i))) ?go2 ?out2
      ⟨rfl, 0, k, rfl, Nat.zero_le _, Nat.le_refl _, Nat.le_refl _, fun i hi => absurd hi (Nat.not_lt_zero _), fun i i1 i2 => absurd i2 (Nat.not_lt.mpr i1)⟩) ?fin2)
    case out2 =>
      rintro c τ' ⟨rfl, l, r, rfl, e1, e2, e3, e4, e5⟩
      obtain rfl : l = r := by omega
      exact ⟨rfl, l, rfl, e2, e4, e5⟩
    case go2 =>
      rintro x c τ' _ hx ⟨rfl, l, r, rfl, e1, e2, e3, e4, e5⟩
      dsimp only
      by_cases hge : l ≥ r
      · rw [if_pos hge]
        obtain rfl : l = r := by omega
        exact wpS_pure ⟨rfl, l, rfl, e2, e4, e5⟩
      rw [if_neg hge]
      obtain ⟨m1, m2⟩ := mid_lt (Nat.lt_of_not_le hge)
      have mk : (l + r) / 2 < k := Nat.lt_of_lt_of_le m2 e2
      have kn : lo + k < b₀.size := Nat.lt_of_lt_of_le (Nat.add_lt_add_left k2 lo) hn
      refine wpS_bind (wpS_ltA hA h0 hT kn (Nat.lt_trans (Nat.add_lt_add_left mk lo) kn) ?_)
      cases e : O.blt (ka O (arrOf τ') (lo + k)) (ka O (arrOf τ') (lo + (l + r) / 2)) with
      | true =>
        simp only [if_true]
        exact wpS_pure ⟨rfl, l, (l + r) / 2, rfl, m1, Nat.le_of_lt mk, mid_a m1 m2 hx e2 e3, e4, fun i i1 i2 => KeyOrd.klt_of_klt_of_kle e (u _ _ i1 i2)⟩
      | false =>
        simp only [Bool.false_eq_true, if_false]
        exact wpS_pure ⟨rfl, (l + r) / 2 + 1, r, rfl, m2, e2, mid_b m1 m2 hx e2 e3, fun i i1 => KeyOrd.kle_trans (u i ((l + r) / 2) (Nat.le_of_lt_succ i1) mk) e, e5⟩
    case fin2 =>
      rintro c τ' ⟨rfl, l, rfl, e2, e4, e5⟩
      dsimp only
      rw [moveDown'_eq]
      have hks : lo + k < (arrOf τ').size := by rw [hT.size]; omega
      refine wpS_bind (wpS_modify (wpS_pure ⟨rfl, hT.put (bubble_perm _ _ _) (fun i hi => ?_), ?_⟩))
      · rw [getElem?_bubble hks _ (by omega), if_neg (by omega), if_neg (by omega)]
      · intro i j hij hj
        show O.kle (ka O (bubble (arrOf τ') (lo + k) (lo + k - (lo + l))) _) (ka O (bubble (arrOf τ') (lo + k) (lo + k - (lo + l))) _)
        rw [ka_bub hks (by omega), ka_bub hks (by omega), show lo + k - (lo + k - (lo + l)) = lo + l by omega]
        repeat' split
        all_goals first
          | (exfalso; omega)
          | exact KeyOrd.kle_refl _
          | exact e4 _ (by omega)
          | (rw [show lo + j - 1 = lo + (j - 1) by omega]; exact KeyOrd.kle_of_klt (e5 _ (by omega) (by omega)))
          | exact KeyOrd.kle_of_klt (e5 _ (by omega) (by omega))
          | (rw [show lo + i - 1 = lo + (i - 1) by omega, show lo + j - 1 = lo + (j - 1) by omega]; exact u _ _ (by omega) (by omega))
          | (rw [show lo + j - 1 = lo + (j - 1) by omega]; exact u _ _ (by omega) (by omega))
          | exact u _ _ (by omega) (by omega)
/-! ### the runs that wait -/
def pos : Nat → List (List Keyed) → List (Nat × Nat)
  | _, [] => []
  | o, r :: rs => (o, r.length) :: pos (o + r.length) rs
theorem pos_append : ∀ (o : Nat) (xs ys : List (List Keyed)), pos o (xs ++ ys) = pos o xs ++ pos (o + xs.flatten.length) ys
  | o, [], ys => by simp [pos]
  | o, r :: rs, ys => by
    simp only [List.cons_append, pos, pos_append, List.flatten_cons, List.length_append]
    rw [Nat.add_assoc]
theorem pos_length : ∀ (o : Nat) (xs : List (List Keyed)), (pos o xs).length = xs.length
  | _, [] => rfl
  | o, r :: rs => by simp only [pos, List.length_cons, pos_length]
def pr (p : Nat × Nat × Nat) : Nat × Nat := (p.1, p.2.1)
/-- runs that stand one behind the other, each sorted, and the rest -/
structure RI (O : KO) (knd : SortKind) (a₀ : List Keyed) (runs : List (List Keyed)) (rest : List Keyed) (st : SortSt) : Prop where
  arr : (arrOf st).toList = runs.flatten ++ rest
  perm : (arrOf st).toList.Perm a₀
  srt : ∀ r ∈ runs, O.Srt r
  ne : ∀ r ∈ runs, 1 ≤ r.length
  kind : kindOf st = knd
  failed : failedOf st = none
  pend : (pendingOf st).toList.map pr = pos 0 runs
/-- writing back -/
theorem write_back : ∀ (l : List Keyed) (n sa : Nat) (xs : Array Keyed) (P M S : List Keyed), xs.toList = P ++ M ++ S → M.length = l.length → P.length = sa + n →
    ((l.zipIdx n).foldl (fun a (q : Keyed × Nat) => a.setIfInBounds (sa + q.2) q.1) xs).toList = P ++ l ++ S
  | [], n, sa, xs, P, M, S, e, h1, h2 => by
    have : M = [] := List.length_eq_zero_iff.mp h1
    subst this
    simpa using e
  | x :: l, n, sa, xs, P, [], S, e, h1, h2 => by cases h1
  | x :: l, n, sa, xs, P, y :: M, S, e, h1, h2 => by
    rw [List.zipIdx_cons, List.foldl_cons]
    have q := write_back l (n + 1) sa (xs.setIfInBounds (sa + n) x) (P ++ [x]) M S ?_ (by simpa using h1) (by simp; omega)
    · rw [q]; simp
    · rw [Array.toList_setIfInBounds, e, ← h2]
      simp
theorem map_split {α β : Type} {f : α → β} {l : List α} {X Z : List β} {x y : β} (h : l.map f = X ++ x :: y :: Z) : ∃ P p q S, l = P ++ p :: q :: S ∧ P.map f = X ∧ f p = x ∧ f q = y ∧ S.map f = Z := by
  obtain ⟨P, l2, e1, e2, e3⟩ := List.map_eq_append_iff.mp h
  obtain ⟨p, l3, e4, e5, e6⟩ := List.map_eq_cons_iff.mp e3
  obtain ⟨q, S, e7, e8, e9⟩ := List.map_eq_cons_iff.mp e6
  exact ⟨P, p, q, S, by rw [e1, e4, e7], e2, e5, e8, e9⟩
theorem at_mid {α : Type} {pre m post : List α} {l : List α} {i : Nat} (e : l = pre ++ m ++ post) (hi : i < m.length) : l[pre.length + i]? = m[i]? := by
  rw [e, List.append_assoc, List.getElem?_append_right (by omega), Nat.add_sub_cancel_left, List.getElem?_append_left hi]
theorem seg_le {xs : Array Keyed} {pre m post : List Keyed} (e : xs.toList = pre ++ m ++ post) (sm : O.Srt m) : ∀ p q x y, pre.length ≤ p → p ≤ q → q < pre.length + m.length → xs[p]? = some x → xs[q]? = some y → O.le x y := by
  intro p q x y h1 h2 h3 e1 e2
  have f1 := at_mid (i := p - pre.length) e (by omega)
  have f2 := at_mid (i := q - pre.length) e (by omega)
  rw [show pre.length + (p - pre.length) = p by omega, Array.getElem?_toList, e1] at f1
  rw [show pre.length + (q - pre.length) = q by omega, Array.getElem?_toList, e2] at f2
  exact sorted_at sm (by omega) f1.symm f2.symm
theorem ext_mid {xs : Array Keyed} {P M S : List Keyed} {i j : Nat} (e : xs.toList = P ++ M ++ S) (hi : i = P.length) (hj : j = P.length + M.length) : (xs.extract i j).toList = M := by
  rw [ext_toR, e, hi, hj, List.append_assoc, List.drop_left, Nat.add_sub_cancel_left, List.take_left]
theorem srt3 {x y z : List Keyed} (hx : O.Srt x) (hy : O.Srt y) (hz : O.Srt z) (xy : ∀ p ∈ x, ∀ q ∈ y, O.le p q) (yz : ∀ p ∈ y, ∀ q ∈ z, O.le p q) (xz : ∀ p ∈ x, ∀ q ∈ z, O.le p q) : O.Srt (x ++ y ++ z) := by
  refine List.pairwise_append.mpr ⟨List.pairwise_append.mpr ⟨hx, hy, xy⟩, hz, fun p hp q hq => ?_⟩
  rcases List.mem_append.mp hp with hp | hp
  · exact xz p hp q hq
  · exact yz p hp q hq
theorem wpS_set {M : Model} {σ : Type} {x y : σ} {Q : PUnit → σ → Prop} (h : Q ⟨⟩ x) : wpS M A E s (set x : StateT σ Sem PUnit) Q y := by
  unfold wpS; rw [StateT.run_set]; exact wpAny_pure ⟨rfl, h⟩
theorem wpS_mergeAt {a₀ rest : List Keyed} {R1 R2 : List (List Keyed)} {a b : List Keyed} {i : Nat} {Q : Bool → SortSt → Prop} (hA : Asks prog w A s O knd ok) (h0 : ∀ x ∈ a₀, ok x) (hR : RI O knd a₀ (R1 ++ a :: b :: R2) rest st) (hi : R1.length = i)
    (h : ∀ m τ, m.Perm (a ++ b) → RI O knd a₀ (R1 ++ m :: R2) rest τ → Q true τ) : wpS (model prog w) A E s (mergeAt' i) Q st := by
  have hp := hR.pend
  rw [pos_append] at hp
  obtain ⟨P, p, q, S, ep, e1, e2, e3, e4⟩ := map_split hp
  obtain ⟨p1, p2, w1⟩ := p
  obtain ⟨q1, q2, w2⟩ := q
  simp only [pr, Prod.mk.injEq, Nat.zero_add] at e2 e3
  obtain ⟨rfl, rfl⟩ := e2
  obtain ⟨rfl, rfl⟩ := e3
  have hP : P.length = i := by rw [← hi, ← pos_length 0 R1, ← e1, List.length_map]
  have g1 : (pendingOf st)[i]? = some (R1.flatten.length, a.length, w1) := by
    rw [← Array.getElem?_toList, ep, List.getElem?_append_right (by omega), hP, Nat.sub_self]; rfl
  have g2 : (pendingOf st)[i + 1]? = some (R1.flatten.length + a.length, b.length, w2) := by
    rw [← Array.getElem?_toList, ep, List.getElem?_append_right (by omega), hP, Nat.add_sub_cancel_left]; rfl
  have ea : (arrOf st).toList = R1.flatten ++ a ++ (b ++ (R2.flatten ++ rest)) := by
    rw [hR.arr]; simp
  have eb : (arrOf st).toList = (R1.flatten ++ a) ++ b ++ (R2.flatten ++ rest) := by
    rw [hR.arr]; simp
  have sa : O.Srt a := hR.srt a (by simp)
  have sb : O.Srt b := hR.srt b (by simp)
  have la : 1 ≤ a.length := hR.ne a (by simp)
  have lb : 1 ≤ b.length := hR.ne b (by simp)
  have oks : ∀ x ∈ (arrOf st).toList, ok x := fun x hx => h0 x (hR.perm.mem_iff.mp hx)
  have oka : ∀ x ∈ a, ok x := fun x hx => oks x (by rw [ea]; simp [hx])
  have okb : ∀ x ∈ b, ok x := fun x hx => oks x (by rw [eb]; simp [hx])
  -- how it ends
  have fin : ∀ (τ : SortSt) (m : List Keyed), m.Perm (a ++ b) → O.Srt m → (arrOf τ).toList = R1.flatten ++ m ++ (R2.flatten ++ rest) → kindOf τ = knd → failedOf τ = none → (pendingOf τ).toList = P ++ (R1.flatten.length, a.length + b.length, w1) :: S → Q true τ := by
    intro τ m pm sm em k1 k2 k3
    have lm : m.length = a.length + b.length := by rw [pm.length_eq, List.length_append]
    refine h m τ pm ⟨by rw [em]; simp, ?_, ?_, ?_, k1, k2, ?_⟩
    · refine List.Perm.trans ?_ hR.perm
      rw [em, ea]
      have := List.Perm.append_left R1.flatten (List.Perm.append_right (R2.flatten ++ rest) pm)
      simpa using this
    · intro r hr
      rcases List.mem_append.mp hr with hr | hr
      · exact hR.srt r (List.mem_append_left _ hr)
      · rcases List.mem_cons.mp hr with hr | hr
        · rw [hr]; exact sm
        · exact hR.srt r (by simp [hr])
    · intro r hr
      rcases List.mem_append.mp hr with hr | hr
      · exact hR.ne r (List.mem_append_left _ hr)
      · rcases List.mem_cons.mp hr with hr | hr
        · rw [hr]; omega
        · exact hR.ne r (by simp [hr])
    · rw [k3, pos_append, List.map_append, e1, List.map_cons, e4, Nat.zero_add]
      simp only [pos, pr, lm, Nat.add_assoc]
  have new : (((pendingOf st).setIfInBounds i (R1.flatten.length, a.length + b.length, w1)).eraseIdxIfInBounds (i + 1)).toList = P ++ (R1.flatten.length, a.length + b.length, w1) :: S := by
    rw [Array.toList_eraseIdxIfInBounds, Array.toList_setIfInBounds, ep, ← hP]
    simp [List.eraseIdx_append_of_length_le]
  refine wpS_bind (wpS_get ?_)
  rw [show (pendingOf st)[i]? = _ from g1, show (pendingOf st)[i + 1]? = _ from g2]
  dsimp only
  refine wpS_bind (wpS_set ?_)
  have eb0 : (arrOf st).toList[(R1.flatten ++ a).length + 0]? = b[0]? := at_mid eb (by omega)
  have hb0 : b[0]? = some b[0] := List.getElem?_eq_getElem lb
  have eb1 : (arrOf st)[R1.flatten.length + a.length]? = some b[0] := by
    rw [← Array.getElem?_toList, ← hb0, ← eb0, List.length_append, Nat.add_zero]
  have mb0 : b[0] ∈ b := List.getElem_mem _
  refine wpS_bind (wpS_elem eb1 ?_)
  have hlen : (arrOf st).size = R1.flatten.length + a.length + b.length + (R2.flatten ++ rest).length := by
    rw [← Array.length_toList, eb]; simp only [List.length_append]
  refine wpS_bind (wpS_gallopR hA hR.kind (okb _ mb0) oks (show R1.flatten.length + a.length ≤ (arrOf st).size by omega) (seg_le ea sa) (by omega) fun k hk1 u1 u2 => ?_)
  have ka1 : ∀ z ∈ a.take k, O.le z b[0] := by
    intro z hz
    obtain ⟨j, hj, e⟩ := mem_take_at hz
    refine u1 j z hj ?_
    rw [← Array.getElem?_toList, at_mid ea (by omega)]
    exact e
  have ka2 : ∀ z ∈ a.drop k, O.blt (O.ky b[0]) (O.ky z) = true := by
    intro z hz
    obtain ⟨j, hj, e⟩ := mem_drop_at hz
    have hj2 : j < a.length := (List.getElem?_eq_some_iff.mp e).1
    refine u2 j z hj hj2 ?_
    rw [← Array.getElem?_toList, at_mid ea hj2]
    exact e
  have bb : ∀ z ∈ b, O.le b[0] z := fun z hz => le_drop sb hb0 z (by simpa using hz)
  dsimp only
  by_cases ck : a.length - k = 0
  · rw [if_pos (by simpa using ck)]
    have ek : a.take k = a := List.take_of_length_le (by omega)
    rw [ek] at ka1
    refine wpS_pure (fin _ (a ++ b) (List.Perm.refl _) (List.pairwise_append.mpr ⟨sa, sb, fun x hx y hy => KO.le_trans (ka1 x hx) (bb y hy)⟩) ?_ hR.kind hR.failed new)
    show (arrOf st).toList = _
    rw [ea]; simp
  rw [if_neg (by simpa using ck)]
  have hla : a[a.length - 1]? = some a[a.length - 1] := List.getElem?_eq_getElem (by omega)
  have mla : a[a.length - 1] ∈ a := List.getElem_mem _
  have mla2 : a[a.length - 1] ∈ a.drop k := by
    refine List.mem_iff_getElem?.mpr ⟨a.length - 1 - k, ?_⟩
    rw [List.getElem?_drop, show k + (a.length - 1 - k) = a.length - 1 by omega]
    exact hla
  have ela : (arrOf st)[R1.flatten.length + k + (a.length - k) - 1]? = some a[a.length - 1] := by
    rw [← Array.getElem?_toList, show R1.flatten.length + k + (a.length - k) - 1 = R1.flatten.length + (a.length - 1) by omega, at_mid ea (by omega)]
    exact hla
  refine wpS_bind (wpS_elem ela ?_)
  refine wpS_bind (wpS_gallopL hA hR.kind (oka _ mla) oks (show R1.flatten.length + a.length + b.length ≤ (arrOf st).size by omega) (by rw [← List.length_append]; exact seg_le eb sb) (by omega) fun n hn1 v1 v2 => ?_)
  have kb1 : ∀ z ∈ b.take n, O.blt (O.ky z) (O.ky a[a.length - 1]) = true := by
    intro z hz
    obtain ⟨j, hj, e⟩ := mem_take_at hz
    refine v1 j z hj ?_
    rw [← Array.getElem?_toList, ← List.length_append, at_mid eb (by omega)]
    exact e
  have kb2 : ∀ z ∈ b.drop n, O.le a[a.length - 1] z := by
    intro z hz
    obtain ⟨j, hj, e⟩ := mem_drop_at hz
    have hj2 : j < b.length := (List.getElem?_eq_some_iff.mp e).1
    refine v2 j z hj hj2 ?_
    rw [← Array.getElem?_toList, ← List.length_append, at_mid eb hj2]
    exact e
  have hn0 : 1 ≤ n := by
    rcases Nat.eq_zero_or_pos n with z | z
    · subst z
      have q1 := ka2 _ mla2
      rw [show O.blt (O.ky b[0]) (O.ky a[a.length - 1]) = false from kb2 b[0] (by simpa using mb0)] at q1
      cases q1
    · exact z
  have aa : ∀ z ∈ a, O.le z a[a.length - 1] := fun z hz => le_take sa hla z (by rw [show a.length - 1 + 1 = a.length by omega, List.take_length]; exact hz)
  dsimp only
  rw [if_neg (by simp; omega)]
  have exx : ((arrOf st).extract (R1.flatten.length + k) (R1.flatten.length + a.length)).toList = a.drop k :=
    ext_mid (P := R1.flatten ++ a.take k) (S := b ++ (R2.flatten ++ rest)) (by rw [ea]; simp [← List.append_assoc]; simp [List.append_assoc, List.take_append_drop]) (by simp; omega) (by simp; omega)
  have exy : ((arrOf st).extract (R1.flatten.length + a.length) (R1.flatten.length + a.length + n)).toList = b.take n :=
    ext_mid (P := R1.flatten ++ a) (S := b.drop n ++ (R2.flatten ++ rest)) (by rw [eb]; simp only [List.append_assoc]; rw [← List.append_assoc (b.take n), List.take_append_drop]) (by simp) (by simp; omega)
  have sx : O.Srt (a.drop k) := sa.drop
  have sy : O.Srt (b.take n) := sb.take
  have after : ∀ (r : Array Keyed) (τ : SortSt), Gal (SortSt.mk' (kindOf st) (arrOf st) (((pendingOf st).setIfInBounds i (R1.flatten.length, a.length + b.length, w1)).eraseIdxIfInBounds (i + 1)) (gallopOf st) (failedOf st)) τ → Mg O (a.drop k) (b.take n) r.toList →
      Q true (SortSt.mk' (kindOf τ) (r.toList.zipIdx.foldl (fun a (q : Keyed × Nat) => a.setIfInBounds (R1.flatten.length + k + q.2) q.1) (arrOf τ)) (pendingOf τ) (gallopOf τ) (failedOf τ)) := by
    intro r τ hG hM
    have mem : ∀ z ∈ r.toList, z ∈ a.drop k ∨ z ∈ b.take n := fun z hz => List.mem_append.mp (hM.1.mem_iff.mp hz)
    refine fin _ (a.take k ++ r.toList ++ b.drop n) ?_ (srt3 sa.take hM.2 sb.drop (fun p hp q hq => ?_) (fun p hp q hq => ?_) fun p hp q hq => ?_) ?_ (hG.1.trans hR.kind) (hG.2.2.2.trans hR.failed) (by rw [show pendingOf τ = _ from hG.2.2.1]; exact new)
    · have p1 : (a.take k ++ r.toList ++ b.drop n).Perm (a.take k ++ (a.drop k ++ b.take n) ++ b.drop n) := List.Perm.append_right _ (List.Perm.append_left _ hM.1)
      refine p1.trans (List.Perm.of_eq ?_)
      rw [← List.append_assoc, List.take_append_drop, List.append_assoc, List.take_append_drop]
    · rcases mem q hq with m | m
      · refine (List.pairwise_append.mp (show O.Srt (a.take k ++ a.drop k) from by rw [List.take_append_drop]; exact sa)).2.2 p hp q m
      · exact KO.le_trans (ka1 p hp) (bb q (List.mem_of_mem_take m))
    · rcases mem p hp with m | m
      · exact KO.le_trans (aa p (List.mem_of_mem_drop m)) (kb2 q hq)
      · refine (List.pairwise_append.mp (show O.Srt (b.take n ++ b.drop n) from by rw [List.take_append_drop]; exact sb)).2.2 p m q hq
    · exact KO.le_trans (ka1 p hp) (bb q (List.mem_of_mem_drop hq))
    · show (List.foldl _ (arrOf τ) _).toList = _
      rw [show arrOf τ = arrOf st from hG.2.1]
      have := write_back r.toList 0 (R1.flatten.length + k) (arrOf st) (R1.flatten ++ a.take k) (a.drop k ++ b.take n) (b.drop n ++ (R2.flatten ++ rest)) ?_ (by rw [hM.1.length_eq]) (by simp; omega)
      · rw [this]; simp
      · rw [eb]
        simp only [List.append_assoc]
        rw [← List.append_assoc (a.take k), List.take_append_drop, ← List.append_assoc (b.take n), List.take_append_drop]
  have xsz : ((arrOf st).extract (R1.flatten.length + k) (R1.flatten.length + a.length)).size = a.length - k := by
    rw [← Array.length_toList, exx, List.length_drop]
  have ysz : ((arrOf st).extract (R1.flatten.length + a.length) (R1.flatten.length + a.length + n)).size = n := by
    rw [← Array.length_toList, exy, List.length_take]; omega
  have y0 : ∀ y, ((arrOf st).extract (R1.flatten.length + a.length) (R1.flatten.length + a.length + n))[0]? = some y → y = b[0] := by
    intro y e
    rw [← Array.getElem?_toList, exy, List.getElem?_take_of_lt (by omega), hb0] at e
    exact (Option.some.inj e).symm
  have xl : ∀ z, ((arrOf st).extract (R1.flatten.length + k) (R1.flatten.length + a.length))[((arrOf st).extract (R1.flatten.length + k) (R1.flatten.length + a.length)).size - 1]? = some z → z = a[a.length - 1] := by
    intro z e
    rw [xsz, ← Array.getElem?_toList, exx, List.getElem?_drop, show k + (a.length - k - 1) = a.length - 1 by omega, hla] at e
    exact (Option.some.inj e).symm
  have hx1 : 1 ≤ ((arrOf st).extract (R1.flatten.length + k) (R1.flatten.length + a.length)).size := by rw [xsz]; omega
  have hy1 : 1 ≤ ((arrOf st).extract (R1.flatten.length + a.length) (R1.flatten.length + a.length + n)).size := by rw [ysz]; omega
  refine wpS_ite (fun _ => ?_) (fun _ => ?_)
  · refine wpS_bind (wpS_mergeLo hA hR.kind (by rw [exx]; exact fun x hx => oka x (List.mem_of_mem_drop hx)) (by rw [exy]; exact fun x hx => okb x (List.mem_of_mem_take hx)) (by rw [exx]; exact sx) (by rw [exy]; exact sy) hx1 hy1 ?_ ?_ ?_)
    · intro y e x hx
      rw [y0 y e]
      rw [exx] at hx
      exact KO.le_of_lt (ka2 x hx)
    · intro z e y hy
      rw [xl z e]
      rw [exy] at hy
      exact kb1 y hy
    · intro r τ hG hM
      rw [exx, exy] at hM
      refine wpS_bind (wpS_modify (wpS_bind (wpS_get ?_)))
      have e9 : failedOf τ = none := hG.2.2.2.trans hR.failed
      refine wpS_pure ?_
      show Q (failedOf τ).isNone _
      rw [e9]
      exact after r τ hG hM
  · refine wpS_bind (wpS_mergeHi hA hR.kind (by rw [exx]; exact fun x hx => oka x (List.mem_of_mem_drop hx)) (by rw [exy]; exact fun x hx => okb x (List.mem_of_mem_take hx)) (by rw [exx]; exact sx) (by rw [exy]; exact sy) hx1 hy1 ?_ ?_ ?_)
    · intro y e x hx
      rw [y0 y e]
      rw [exx] at hx
      exact ka2 x hx
    · intro z e y hy
      rw [xl z e]
      rw [exy] at hy
      exact KO.le_of_lt (kb1 y hy)
    · intro r τ hG hM
      rw [exx, exy] at hM
      refine wpS_bind (wpS_modify (wpS_bind (wpS_get ?_)))
      have e9 : failedOf τ = none := hG.2.2.2.trans hR.failed
      refine wpS_pure ?_
      show Q (failedOf τ).isNone _
      rw [e9]
      exact after r τ hG hM
end
end L2

set_option Elab.async false
set_option linter.all false
set_option maxRecDepth 100000
set_option maxHeartbeats 4000000
namespace L2
open PySem PyProof.Rows
section
variable {prog : Program} {w : World} {A : Around} {E : Value → Shared → Prop} {s : Shared} {O : KO} {knd : SortKind} {ok : Keyed → Prop} {st τ : SortSt}
theorem ite_le' {c : Prop} [Decidable c] {a b n : Nat} (h1 : a ≤ n) (h2 : b ≤ n) : (if c then a else b) ≤ n := by split <;> assumption
theorem split_two {α : Type} : ∀ {l : List α} {i : Nat}, i + 1 < l.length → ∃ R1 a b R2, l = R1 ++ a :: b :: R2 ∧ R1.length = i
  | [], _, h => by simp at h
  | [_], _, h => by simp at h
  | a :: b :: l, 0, _ => ⟨[], a, b, l, rfl, rfl⟩
  | a :: b :: l, i + 1, h => by
    obtain ⟨R1, x, y, R2, e, q⟩ := split_two (l := b :: l) (i := i) (by simpa using h)
    exact ⟨a :: R1, x, y, R2, by rw [e]; rfl, by simp [q]⟩
theorem RI.len {a₀ rest : List Keyed} {runs : List (List Keyed)} (h : RI O knd a₀ runs rest st) : (pendingOf st).size = runs.length := by
  rw [← Array.length_toList, ← pos_length 0 runs, ← h.pend, List.length_map]
theorem RI.size {a₀ rest : List Keyed} {runs : List (List Keyed)} (h : RI O knd a₀ runs rest st) : (arrOf st).size = runs.flatten.length + rest.length := by
  rw [← Array.length_toList, h.arr, List.length_append]
theorem RI.size0 {a₀ rest : List Keyed} {runs : List (List Keyed)} (h : RI O knd a₀ runs rest st) : (arrOf st).size = a₀.length := by
  rw [← Array.length_toList, h.perm.length_eq]
theorem runs_le : ∀ {runs : List (List Keyed)}, (∀ r ∈ runs, 1 ≤ r.length) → runs.length ≤ runs.flatten.length
  | [], _ => by simp
  | r :: rs, h => by
    have q := runs_le (runs := rs) fun x hx => h x (by simp [hx])
    have := h r (by simp)
    simp only [List.length_cons, List.flatten_cons, List.length_append]
    omega
/-- a run found behind the others -/
theorem fb_ri {a₀ rest : List Keyed} {runs : List (List Keyed)} {n : Nat} (h : RI O knd a₀ runs rest st) (hF : FB knd (arrOf st) (pendingOf st) runs.flatten.length τ) (hu : Up O runs.flatten.length n (arrOf τ)) (hn : n ≤ rest.length) :
    ∃ r rest', r.length = n ∧ O.Srt r ∧ rest.length = n + rest'.length ∧ RI O knd a₀ runs (r ++ rest') τ := by
  have hpm := Array.perm_iff_toList_perm.mp hF.perm
  have hsz : (arrOf τ).size = runs.flatten.length + rest.length := by rw [hF.size, h.size]
  have e1 : (arrOf τ).toList.take runs.flatten.length = runs.flatten := by
    have : (arrOf τ).toList.take runs.flatten.length = (arrOf st).toList.take runs.flatten.length := by
      apply List.ext_getElem?
      intro i
      rcases Nat.lt_or_ge i runs.flatten.length with hi | hi
      · rw [List.getElem?_take_of_lt hi, List.getElem?_take_of_lt hi, Array.getElem?_toList, Array.getElem?_toList]
        exact hF.keep i hi
      · rw [List.getElem?_eq_none (by rw [List.length_take]; omega), List.getElem?_eq_none (by rw [List.length_take]; omega)]
    rw [this, h.arr, List.take_left]
  have e2 : (arrOf τ).toList = runs.flatten ++ (arrOf τ).toList.drop runs.flatten.length := by
    conv => lhs; rw [← List.take_append_drop runs.flatten.length (arrOf τ).toList, e1]
  have lr : ((arrOf τ).toList.drop runs.flatten.length).length = rest.length := by
    rw [List.length_drop, Array.length_toList]; omega
  refine ⟨((arrOf τ).toList.drop runs.flatten.length).take n, ((arrOf τ).toList.drop runs.flatten.length).drop n, by rw [List.length_take]; omega, ?_, by rw [List.length_drop]; omega, ⟨by rw [List.take_append_drop]; exact e2, hpm.trans h.perm, h.srt, h.ne, hF.kind, hF.failed, by rw [hF.pend]; exact h.pend⟩⟩
  refine List.pairwise_iff_getElem.mpr fun i j hi hj hij => ?_
  rw [List.length_take] at hi hj
  have q := hu i j (by omega) (by omega)
  rw [List.getElem_take, List.getElem_take, List.getElem_drop, List.getElem_drop]
  have g : ∀ k (hk : runs.flatten.length + k < (arrOf τ).toList.length), ka O (arrOf τ) (runs.flatten.length + k) = O.ky ((arrOf τ).toList[runs.flatten.length + k]) := by
    intro k hk
    unfold ka
    rw [← Array.getElem?_toList, List.getElem?_eq_getElem hk]
    rfl
  have hlt : (arrOf τ).toList.length = runs.flatten.length + rest.length := by rw [Array.length_toList]; exact hsz
  rw [g i (by omega), g j (by omega)] at q
  exact q
theorem RI.push {a₀ rest r : List Keyed} {runs : List (List Keyed)} {lo n : Nat} (h : RI O knd a₀ runs (r ++ rest) st) (hs : O.Srt r) (hr : r.length = n) (hn : 1 ≤ n) (hl : lo = runs.flatten.length) : RI O knd a₀ (runs ++ [r]) rest (setPending st ((pendingOf st).push (lo, n, 0))) := by
  refine ⟨?_, h.perm, ?_, ?_, h.kind, h.failed, ?_⟩
  · show (arrOf st).toList = _
    rw [h.arr]; simp
  · intro x hx
    rcases List.mem_append.mp hx with hx | hx
    · exact h.srt x hx
    · rw [List.mem_singleton.mp hx]; exact hs
  · intro x hx
    rcases List.mem_append.mp hx with hx | hx
    · exact h.ne x hx
    · rw [List.mem_singleton.mp hx]; omega
  · show ((pendingOf st).push (lo, n, 0)).toList.map pr = _
    rw [Array.toList_push, List.map_append, h.pend, pos_append, hl, ← hr]
    simp [pos, pr]
theorem RI.pow {a₀ rest : List Keyed} {runs : List (List Keyed)} {pw : Nat} (h : RI O knd a₀ runs rest st) : RI O knd a₀ runs rest (setPending st ((pendingOf st).modify ((pendingOf st).size - 1) fun x => (x.1, x.2.1, pw))) := by
  refine ⟨h.arr, h.perm, h.srt, h.ne, h.kind, h.failed, ?_⟩
  show ((pendingOf st).modify _ _).toList.map pr = _
  rw [← h.pend]
  apply List.ext_getElem?
  intro i
  rw [List.getElem?_map, List.getElem?_map, Array.getElem?_toList, Array.getElem?_toList, Array.getElem?_modify]
  split
  · cases (pendingOf st)[i]? <;> rfl
  · rfl
theorem wpS_sortAll {a₀ : Array Keyed} {Q : Unit → SortSt → Prop} (hA : Asks prog w A s O knd ok) (h0 : ∀ x ∈ a₀.toList, ok x) (ha : arrOf st = a₀) (hk : kindOf st = knd) (hf : failedOf st = none) (hp : pendingOf st = #[])
    (h : ∀ τ, (arrOf τ).toList.Perm a₀.toList → failedOf τ = none → O.Srt (arrOf τ).toList → Q () τ) : wpS (model prog w) A E s sortRuns' Q st := by
  refine wpS_bind (wpS_get ?_)
  dsimp only
  have hN : (arrOf st).size = a₀.size := by rw [ha]
  have hN2 : a₀.toList.length = a₀.size := Array.length_toList
  rw [hN]
  refine wpS_bind (wpS_mono (wpS_forRange
    (I := fun x c τ => ∃ lo runs rest, c = ((none : Option Unit), lo) ∧ RI O knd a₀.toList runs rest τ ∧ lo = runs.flatten.length ∧ (x ≤ lo))
    (Q := fun c τ => ∃ lo runs, c = ((none : Option Unit), lo) ∧ RI O knd a₀.toList runs [] τ) ?go ?out ⟨0, [], a₀.toList, rfl, ⟨by rw [ha]; simp, by rw [ha], (fun r hr => nomatch hr), (fun r hr => nomatch hr), hk, hf, by rw [hp]; rfl⟩, rfl, Nat.le_refl 0⟩) ?fin)
  case out =>
    rintro c τ ⟨lo, runs, rest, rfl, hR, e1, e2⟩
    have q1 := hR.size
    have q2 := hR.size0
    have q3 := hN2
    have : rest = [] := List.length_eq_zero_iff.mp (by
      have q4 : max 0 a₀.size ≤ lo := e2
      omega)
    subst this
    exact ⟨lo, runs, rfl, hR⟩
  case fin =>
    rintro c τ ⟨lo, runs, rfl, hR⟩
    dsimp only
    have q1 := hR.size
    have q2 := runs_le hR.ne
    have q3 := hN2
    have q4 := hR.size0
    refine wpS_bind (wpS_mono (wpS_forRange (I := fun x c τ' => c = ((none : Option Unit), ()) ∧ ∃ runs', RI O knd a₀.toList runs' [] τ' ∧ runs'.length + x ≤ a₀.size)
      (Q := fun c τ' => c = ((none : Option Unit), ()) ∧ ∃ runs', RI O knd a₀.toList runs' [] τ' ∧ runs'.length ≤ 1) ?g2 ?o2 ⟨rfl, runs, hR, by simp only [List.length_nil] at q1; omega⟩) ?f2)
    case o2 =>
      rintro c τ' ⟨hc, runs', hR', e⟩
      have e : runs'.length + max 0 a₀.size ≤ a₀.size := e
      exact ⟨hc, runs', hR', by omega⟩
    case f2 =>
      rintro c τ' ⟨rfl, runs', hR', e⟩
      refine wpS_pure (h τ' hR'.perm hR'.failed ?_)
      rw [hR'.arr, List.append_nil]
      match runs', e, hR' with
      | [], _, _ => exact List.Pairwise.nil
      | [r], _, hR' => simpa using hR'.srt r (by simp)
    case g2 =>
      rintro x c τ' _ _ ⟨rfl, runs', hR', e⟩
      refine wpS_bind (wpS_get ?_)
      by_cases c1 : (pendingOf τ').size ≤ 1
      · rw [if_pos c1]
        exact wpS_pure ⟨rfl, runs', hR', by rw [← hR'.len]; exact c1⟩
      rw [if_neg c1]
      have key : ∀ j, j ≤ (pendingOf τ').size - 2 → wpS (model prog w) A E s (mergeAt' j) (fun b τ3 => b = true ∧ ∃ runs', RI O knd a₀.toList runs' [] τ3 ∧ runs'.length + (x + 1) ≤ a₀.size) τ' := by
        intro j hj
        obtain ⟨R1, a, b, R2, e3, e4⟩ := split_two (l := runs') (i := j) (by rw [← hR'.len]; omega)
        subst e3
        refine wpS_mergeAt hA h0 hR' e4 fun m τ3 pm hR3 => ⟨rfl, _, hR3, ?_⟩
        simp only [List.length_append, List.length_cons] at e ⊢
        omega
      refine wpS_bind (wpS_mono (key _ ?_) ?_)
      · have := hR'.len
        rw [show (pendingOf τ').size = runs'.length from this]
        exact ite_le' (by omega) (by omega)
      · rintro b τ3 ⟨rfl, runs3, hR3, e3⟩
        simp only [Bool.not_true, Bool.false_eq_true, if_false]
        exact wpS_pure ⟨rfl, runs3, hR3, e3⟩
  case go =>
    rintro x c τ _ hx ⟨lo, runs, rest, rfl, hR, e1, e2⟩
    have q1 := hR.size
    have q2 := hR.size0
    have q3 := hN2
    dsimp only
    by_cases c0 : lo ≥ a₀.size
    · rw [if_pos c0]
      have : rest = [] := List.length_eq_zero_iff.mp (by omega)
      subst this
      exact wpS_pure ⟨lo, runs, rfl, hR⟩
    rw [if_neg c0]
    have oks : ∀ x ∈ (arrOf τ).toList, ok x := fun x hx => h0 x (hR.perm.mem_iff.mp hx)
    refine wpS_bind (wpS_run (b₀ := arrOf τ) (p₀ := pendingOf τ) (lo := lo) hA oks ⟨Array.Perm.refl _, fun _ _ => rfl, hR.kind, hR.failed, rfl⟩ (by omega) (by omega) fun m τ1 hF m1 m2 u => ?_)
    dsimp only
    refine wpS_ite (fun cm => ?_) (fun cm => ?_)
    · refine wpS_bind (wpS_lift (wpAny_rule ⟨rfl, ?_⟩))
      refine wpS_bind (wpS_ins hA oks hF (by omega) m1 (by omega) u fun τ2 hF2 u2 => ?_)
      simp only [Bool.not_true, Bool.false_eq_true, if_false]
      rw [e1] at hF2 u2
      obtain ⟨r, rest', hr, hs, hl, hR2⟩ := fb_ri hR hF2 u2 (by omega)
      rw [← e1] at hr
      have h1n : 1 ≤ r.length := by omega
      rw [hr] at h1n
      refine wpS_bind (wpS_get ?_)
      cases eb : (pendingOf τ2).back? with
      | none =>
        dsimp only
        exact wpS_bind (wpS_modify (wpS_pure ⟨_, runs ++ [r], rest', rfl, hR2.push hs hr h1n e1, by simp [hr, e1], by omega⟩))
      | some p =>
        obtain ⟨s1, n1, w1⟩ := p
        dsimp only
        refine wpS_bind (wpS_mono (wpS_forRange (I := fun _ c τ' => c = ((none : Option Unit), ()) ∧ ∃ runs', RI O knd a₀.toList runs' (r ++ rest') τ' ∧ runs'.flatten.length = lo)
          (Q := fun c τ' => c = ((none : Option Unit), ()) ∧ ∃ runs', RI O knd a₀.toList runs' (r ++ rest') τ' ∧ runs'.flatten.length = lo) ?g2 (fun _ _ z => z) ⟨rfl, runs, hR2, e1.symm⟩) ?f2)
        case f2 =>
          rintro c τ' ⟨rfl, runs', hR', e⟩
          exact wpS_bind (wpS_modify (wpS_bind (wpS_modify (wpS_pure ⟨_, runs' ++ [r], rest', rfl, hR'.pow.push hs hr h1n e.symm, by simp [hr, e], by omega⟩))))
        case g2 =>
          rintro y c τ' _ _ ⟨rfl, runs', hR', e⟩
          refine wpS_bind (wpS_get ?_)
          by_cases c1 : (pendingOf τ').size > 1
          · rw [if_pos c1]
            cases ep : (pendingOf τ')[(pendingOf τ').size - 2]? with
            | none => exact wpS_pure ⟨rfl, runs', hR', e⟩
            | some p =>
              obtain ⟨s3, n3, w3⟩ := p
              dsimp only
              refine wpS_ite (fun _ => wpS_pure ⟨rfl, runs', hR', e⟩) (fun _ => ?_)
              obtain ⟨R1, a, b, R2, e3, e4⟩ := split_two (l := runs') (i := (pendingOf τ').size - 2) (by rw [← hR'.len]; omega)
              subst e3
              refine wpS_bind (wpS_mergeAt hA h0 hR' e4 fun m τ3 pm hR3 => ?_)
              simp only [Bool.not_true, Bool.false_eq_true, if_false]
              refine wpS_pure ⟨rfl, _, hR3, ?_⟩
              rw [← e]
              have := pm.length_eq
              simp only [List.flatten_append, List.flatten_cons, List.length_append] at this ⊢
              omega
          · rw [if_neg c1]
            exact wpS_pure ⟨rfl, runs', hR', e⟩
    · rw [e1] at hF u
      obtain ⟨r, rest', hr, hs, hl, hR2⟩ := fb_ri hR hF u (by omega)
      have h1n : 1 ≤ m := m1
      refine wpS_bind (wpS_get ?_)
      cases eb : (pendingOf τ1).back? with
      | none =>
        dsimp only
        exact wpS_bind (wpS_modify (wpS_pure ⟨_, runs ++ [r], rest', rfl, hR2.push hs hr h1n e1, by simp [hr, e1], by omega⟩))
      | some p =>
        obtain ⟨s1, n1, w1⟩ := p
        dsimp only
        refine wpS_bind (wpS_mono (wpS_forRange (I := fun _ c τ' => c = ((none : Option Unit), ()) ∧ ∃ runs', RI O knd a₀.toList runs' (r ++ rest') τ' ∧ runs'.flatten.length = lo)
          (Q := fun c τ' => c = ((none : Option Unit), ()) ∧ ∃ runs', RI O knd a₀.toList runs' (r ++ rest') τ' ∧ runs'.flatten.length = lo) ?g2 (fun _ _ z => z) ⟨rfl, runs, hR2, e1.symm⟩) ?f2)
        case f2 =>
          rintro c τ' ⟨rfl, runs', hR', e⟩
          exact wpS_bind (wpS_modify (wpS_bind (wpS_modify (wpS_pure ⟨_, runs' ++ [r], rest', rfl, hR'.pow.push hs hr h1n e.symm, by simp [hr, e], by omega⟩))))
        case g2 =>
          rintro y c τ' _ _ ⟨rfl, runs', hR', e⟩
          refine wpS_bind (wpS_get ?_)
          by_cases c1 : (pendingOf τ').size > 1
          · rw [if_pos c1]
            cases ep : (pendingOf τ')[(pendingOf τ').size - 2]? with
            | none => exact wpS_pure ⟨rfl, runs', hR', e⟩
            | some p =>
              obtain ⟨s3, n3, w3⟩ := p
              dsimp only
              refine wpS_ite (fun _ => wpS_pure ⟨rfl, runs', hR', e⟩) (fun _ => ?_)
              obtain ⟨R1, a, b, R2, e3, e4⟩ := split_two (l := runs') (i := (pendingOf τ').size - 2) (by rw [← hR'.len]; omega)
              subst e3
              refine wpS_bind (wpS_mergeAt hA h0 hR' e4 fun m τ3 pm hR3 => ?_)
              simp only [Bool.not_true, Bool.false_eq_true, if_false]
              refine wpS_pure ⟨rfl, _, hR3, ?_⟩
              rw [← e]
              have := pm.length_eq
              simp only [List.flatten_append, List.flatten_cons, List.length_append] at this ⊢
              omega
          · rw [if_neg c1]
            exact wpS_pure ⟨rfl, runs', hR', e⟩
end
end L2

set_option Elab.async false
set_option linter.all false
set_option maxRecDepth 100000
set_option maxHeartbeats 4000000
namespace L2
open PySem PyProof.Rows
section
variable {prog : Program} {w : World} {A : Around} {E : Value → Shared → Prop} {s : Shared} {O : KO} {knd : SortKind} {ok : Keyed → Prop}
/-- in order, or in the order turned about -/
def Ord2 (O : KO) (b : Bool) (us : List Value) : Prop := us.Pairwise fun u v => if b = true then O.le (v, v) (u, u) else O.le (u, u) (v, v)
theorem out_of {vs : List Value} {out : List Keyed} (hp : out.Perm (vs.zip vs)) (hs : O.Srt out) (b : Bool) : ∃ us : List Value, (if b = true then (out.map (·.2)).reverse else out.map (·.2)) = us ∧ us.Perm vs ∧ Ord2 O b us := by
  have hm : ∀ p ∈ out, p = (p.2, p.2) := fun p hp' => by
    have := (mem_zip_self (hp.mem_iff.mp hp')).1
    exact Prod.ext this rfl
  have p1 : (out.map (·.2)).Perm vs := by
    have := hp.map (·.2)
    rwa [List.map_snd_zip (Nat.le_refl _)] at this
  have s1 : (out.map (·.2)).Pairwise fun u v => O.le (u, u) (v, v) := by
    rw [List.pairwise_map]
    refine hs.imp_of_mem fun {x y} hx hy q => ?_
    rw [hm x hx, hm y hy] at q
    exact q
  cases b with
  | false => exact ⟨_, rfl, p1, by simpa [Ord2] using s1⟩
  | true => exact ⟨_, rfl, (List.reverse_perm _).trans p1, by simp only [Ord2, if_true, List.pairwise_reverse]; exact s1⟩
theorem sort_heap {a : Addr} {vs : List Value} {n : Nat} {h : Heap} (ho : h.get? a = some (seqObj "list" vs.toArray n)) {b : Addr} {o : Obj} (hb : h.get? b = some o) (hne : b ≠ a) : (((h.update a (Obj.mapSeq fun _ => #[])).push (seqObj "tuple" vs.toArray 0)).push (seqObj "list" #[] 0)).get? b = some o :=
  Heap.get?_push_of_some _ (Heap.get?_push_of_some _ (by rw [Heap.get?_update_ne _ _ _ _ hne]; exact hb))
theorem sort_any {a : Addr} {vs : List Value} {n : Nat} {P : PySem.Fin → Shared → Prop} (ho : s.heap.get? a = some (seqObj "list" vs.toArray n)) (hz : vs.length ≤ sizeLine)
    (hkk : ∀ h', (∀ b o, s.heap.get? b = some o → b ≠ a → h'.get? b = some o) → 2 ≤ vs.length → ∀ Q : SortKind → Shared → Prop, Q knd { s with heap := h' } → wpAny (model prog w) A (keyKind' vs.toArray) Q E { s with heap := h' })
    (hA : ∀ h', (∀ b o, s.heap.get? b = some o → b ≠ a → h'.get? b = some o) → Asks prog w A { s with heap := h' } O knd ok) (hok : ∀ v ∈ vs, ok (v, v))
    (h : ∀ us : List Value, us.Perm vs → Ord2 O false us → P (.done (.ret .none)) { s with heap := sortedHeap s.heap a vs us.toArray }) : wpAny (model prog w) A (Builtin.«list.sort» ⟨[.ref a], []⟩) P E s := by
  have ha : a < s.heap.objs.size := Heap.lt_size ho
  have keep := fun (b : Addr) (o : Obj) (hb : s.heap.get? b = some o) (hne : b ≠ a) => sort_heap ho hb hne
  obtain ⟨e1, ho1⟩ : ∃ c, (s.heap.update a (Obj.mapSeq fun _ => #[])).get? a = some (seqObj "list" #[] c) := ⟨_, get?_update_seq ho (fun _ => #[])⟩
  have ho6 := Heap.get?_push_of_some (seqObj "list" #[] 0) (Heap.get?_push_of_some (seqObj "tuple" vs.toArray 0) ho1)
  have hsv : vs.toArray.size = vs.length := List.size_toArray
  have hz1 : vs.toArray.size ≤ sizeLine := by rw [hsv]; exact hz
  have fin : ∀ (τ : SortSt), (arrOf τ).toList.Perm (vs.zip vs) → O.Srt (arrOf τ).toList → P (.done (.ret .none)) { s with heap := sortedHeap s.heap a vs ((arrOf τ).map (·.2)) } := by
    intro τ hp hs
    obtain ⟨us, e, p1, p2⟩ := out_of hp hs false
    have e2 : (arrOf τ).map (·.2) = us.toArray := by rw [← e]; apply Array.toList_inj.mp; simp
    rw [e2]
    exact h us p1 p2
  have osz : ∀ τ : SortSt, (arrOf τ).toList.Perm (vs.zip vs) → ((arrOf τ).map (·.2)).size ≤ sizeLine + 1 := by
    intro τ hp
    rw [Array.size_map, ← Array.length_toList, hp.length_eq, List.length_zip]
    omega
  rw [list_sort_plain]
  refine wpAny_bind (listItems_at ho rfl (wpAny_bind (listUpdate_at ho rfl ?_ hz1 (Nat.zero_le _))))
  refine wpAny_bind (seqEpoch_at ho1 rfl (wpAny_bind (wpAny_newTuple ?_ hz)))
  refine wpAny_bind (wpAny_newList ?_ (Nat.zero_le _))
  refine wpAny_holding ?_
  show wpAny (model prog w) A _ P E ({ s with heap := ((s.heap.update a (Obj.mapSeq fun _ => #[])).push (seqObj "tuple" vs.toArray 0)).push (seqObj "list" #[] 0) } : Shared)
  dsimp only
  by_cases h2 : vs.toArray.size < 2
  · rw [if_pos h2, if_pos h2]
    refine wpAny_bind (wpAny_pure ?_)
    rw [StateT.run_pure]
    have hp0 : (vs.toArray.zip vs.toArray).toList.Perm (vs.zip vs) := by simp
    refine wpAny_bind (wpAny_pure (wpAny_bind (seqEpoch_at ho6 rfl (wpAny_bind (listUpdate_at ho6 rfl ?_ (Nat.zero_le _) (osz (SortSt.mk' general' (vs.toArray.zip vs.toArray) #[] 7 none) hp0))))))
    simp only [bne_self_eq_false, Bool.false_eq_true, if_false]
    refine wpAny_pure (fin (SortSt.mk' general' (vs.toArray.zip vs.toArray) #[] 7 none) hp0 ?_)
    show O.Srt (vs.toArray.zip vs.toArray).toList
    rw [show (vs.toArray.zip vs.toArray).toList = vs.zip vs by simp]
    match vs, h2 with
    | [], _ => exact List.Pairwise.nil
    | [v], _ => exact List.pairwise_singleton _ _
  · rw [if_neg h2, if_neg h2]
    refine wpAny_bind (hkk _ keep (by omega) _ ?_)
    refine wpAny_bind (wpAny_mono (wpS_sortAll (a₀ := vs.toArray.zip vs.toArray) (st := SortSt.mk' knd (vs.toArray.zip vs.toArray) #[] 7 none) (Q := fun _ τ => (arrOf τ).toList.Perm (vs.zip vs) ∧ failedOf τ = none ∧ O.Srt (arrOf τ).toList)
      (hA _ keep) (fun x hx => ?_) rfl rfl rfl rfl fun τ a1 a2 a3 => ⟨by simpa using a1, a2, a3⟩) ?_ fun _ _ z => z)
    · have hx : x ∈ vs.zip vs := by simpa using hx
      have q := mem_zip_self hx
      rw [show x = (x.1, x.1) from Prod.ext rfl q.1.symm]
      exact hok _ q.2
    · rintro ⟨⟨⟩, τ⟩ s' ⟨rfl, hp, hf, hs⟩
      refine wpAny_bind (seqEpoch_at ho6 rfl (wpAny_bind (listUpdate_at ho6 rfl ?_ (Nat.zero_le _) (osz τ hp))))
      dsimp only
      rw [hf]
      simp only [bne_self_eq_false, Bool.false_eq_true, if_false]
      exact wpAny_pure (fin τ hp hs)
theorem sorted_old {l : Addr} {vs : List Value} (h : Heap) : ∀ b o, h.get? b = some o → (((h.push (seqObj "list" #[] 0)).update h.objs.size (Obj.mapSeq (· ++ vs.toArray))).push (seqObj "list" vs.toArray 0)).get? b = some o := by
  intro b o q
  have hlt : b < h.objs.size := Heap.lt_size q
  refine Heap.get?_push_of_some _ ?_
  rw [Heap.get?_update_ne _ _ _ _ (Nat.ne_of_lt hlt)]
  exact Heap.get?_push_of_some _ q
/-- what sorted asks of its items, in any heap that has all that is here -/
structure Sortable (prog : Program) (w : World) (s : Shared) (O : KO) (vs : List Value) : Prop where
  ex : ∃ (knd : SortKind) (ok : Keyed → Prop), (∀ v ∈ vs, ok (v, v)) ∧ (∀ A h', (∀ b o, s.heap.get? b = some o → h'.get? b = some o) → Asks prog w A { s with heap := h' } O knd ok) ∧
    ∀ (A : Around) (E : Value → Shared → Prop) h', (∀ b o, s.heap.get? b = some o → h'.get? b = some o) → 2 ≤ vs.length → ∀ Q : SortKind → Shared → Prop, Q knd { s with heap := h' } → wpAny (model prog w) A (keyKind' vs.toArray) Q E { s with heap := h' }
theorem sortedL_any {l : Addr} {vs : List Value} {Q : Value → Shared → Prop} (hl : s.heap.IsList l vs.toArray) (hz : vs.length ≤ sizeLine) (hS : Sortable prog w s O vs)
    (h : ∀ us : List Value, us.Perm vs → Ord2 O false us → Q (.ref (s.heap.objs.size + 1)) { s with heap := sortedAll s.heap vs us.toArray }) : wpAny (model prog w) A (call (.builtin "sorted") [.ref l]) Q E s := by
  obtain ⟨knd, ok, h1, h2, h3⟩ := hS.ex
  have zz : ((s.heap.push (seqObj "list" #[] 0)).update s.heap.objs.size (Obj.mapSeq (· ++ vs.toArray))).objs.size = s.heap.objs.size + 1 := by rw [Heap.size_update, size_push']
  have at1 : (((s.heap.push (seqObj "list" #[] 0)).update s.heap.objs.size (Obj.mapSeq (· ++ vs.toArray))).push (seqObj "list" vs.toArray 0)).get? (s.heap.objs.size + 1) = some (seqObj "list" vs.toArray 0) := by
    have := Heap.get?_push_size ((s.heap.push (seqObj "list" #[] 0)).update s.heap.objs.size (Obj.mapSeq (· ++ vs.toArray))) (o := seqObj "list" vs.toArray 0) rfl
    rwa [zz] at this
  refine Calls.call_function_entry kind_sorted plain_sorted entry_sorted (args_sorted1 _) ?_
  unfold Builtin.«sorted»
  refine wpAny_bind (m := checkCount "sorted" 1 1 _) (wpAny_pure (wpAny_bind (collect_list hl (wpAny_bind (wpAny_newList ?_ hz)) hz)))
  show wpAny _ _ _ _ _ { s with heap := ((s.heap.push (seqObj "list" #[] 0)).update s.heap.objs.size (Obj.mapSeq (· ++ vs.toArray))).push (seqObj "list" vs.toArray 0) }
  rw [zz]
  have up : ∀ h' : Heap, (∀ b o, (((s.heap.push (seqObj "list" #[] 0)).update s.heap.objs.size (Obj.mapSeq (· ++ vs.toArray))).push (seqObj "list" vs.toArray 0)).get? b = some o → b ≠ s.heap.objs.size + 1 → h'.get? b = some o) → ∀ b o, s.heap.get? b = some o → h'.get? b = some o := fun h' k b o q =>
    k b o (sorted_old (l := l) s.heap b o q) (Nat.ne_of_lt (Nat.lt_succ_of_lt (Heap.lt_size q)))
  exact wpAny_bind (wpAny_holding (wpAny_call_entry slot_list_sort ⟨_, at1, rfl⟩ entry_list_sort (sort_any at1 hz (fun h' k hl2 Q' q => h3 _ _ h' (up h' k) hl2 Q' q) (fun h' k => h2 _ h' (up h' k)) h1 fun us p1 p2 => ⟨_, rfl, wpAny_pure ⟨_, rfl, h us p1 p2⟩⟩) (args_list_sort _)))
/-! ### ints -/
def KOi : KO where
  α := Int
  blt a b := decide (a < b)
  irrefl a := by simp
  trans a b c h1 h2 := by simp only [decide_eq_true_eq] at *; omega
  negTrans a b c h := by simp only [decide_eq_true_eq] at *; omega
  total a b h1 h2 := by simp only [decide_eq_false_iff_not] at *; omega
  ky p := numOf p.1
theorem sortable_ints {vs : List Value} {ns : List Int} (hI : IntsAre vs ns) : Sortable prog w s KOi vs := by
  refine ⟨oneType', (fun p => ∃ n t, p.1 = .int n t), fun v hv => ?_, fun A h' _ x y hx hy E Q q => ?_, fun A E h' _ h2 Q q => ?_⟩
  · obtain ⟨n, t, e⟩ := hI.all v hv
    exact ⟨n, t, e⟩
  · obtain ⟨n, t, e1⟩ := hx
    obtain ⟨m, u, e2⟩ := hy
    rw [keyLt'_oneType, e1, e2]
    refine oneLt_int ?_
    have q : Q (decide (numOf x.1 < numOf y.1)) { s with heap := h' } := q
    rw [e1, e2] at q
    exact q
  · match vs, h2, hI with
    | v1 :: v2 :: r, _, hI =>
      rw [keyKind_ints hI]
      exact wpAny_pure q
theorem ord_ints {us : List Value} {ms : List Int} {b : Bool} (hI : IntsAre us ms) (h : Ord2 KOi b us) : if b = true then ms.Pairwise (· ≥ ·) else ms.Pairwise (· ≤ ·) := by
  have e := hI.nums
  subst e
  cases b with
  | false =>
    simp only [Bool.false_eq_true, if_false, Ord2] at h ⊢
    rw [List.pairwise_map]
    exact h.imp fun {x y} q => by
      have q : decide (numOf y < numOf x) = false := q
      simpa using q
  | true =>
    simp only [if_true, Ord2] at h ⊢
    rw [List.pairwise_map]
    exact h.imp fun {x y} q => by
      have q : decide (numOf x < numOf y) = false := q
      simpa using q
theorem ints_perm {vs us : List Value} {ns : List Int} (hI : IntsAre vs ns) (hp : us.Perm vs) : ∃ ms, IntsAre us ms ∧ ms.Perm ns := by
  refine ⟨us.map numOf, intsAre_map us fun v hv => hI.all v (hp.mem_iff.mp hv), ?_⟩
  rw [← hI.nums]
  exact hp.map _
/-! ### tuples of ints -/
end
end L2

set_option Elab.async false
set_option linter.all false
set_option maxRecDepth 100000
set_option maxHeartbeats 4000000
namespace L2
open PySem PySem.Spec PyProof.Rows PySem.SeqAt
section
variable {X : Cx}
/-- sorted(xs) of a list of ints, however many -/
theorem call_sortA : CallR X (.builtin "sorted") (fun xs H Q => ∃ (a : Addr) (ns : List Int), xs = [.ref a] ∧ SqL X.K H a (ns.map V.int) ∧ ∀ (l : Addr) (ms : List Int), H l = none → ms.Perm ns → ms.Pairwise (· ≤ ·) → Q (.ref l) (upd H l (.lst (ms.map V.int)))) := by
  intro pins s σ H xs us Q I r h
  obtain ⟨a, ns, rfl, hq, q⟩ := h
  obtain ⟨u, rfl, r1⟩ := vals1 r
  cases r1
  obtain ⟨its, rv, p, hz⟩ := I.list hq
  have hl : its.length = ns.length := by rw [← rv.length, List.length_map]
  rw [List.length_map] at hz
  refine sortedL_any p.isList (by rw [hl]; exact hz) (sortable_ints (intsAre_of rv)) fun us p1 p2 => ?_
  obtain ⟨ms, hI, pm⟩ := ints_perm (intsAre_of rv) p1
  obtain ⟨e, he⟩ := sortedAll_at s.heap its us.toArray
  have hle : s.heap.objs.size ≤ s.heap.objs.size + 1 := Nat.le_succ _
  refine ⟨.ref (s.heap.objs.size + 1), _, I.laid (a := s.heap.objs.size + 1) (o := .lst (ms.map V.int)) (t' := s.toks) (fun b o q => sortedAll_old q) hle ⟨?_, us, e, vals_of_ints hI, he⟩, rfl, q _ ms (I.hok.fresh hle) pm (ord_ints hI p2)⟩
  rw [List.length_map, pm.length_eq]; exact hz
def adr : Value → Addr
  | .ref a => a
  | _ => 0
end
end L2

set_option Elab.async false
set_option linter.all false
set_option maxRecDepth 100000
set_option maxHeartbeats 4000000
namespace Lv
open PySem L2
/-! ### merging rows -/
/-- each thing with its row's number, but for the first ones of each row that are taken -/
def prs : Nat → List (List Int) → List Nat → List (Int × Nat)
  | k, x :: N, m :: ms => (x.drop m).map (fun z => (z, k)) ++ prs (k + 1) N ms
  | _, _, _ => []
def lexle (p q : Int × Nat) : Prop := p.1 < q.1 ∨ (p.1 = q.1 ∧ p.2 ≤ q.2)
/-- merged so far: tk is taken, in order -/
structure MgS (N : List (List Int)) (m : List Nat) (tk : List (Int × Nat)) : Prop where
  inm : InM N m
  perm : (tk ++ prs 0 N m).Perm (prs 0 N (N.map fun _ => 0))
  srt : tk.Pairwise lexle
  le : ∀ p ∈ tk, ∀ q ∈ prs 0 N m, lexle p q
  sm : m.sum = tk.length
theorem srt_eq {a b : List Int} (h : a.Perm b) (h1 : a.Pairwise (· ≤ ·)) (h2 : b.Pairwise (· ≤ ·)) : a = b :=
  List.Perm.eq_of_pairwise (fun a b _ _ h1 h2 => Int.le_antisymm h1 h2) h1 h2 h
/-! ### rows in the heap, as lists or tuples -/
def SeqI (H : Hp) (r : Addr) (xs : List V) : Prop := H r = some (.lst xs) ∨ H r = some (.tup xs)
theorem SeqI.both {H : Hp} {r : Addr} {xs : List V} (h : SeqI H r xs) : ∃ b, ∀ (K : PySem.W.Frag) (H' : Hp), Same H H' → SqB b K H' r xs := by
  rcases h with h | h
  · exact ⟨true, fun K H' s => SqL.of (s _ _ h)⟩
  · exact ⟨false, fun K H' s => SqT.of (s _ _ h)⟩
structure RwS (H : Hp) (a : Addr) (rs : List Addr) (N : List (List Int)) : Prop where
  top : SeqI H a (rs.map V.ref)
  len : rs.length = N.length
  row : ∀ (j : Nat) r xs, rs[j]? = some r → N[j]? = some xs → SeqI H r (xs.map V.int)
theorem RwS.of {H : Hp} {a : Addr} {rs : List Addr} {N : List (List Int)} (h1 : H a = some (.lst (rs.map V.ref))) (h2 : LLs H rs N) : RwS H a rs N := ⟨.inl h1, h2.1, fun j r xs e1 e2 => .inl (h2.2 j r xs e1 e2)⟩
theorem RwS.get {H : Hp} {a : Addr} {rs : List Addr} {N : List (List Int)} (h : RwS H a rs N) {i : Nat} {x : V} (hx : (rs.map V.ref)[i]? = some x) : ∃ r xs, x = .ref r ∧ rs[i]? = some r ∧ N[i]? = some xs ∧ SeqI H r (xs.map V.int) := by
  have hi := (List.getElem?_eq_some_iff.mp hx).1
  rw [List.length_map] at hi
  have e : rs[i]? = some rs[i] := List.getElem?_eq_getElem hi
  have hN : i < N.length := by rw [← h.len]; exact hi
  have e2 : N[i]? = some N[i] := List.getElem?_eq_getElem hN
  refine ⟨rs[i], N[i], ?_, e, e2, h.row i _ _ e e2⟩
  rw [List.getElem?_map, e] at hx
  exact (Option.some.inj hx).symm
theorem flat_take {N : List (List Int)} {i : Nat} {xs : List Int} (h : N[i]? = some xs) : (N.take (i + 1)).flatten = (N.take i).flatten ++ xs := by
  rw [List.take_add_one, h, Option.toList_some, List.flatten_append]; simp
theorem flat_le {N : List (List Int)} (i : Nat) : (N.take i).flatten.length ≤ (lenN N).sum := by
  have : (lenN N).sum = N.flatten.length := by unfold lenN; rw [List.length_flatten]
  rw [this]
  conv => rhs; rw [← List.take_append_drop i N, List.flatten_append, List.length_append]
  omega
theorem flat_le1 {N : List (List Int)} {i j : Nat} {xs : List Int} (h : N[i]? = some xs) (hj : j ≤ xs.length) : (N.take i).flatten.length + j ≤ (lenN N).sum := by
  have := flat_le (N := N) (i + 1)
  rw [flat_take h, List.length_append] at this
  omega
/-! ### texts of rows -/
theorem rdl_ints {H : Hp} : ∀ zs : List Int, RdL H (zs.map V.int) (zs.map PyData.int)
  | [] => .nil
  | z :: zs => .cons (.int z) (rdl_ints zs)
/-! ### what is promised -/
structure GoodT (N : List (List Int)) : Prop where
  many : N.length ≤ 12
  tot : (lenN N).sum ≤ 400
  bnd : ∀ xs ∈ N, ∀ z ∈ xs, -big61 < z ∧ z < big61
  srt : ∀ xs ∈ N, xs.Pairwise (· ≤ ·)
structure GoodB (b : Nat) (N : List (List Int)) : Prop where
  len : ∀ xs ∈ N, xs.length ≤ b
  bnd : ∀ xs ∈ N, ∀ z ∈ xs, -big61 < z ∧ z < big61
  srt : ∀ xs ∈ N, xs.Pairwise (· ≤ ·)
end Lv

set_option Elab.async false
set_option linter.all false
set_option maxRecDepth 100000
set_option maxHeartbeats 4000000
namespace L2
open PySem PySem.Spec PyProof.Rows PySem.SeqAt
/-! ### things that read alike are alike -/
section
variable {P : Program} {w : World} {H : Hp} {s : Shared}
theorem RdL.len_eq : ∀ {xs ys : List V} {ds : List PyData}, RdL H xs ds → RdL H ys ds → xs.length = ys.length
  | _, _, _, .nil, r => by cases r; rfl
  | _, _, _, .cons _ q, r => by
    cases r with
    | cons _ q2 => rw [List.length_cons, List.length_cons, RdL.len_eq q q2]
mutual
theorem RdN.eqs (ok : HOk P w H s.heap) : ∀ {x : V} {d : PyData}, RdN H x d → ∀ {y : V}, RdN H y d → ∀ {u v : Value}, RelV x u → RelV y v → ∀ A : Around, A.units + d.depth < cLine → EqAt A s u v true
  | _, _, .non, y, r, u, v, h1, h2, A, hu => by
    cases r
    cases (show u = Value.none from h1); cases (show v = Value.none from h2)
    exact EqAt.same _
  | _, _, .bl b, y, r, u, v, h1, h2, A, hu => by
    cases r
    cases (show u = Value.bool b from h1); cases (show v = Value.bool b from h2)
    exact EqAt.same _
  | _, _, .int i, y, r, u, v, h1, h2, A, hu => by
    cases r
    obtain ⟨t, z⟩ := (show ∃ t, u = Value.int i t from h1); cases z
    obtain ⟨t2, z⟩ := (show ∃ t, v = Value.int i t from h2); cases z
    have := EqAt.int_int (A := A) (s := s) i t i t2
    rw [beq_self_eq_true] at this
    exact this
  | _, _, .str x, y, r, u, v, h1, h2, A, hu => by
    cases r
    obtain ⟨t, z⟩ := (show ∃ t, u = Value.str x t from h1); cases z
    obtain ⟨t2, z⟩ := (show ∃ t, v = Value.str x t from h2); cases z
    have := EqAt.str_str (A := A) (s := s) x t x t2
    rw [show (x == x) = true from by rw [← str_beq]; exact beq_self_eq_true _] at this
    exact this
  | _, _, .lst (a := a) (xs := xs) (ds := ds) e q, y, r, u, v, h1, h2, A, hu => by
    cases r with
    | lst e2 q2 =>
      rename_i b ys
      cases (show u = Value.ref a from h1); cases (show v = Value.ref b from h2)
      by_cases hab : a = b
      · subst hab; exact EqAt.same _
      obtain ⟨_, i1, n1, v1, g1⟩ := (show ObjOk P w H s.heap a (.lst xs) from ok a _ e)
      obtain ⟨_, i2, n2, v2, g2⟩ := (show ObjOk P w H s.heap b (.lst ys) from ok b _ e2)
      have hd : A.units + (PyData.depthAll ds + 1) < cLine := hu
      have hl := q.len_eq q2
      refine EqAt.of_refs hab ?_
      have := RcAt.lists (A := A) (s := s) (e := fun _ => true) (l := a) (b := b) (items := i1.toArray) (items2 := i2.toArray) ⟨_, g1, rfl, n1, rfl⟩ ⟨_, g2, rfl, n2, rfl⟩ (by rw [List.size_toArray, List.size_toArray, ← v1.length, ← v2.length, hl]) (by omega) (fun j h1 h2 => by
        have := RdL.eqs ok q q2 v1 v2 A.in1 (by show A.units + 1 + _ < _; omega) j (by simpa using h1) (by simpa using h2)
        simpa using this)
      rw [all_range] at this
      exact this
  | _, _, .tup (a := a) (xs := xs) (ds := ds) e q, y, r, u, v, h1, h2, A, hu => by
    cases r with
    | tup e2 q2 =>
      rename_i b ys
      cases (show u = Value.ref a from h1); cases (show v = Value.ref b from h2)
      by_cases hab : a = b
      · subst hab; exact EqAt.same _
      obtain ⟨_, i1, v1, o1, g1, c1, _, n1, k1⟩ := (show ObjOk P w H s.heap a (.tup xs) from ok a _ e)
      obtain ⟨_, i2, v2, o2, g2, c2, _, n2, k2⟩ := (show ObjOk P w H s.heap b (.tup ys) from ok b _ e2)
      have hd : A.units + (PyData.depthAll ds + 1) < cLine := hu
      have hl := q.len_eq q2
      refine EqAt.of_refs hab ?_
      have := RcAt.tuples (A := A) (s := s) (e := fun _ => true) (l := a) (b := b) (items := i1.toArray) (items2 := i2.toArray) ⟨o1, g1, c1, n1, k1⟩ ⟨o2, g2, c2, n2, k2⟩ (by omega) (fun j h1 h2 => by
        have := RdL.eqs ok q q2 v1 v2 A.in1 (by show A.units + 1 + _ < _; omega) j (by simpa using h1) (by simpa using h2)
        simpa using this)
      rw [all_range, List.size_toArray, List.size_toArray, ← v1.length, ← v2.length, hl, beq_self_eq_true] at this
      exact this
theorem RdL.eqs (ok : HOk P w H s.heap) : ∀ {xs : List V} {ds : List PyData}, RdL H xs ds → ∀ {ys : List V}, RdL H ys ds → ∀ {us vs : List Value}, Vals xs us → Vals ys vs → ∀ A : Around, A.units + PyData.depthAll ds < cLine → ∀ (j : Nat) (h1 : j < us.length) (h2 : j < vs.length), EqAt A s us[j] vs[j] true
  | _, _, .nil, ys, r, us, vs, v1, v2, A, hu, j, h1, h2 => by
    cases v1
    exact absurd h1 (Nat.not_lt_zero _)
  | _, _, .cons (d := d) (ds := ds) p q, ys, r, us, vs, v1, v2, A, hu, j, h1, h2 => by
    cases r with
    | cons p2 q2 =>
      cases v1 with
      | cons a1 b1 =>
        cases v2 with
        | cons a2 b2 =>
          have hm : PyData.depthAll (d :: ds) = max d.depth (PyData.depthAll ds) := by rw [PyData.depthAll]
          rw [hm] at hu
          cases j with
          | zero => exact RdN.eqs ok p p2 a1 a2 A (by omega)
          | succ j => exact RdL.eqs ok q q2 b1 b2 A (by omega) j (by simpa using h1) (by simpa using h2)
end
end
def rNeR : R2 := fun x y H Q => ∃ (a b : Addr) (d : PyData), x = .ref a ∧ y = .ref b ∧ RdN H (.ref a) d ∧ RdN H (.ref b) d ∧ d.depth ≤ 10 ∧ Q (.bl false) H
section
variable {X : Cx}
theorem rd_els {P : Program} {w : World} {H : Hp} {s : Shared} {A : Around} {xs ys : List V} {ds : List PyData} {i1 i2 : List Value} (ok : HOk P w H s.heap) (q : RdL H xs ds) (q2 : RdL H ys ds) (v1 : Vals xs i1) (v2 : Vals ys i2) (hu : A.units + 1 + PyData.depthAll ds < cLine) :
    ∀ j (h1 : j < i1.toArray.size) (h2 : j < i2.toArray.size), EqAt A.in1 s i1.toArray[j] i2.toArray[j] true := fun j h1 h2 => by
  have := RdL.eqs ok q q2 v1 v2 A.in1 (by show A.units + 1 + _ < _; omega) j (by simpa using h1) (by simpa using h2)
  simpa using this
theorem op_neR (hu : X.A.units + 12 < cLine) : OpR X (compareOp .NotEq) rNeR := by
  intro pins s σ H x y v u Q I rx ry h
  obtain ⟨a, b, d, rfl, rfl, r1, r2, hd, q⟩ := h
  cases rx
  cases ry
  cases r1 with
  | lst e p =>
    rename_i xs ds
    cases r2 with
    | lst e2 p2 =>
      rename_i ys
      obtain ⟨_, i1, n1, v1, g1⟩ := (show ObjOk X.prog X.w H s.heap a (.lst xs) from I.hok a _ e)
      obtain ⟨_, i2, n2, v2, g2⟩ := (show ObjOk X.prog X.w H s.heap b (.lst ys) from I.hok b _ e2)
      have hd' : PyData.depthAll ds + 1 ≤ 10 := hd
      refine RcNeAt.lists (e := fun _ => true) (items := i1.toArray) (items2 := i2.toArray) ⟨_, g1, rfl, n1, rfl⟩ ⟨_, g2, rfl, n2, rfl⟩ (by rw [List.size_toArray, List.size_toArray, ← v1.length, ← v2.length, p.len_eq p2]) (by omega) (rd_els I.hok p p2 v1 v2 (by omega)) _ _ _ _ ?_
      rw [all_range]
      exact ⟨.bl false, H, I, rfl, q⟩
  | tup e p =>
    rename_i xs ds
    cases r2 with
    | tup e2 p2 =>
      rename_i ys
      obtain ⟨_, i1, v1, o1, g1, c1, _, n1, k1⟩ := (show ObjOk X.prog X.w H s.heap a (.tup xs) from I.hok a _ e)
      obtain ⟨_, i2, v2, o2, g2, c2, _, n2, k2⟩ := (show ObjOk X.prog X.w H s.heap b (.tup ys) from I.hok b _ e2)
      have hd' : PyData.depthAll ds + 1 ≤ 10 := hd
      refine RcNeAt.tuples (e := fun _ => true) (items := i1.toArray) (items2 := i2.toArray) ⟨o1, g1, c1, n1, k1⟩ ⟨o2, g2, c2, n2, k2⟩ (by omega) (rd_els I.hok p p2 v1 v2 (by omega)) _ _ _ _ ?_
      rw [all_range, List.size_toArray, List.size_toArray, ← v1.length, ← v2.length, p.len_eq p2, beq_self_eq_true]
      exact ⟨.bl false, H, I, rfl, q⟩
end
end L2

set_option Elab.async false
set_option linter.all false
set_option maxRecDepth 100000
set_option maxHeartbeats 4000000
namespace L2
open PySem PySem.Spec PyProof.Rows PySem.SeqAt
/-! ### xs != [] -/
/-! ### lists of lists of truths -/
section
variable {X : Cx}
end
end L2

set_option Elab.async false
set_option linter.all false
set_option maxRecDepth 100000
set_option maxHeartbeats 4000000
namespace Lv
open PySem L2
/-! ### all but these as it was -/
def Fr (S : List Addr) (H H' : Hp) : Prop := ∀ b o, H b = some o → b ∉ S → H' b = some o
/-! ### reels of rows -/
abbrev Rows := List (Option (List Int))
def datO : Option (List Int) → PyData
  | none => .none
  | some xs => .list (xs.map PyData.int)
def reelD (ds : Rows) : PyData := .list (ds.map datO)
def shp (D : List Rows) : List (List Bool) := D.map fun ds => ds.map Option.isSome
theorem ints_depth : ∀ (zs : List Int), PyData.depthAll (zs.map PyData.int) = 0
  | [] => rfl
  | z :: zs => by simp only [List.map_cons, PyData.depthAll, PyData.depth, ints_depth zs]; rfl
theorem datO_depth (c : Option (List Int)) : (datO c).depth ≤ 1 := by
  cases c with
  | none => simp [datO, PyData.depth]
  | some xs => simp only [datO, PyData.depth, ints_depth]; decide
theorem reel_depth (ds : Rows) : (reelD ds).depth ≤ 2 := by
  have : ∀ ds : Rows, PyData.depthAll (ds.map datO) ≤ 1 := by
    intro ds
    induction ds with
    | nil => simp [PyData.depthAll]
    | cons c r ih => simp only [List.map_cons, PyData.depthAll]; have := datO_depth c; omega
  unfold reelD
  simp only [PyData.depth]
  have := this ds
  omega
/-! ### reels in the heap, with their addresses -/
abbrev Cell := Option (Addr × List Int)
abbrev Reel := Addr × List Cell
def cV : Cell → V
  | none => .non
  | some (r, _) => .ref r
def cD : Cell → Option (List Int) := Option.map (·.2)
def cA : Cell → List Addr
  | none => []
  | some (r, _) => [r]
def cOk (H : Hp) : Cell → Prop
  | none => True
  | some (r, xs) => H r = some (.lst (xs.map V.int))
def tA (t : Reel) : List Addr := t.1 :: t.2.flatMap cA
def adr (T : List Reel) : List Addr := T.flatMap tA
def tOk (H : Hp) (t : Reel) : Prop := H t.1 = some (.lst (t.2.map cV)) ∧ ∀ c ∈ t.2, cOk H c
def NRL (H : Hp) (T : List Reel) : Prop := ∀ t ∈ T, tOk H t
def datT (T : List Reel) : List Rows := T.map fun t => t.2.map cD
theorem cOk.frame {H H' : Hp} {c : Cell} (h : cOk H c) (f : ∀ x ∈ cA c, ∀ o, H x = some o → H' x = some o) : cOk H' c := by
  cases c with
  | none => trivial
  | some q => exact f q.1 (by simp [cA]) _ h
theorem tOk.frame {H H' : Hp} {t : Reel} (h : tOk H t) (f : ∀ x ∈ tA t, ∀ o, H x = some o → H' x = some o) : tOk H' t := by
  refine ⟨f t.1 (by simp [tA]) _ h.1, fun c hc => (h.2 c hc).frame fun x hx => f x ?_⟩
  exact List.mem_cons_of_mem _ (List.mem_flatMap.mpr ⟨c, hc, hx⟩)
theorem NRL.frame {H H' : Hp} {T : List Reel} (h : NRL H T) (f : ∀ x ∈ adr T, ∀ o, H x = some o → H' x = some o) : NRL H' T := fun t ht => (h t ht).frame fun x hx => f x (List.mem_flatMap.mpr ⟨t, ht, hx⟩)
theorem NRL.same {H H' : Hp} {T : List Reel} (h : NRL H T) (s : Same H H') : NRL H' T := h.frame fun x _ o e => s x o e
theorem NRL.off {H : Hp} {T : List Reel} {a : Addr} {o : HO} (h : NRL H T) (n : a ∉ adr T) : NRL (upd H a o) T := h.frame fun x hx q e => by rw [upd_ne fun z => n (by rw [← z]; exact hx)]; exact e
theorem cells_rd {H : Hp} : ∀ {cs : List Cell}, (∀ c ∈ cs, cOk H c) → RdL H (cs.map cV) ((cs.map cD).map datO)
  | [], _ => .nil
  | none :: cs, h => .cons .non (cells_rd fun c hc => h c (List.mem_cons_of_mem _ hc))
  | some (r, xs) :: cs, h => .cons (.lst (h (some (r, xs)) List.mem_cons_self) (rdl_ints xs)) (cells_rd fun c hc => h c (List.mem_cons_of_mem _ hc))
/-! the reels made longer, one thing at a time -/
/-! tuples of truths -/
def TB (H : Hp) (tr : List Addr) (B : List (List Bool)) : Prop := tr.length = B.length ∧ ∀ (j : Nat) r bs, tr[j]? = some r → B[j]? = some bs → H r = some (.tup (bs.map V.bl))
/-! ### what is promised -/
end Lv
namespace Lv
open PySem L2
/-! what stays true, whatever becomes of these -/
def St (S : List Addr) (H : Hp) (Φ : Hp → Prop) : Prop := ∀ H', Fr S H H' → Φ H'
theorem LLs.snoc {H : Hp} {rs : List Addr} {N : List (List Int)} {r : Addr} {xs : List Int} (h : LLs H rs N) (e : H r = some (.lst (xs.map V.int))) : LLs H (rs ++ [r]) (N ++ [xs]) := by
  refine ⟨by rw [List.length_append, List.length_append, h.1]; rfl, fun j q cs a b => ?_⟩
  rcases Nat.lt_or_ge j rs.length with hj | hj
  · rw [List.getElem?_append_left hj] at a
    rw [List.getElem?_append_left (by rw [← h.1]; exact hj)] at b
    exact h.2 j q cs a b
  · rw [List.getElem?_append_right hj] at a
    rw [List.getElem?_append_right (by rw [← h.1]; exact hj), ← h.1] at b
    cases e3 : j - rs.length with
    | zero => rw [e3] at a b; cases a; cases b; exact e
    | succ n => rw [e3] at a; cases a
/-- the reels so far, the rows of them and the truths -/
structure Bld (S : List Addr) (H : Hp) (us : List V) (rs tr : List Addr) (D : List Rows) (R : List (List Int)) : Prop where
  due : St S H fun H' => RdL H' us (D.map reelD)
  rows : St S H fun H' => LLs H' rs R
  lay : St S H fun H' => TB H' tr (shp D)
end Lv
namespace Lv
open PySem L2
/-! texts of truths -/
end Lv

set_option Elab.async false
set_option linter.all false
set_option maxRecDepth 100000
set_option maxHeartbeats 4000000
namespace Lv
open PySem L2
/-! ### phases, in plain Lean -/
/-- what is left of a count behind a phase -/
def les (m x : Int) : Int := if x - m > 0 then x - m else 0
/-- the counts behind a phase -/
def behindP (c : List Int) (out : Nat) (m : Int) : List Int := (c.map (les m)).set out m
/-- place by place at most -/
def LeAll (a b : List Int) : Prop := a.length = b.length ∧ ∀ j : Nat, a.getD j 0 ≤ b.getD j 0
/-- some order of the counts is place by place at most the level's, the last one 0 -/
def Cov (c L : List Int) : Prop := ∃ l : List Int, l.Perm (c) ∧ LeAll l (L ++ [0])
theorem getD_app {a b : List Int} {j : Nat} : (a ++ b).getD j 0 = if j < a.length then a.getD j 0 else b.getD (j - a.length) 0 := by
  simp only [List.getD_eq_getElem?_getD]
  by_cases h : j < a.length
  · rw [if_pos h, List.getElem?_append_left h]
  · rw [if_neg h, List.getElem?_append_right (by omega)]
theorem les_nn (m x : Int) : 0 ≤ les m x := by unfold les; split <;> omega
theorem map_getD {f : Int → Int} (h0 : f 0 = 0) (a : List Int) (j : Nat) : (a.map f).getD j 0 = f (a.getD j 0) := by
  simp only [List.getD_eq_getElem?_getD, List.getElem?_map]
  cases a[j]? <;> simp [h0]
theorem perm_cut {c l : List Int} {out : Nat} (hp : (l ++ [0]).Perm c) (ho : c[out]? = some 0) (m : Int) : (m :: l.map (les m)).Perm (behindP c out m) := by
  have hlt : out < c.length := (List.getElem?_eq_some_iff.mp ho).1
  have e0 : c[out] = 0 := (List.getElem?_eq_some_iff.mp ho).2
  have ec : c = c.take out ++ 0 :: c.drop (out + 1) := by
    rw [← e0, ← List.drop_eq_getElem_cons hlt, List.take_append_drop]
  have hlen : (c.take out).length = out := by rw [List.length_take]; omega
  generalize c.take out = a at ec hlen
  generalize c.drop (out + 1) = b at ec
  subst ec
  have h1 : (0 :: l).Perm (0 :: (a ++ b)) := by
    have q1 : (0 :: l).Perm (l ++ [0]) := (List.perm_append_singleton 0 l).symm
    have q2 : (a ++ 0 :: b).Perm (0 :: (a ++ b)) := List.perm_middle
    exact q1.trans (hp.trans q2)
  have h2 : l.Perm (a ++ b) := h1.cons_inv
  have h3 : (m :: l.map (les m)).Perm (m :: ((a ++ b).map (les m))) := (h2.map (les m)).cons m
  have h4 : behindP (a ++ 0 :: b) out m = a.map (les m) ++ m :: b.map (les m) := by
    unfold behindP
    rw [List.map_append, List.map_cons, ← hlen, ← List.length_map (les m) (as := a), List.set_append_right _ _ (Nat.le_refl _), Nat.sub_self]
    rfl
  rw [h4]
  refine h3.trans ?_
  rw [List.map_append]
  exact List.perm_middle.symm
/-- THE STEP: a phase of the level's greatest count, or of the greatest there is, leads to the level ahead -/
theorem cov_step {c L : List Int} {out : Nat} {m : Int} (hL : Down L) (hL2 : 2 ≤ L.length) (hc : Cov c (nextC L)) (hnn : ∀ x ∈ c, 0 ≤ x) (ho : c[out]? = some 0) (hm : m = L.getD 0 0 ∨ (m ≤ L.getD 0 0 ∧ ∀ x ∈ c, x ≤ m)) (hm0 : 0 ≤ m) : Cov (behindP c out m) L := by
  obtain ⟨l, hp, hlen, hle⟩ := hc
  have hnl : (nextC L).length = L.length := nextC_len (by intro z; rw [z] at hL2; simp at hL2)
  have hll : l.length = L.length + 1 := by rw [hlen]; simp [hnl]
  -- the last one is 0
  have hne : l ≠ [] := by intro z; rw [z] at hll; simp at hll
  obtain ⟨l0, z, rfl⟩ : ∃ l0 z, l = l0 ++ [z] := ⟨_, _, (List.dropLast_concat_getLast hne).symm⟩
  have hl0 : l0.length = L.length := by simpa using hll
  have hz : z = 0 := by
    have h1 := hle l0.length
    rw [getD_app, getD_app, hnl, ← hl0] at h1
    simp at h1
    have := hnn z (hp.subset (by simp))
    omega
  subst hz
  have mem0 : ∀ x ∈ l0, 0 ≤ x := fun x hx => hnn x (hp.subset (by simp [hx]))
  have bnd : ∀ j, j < L.length → l0.getD j 0 ≤ L.getD 0 0 + L.getD (j + 1) 0 := fun j hj => by
    have h1 := hle j
    rw [getD_app, getD_app, hnl, if_pos (by omega), if_pos hj, nextC_getD hj] at h1
    exact h1
  refine ⟨m :: l0.map (les m), perm_cut hp ho m, ?_, fun j => ?_⟩
  · simp [hl0]
  · have l0m : les m 0 = 0 := by unfold les; rw [if_neg (by omega)]
    have Lnn := fun j => getD_nn hL.2 j
    cases j with
    | zero =>
      rw [getD_app, if_pos (by omega)]
      show m ≤ L.getD 0 0
      rcases hm with rfl | hm
      · exact Int.le_refl _
      · exact hm.1
    | succ j =>
      show (l0.map (les m)).getD j 0 ≤ _
      rw [map_getD l0m, getD_app]
      have hlj : les m (l0.getD j 0) ≤ if j < L.length then L.getD (j + 1) 0 else 0 := by
        by_cases hj : j < L.length
        · rw [if_pos hj]
          have h1 := bnd j hj
          have h2 := Lnn (j + 1)
          rcases hm with rfl | hm
          · unfold les
            split <;> omega
          · have h3 : l0.getD j 0 ≤ m := hm.2 _ (hp.subset (by
              rw [List.getD_eq_getElem?_getD, List.getElem?_eq_getElem (by omega)]
              simp))
            unfold les
            rw [if_neg (by omega)]
            exact h2
        · rw [if_neg hj, getD_len (by omega), l0m]
          exact Int.le_refl _
      refine Int.le_trans hlj ?_
      by_cases hj : j < L.length
      · rw [if_pos hj]
        by_cases hj2 : j + 1 < L.length
        · rw [if_pos hj2]
          exact Int.le_refl _
        · rw [if_neg hj2, getD_len (by omega)]
          exact getD_nn (by simp) _
      · rw [if_neg hj, if_neg (by omega)]
        exact getD_nn (by simp) _
theorem behind_nn {c : List Int} {out : Nat} {m : Int} (hm : 0 ≤ m) : ∀ x ∈ behindP c out m, 0 ≤ x := by
  intro x hx
  unfold behindP at hx
  rcases List.mem_or_eq_of_mem_set hx with hx | rfl
  · obtain ⟨y, _, rfl⟩ := List.mem_map.mp hx
    exact les_nn m y
  · exact hm
/-- where the level ahead does, an empty reel is there -/
theorem cov_zero {c L : List Int} (h : Cov c L) (hnn : ∀ x ∈ c, 0 ≤ x) : (0 : Int) ∈ c := by
  obtain ⟨l, hp, hlen, hle⟩ := h
  have hne : l ≠ [] := by intro z; rw [z] at hlen; simp at hlen
  obtain ⟨l0, z, rfl⟩ : ∃ l0 z, l = l0 ++ [z] := ⟨_, _, (List.dropLast_concat_getLast hne).symm⟩
  have h0 : l0.length = L.length := by simpa using hlen
  have h1 := hle l0.length
  rw [getD_app, getD_app, h0] at h1
  simp at h1
  have hz := hnn z (hp.subset (by simp))
  have : z = 0 := by omega
  subst this
  exact hp.subset (by simp)
theorem perm_sum {a b : List Int} (h : a.Perm b) : a.sum = b.sum := by
  induction h with
  | nil => rfl
  | cons x _ ih => rw [List.sum_cons, List.sum_cons, ih]
  | swap x y l => simp only [List.sum_cons]; omega
  | trans _ _ h1 h2 => exact h1.trans h2
/-- by level 0 there is one row at most -/
theorem cov_one {c : List Int} {p : Nat} (h : Cov c (firstC p)) (hnn : ∀ x ∈ c, 0 ≤ x) : c.sum ≤ 1 := by
  obtain ⟨l, hp, hlen, hle⟩ := h
  rw [← perm_sum hp]
  have hnl : ∀ x ∈ l, 0 ≤ x := fun x hx => hnn x (hp.subset hx)
  cases l with
  | nil => simp
  | cons a r =>
    have ha := hle 0
    have hr : ∀ x ∈ r, x = 0 := fun x hx => by
      obtain ⟨i, hi, rfl⟩ := List.getElem_of_mem hx
      have h1 := hle (i + 1)
      have h2 := hnl r[i] (by simp)
      have e1 : (a :: r).getD (i + 1) 0 = r[i] := by simp [hi]
      rw [e1] at h1
      have e2 : (firstC p ++ [0]).getD (i + 1) 0 = 0 := by
        show (List.replicate (p - 1) (0 : Int) ++ [0]).getD i 0 = 0
        rw [← List.replicate_succ', rep_getD]
      omega
    have e3 : (firstC p ++ [0]).getD 0 0 = 1 := rfl
    rw [e3] at ha
    have : r.sum = 0 := by
      have : r = List.replicate r.length 0 := List.eq_replicate_of_mem hr
      rw [this]
      clear this hr hlen hle hp hnl
      induction r.length with
      | zero => rfl
      | succ n ih => rw [List.replicate_succ, List.sum_cons, ih]; rfl
    rw [List.sum_cons, this]
    have : (a :: r).getD 0 0 = a := rfl
    omega
end Lv

set_option Elab.async false
set_option linter.all false
set_option maxRecDepth 100000
set_option maxHeartbeats 4000000
namespace L2
open PySem PySem.Spec PyProof.Rows PySem.SeqAt
section
variable {X : Cx}
/-- the list at a from its end, as long as it stays -/
def Itv (K : PySem.W.Frag) (a : Addr) (xs : List V) : It := ⟨fun i H => SqL K H a xs ∧ i < xs.length, fun i H x H' => H' = H ∧ xs[xs.length - 1 - i]? = some x, fun i H => SqL K H a xs ∧ xs.length ≤ i⟩
theorem turn_rev {P : Program} {w : World} {K : PySem.W.Frag} {tg : Expr} (a it : Addr) (xs : List V) : Turn P w K tg (Itv K a xs) [it] it (fun i h => i ≤ xs.length ∧ h.IsRevIter it a ((xs.length : Int) - 1 - (i : Int))) where
  mem := by simp
  obj := fun i h st b hb => by
    have e : b = it := by simpa using hb
    subst e
    obtain ⟨_, o, e, c, d⟩ := st
    exact ⟨o, e, fun v z => by rw [d] at z; cases z⟩
  keep := fun i h h' st k => ⟨st.1, st.2.at fun o e => k it (by simp) o e⟩
  item := by
    intro X hP hw hK hc i pins s σ H E I hf st hg
    subst hP hw hK
    obtain ⟨hq, hi⟩ := hg
    obtain ⟨its, rv, p, hz⟩ := I.list hq
    have hx : xs[xs.length - 1 - i]? = some (xs[xs.length - 1 - i]'(by omega)) := List.getElem?_eq_getElem (by omega)
    obtain ⟨u, hu, ru⟩ := rv.get hx
    obtain ⟨f0, f1, f2, f3, f4, f5⟩ := hf it (by simp)
    have st2 := st.2
    rw [show (xs.length : Int) - 1 - (i : Int) = ((xs.length - 1 - i : Nat) : Int) by omega] at st2
    refine wpAny_pyNext_rev_item st2 p.isList (x := u) (by simpa using hu) fun h' st' sb => ?_
    have I1 : Inv X pins σ H { s with heap := h' } := I.turned (t' := s.toks) (fun b o hb e => (sb.2 b hb).trans e) f0 f1 f3 f4 f5
    rw [show ((xs.length - 1 - i : Nat) : Int) - 1 = (xs.length : Int) - 1 - ((i + 1 : Nat) : Int) by omega] at st'
    obtain ⟨o, e, c, d⟩ := id st'
    exact ⟨u, rfl, go_of (s := { s with heap := h' }) e c d (by decide) ⟨_, H, I1, ru, ⟨rfl, hx⟩, ⟨hi, st'⟩, fun b hb => (hf b hb).1⟩⟩
  done := by
    intro X hP hw hK hc i pins s σ H E I hf st hg
    subst hP hw hK
    obtain ⟨hq, hx⟩ := hg
    obtain ⟨f0, f1, f2, f3, f4, f5⟩ := hf it (by simp)
    have st2 := st.2
    have := st.1
    rw [show (xs.length : Int) - 1 - (i : Int) = -1 by omega] at st2
    exact wpAny_pyNext_rev_end (I.ok.hd hc) st2 fun h' eb => ⟨rfl, I.turned (t' := s.toks) (fun b o hb e => eb b o hb e) f0 f1 f3 f4 f5⟩
  self := fun _ _ _ _ _ st h => wpAny_pyIter_revIter st.2 h
def iRev (K : PySem.W.Frag) (ta : TA) : TI := fun σ H R => ta σ H fun vs H1 => ∃ a xs, vs = [.ref a] ∧ SqL K H1 a xs ∧ R (Itv K a xs) H1
theorem pi_rev {tg e : Expr} {ta : TA} {p pos : Pos} (hg : Gl X "reversed") (hm : X.mg "reversed" = none) (ha : PA X [e] ta) (hs : starEach [e] X.env = [(false, eval e X.env)] := by rfl) : PI X tg (.Call (.Name "reversed" p) [e] [] pos) (iRev X.K ta) := by
  intro pins s σ H R I h
  refine Call_ (ld_blt I hg hm (show bootBuiltins "reversed" = some (.type "reversed") by decide +kernel) (PyProof.Rows.callWith_type1 (thn (ha pos pins s σ H _ I h) fun us s1 ⟨vs, H1, I1, r1, q1⟩ => ?_) hs rfl))
  obtain ⟨a, xs, e1, hq, q⟩ := q1
  subst e1
  obtain ⟨u, rfl, r⟩ := vals1 r1
  cases r
  obtain ⟨its, rv, pl, hz⟩ := I1.list hq
  have hl : its.toArray.size = xs.length := by rw [List.size_toArray]; exact rv.length.symm
  refine call_reversed_list pl.isList ?_
  rw [hl]
  have hit : (s1.heap.push (revObj a ((xs.length : Int) - 1))).IsRevIter s1.heap.objs.size a ((xs.length : Int) - 1) := ⟨_, Heap.get?_push_size _ rfl, rfl, rfl⟩
  refine wpAny_pyIter_revIter (s := { s1 with heap := s1.heap.push (revObj a ((xs.length : Int) - 1)) }) hit ?_
  refine ⟨s1.heap.objs.size, [s1.heap.objs.size], _, _, H1, rfl, I1.kept (t' := s1.toks) fun b o e => Heap.get?_push_of_some _ e, turn_rev a s1.heap.objs.size xs, ⟨Nat.zero_le _, by simpa using hit⟩, fun b hb => ?_, q⟩
  have e : b = s1.heap.objs.size := by simpa using hb
  subst e
  exact I1.fpOk (Nat.le_refl _) (I1.hok.fresh (Nat.le_refl _))
end
/-- for over reversed(xs), xs left as it is -/
theorem for_rev {K : PySem.W.Frag} {a : Addr} {xs : List V} {g : TG} {tb : TS} {D : Ends} {σ : St} {H : Hp} (Pv : Nat → St → Hp → Prop) (h0 : Pv 0 σ H) (hl : ∀ i σ H, i ≤ xs.length → Pv i σ H → SqL K H a xs)
    (hs : ∀ i x σ H, i < xs.length → xs[xs.length - 1 - i]? = some x → Pv i σ H → g x σ H fun σ2 H2 => tb { D with nx := Pv (i + 1), ct := Pv (i + 1), bk := D.nx } σ2 H2) (hd : ∀ σ H, Pv xs.length σ H → D.nx σ H) :
    ∃ W : Nat → Nat → St → Hp → Prop, (∃ m, W 0 m σ H) ∧ ∀ i m σ H, W i m σ H →
      ((Itv K a xs).stop i H ∧ D.nx σ H) ∨ ((Itv K a xs).go i H ∧ ∃ N : St → Hp → Prop, (∀ σ' H', N σ' H' → ∃ m', m' < m ∧ W (i + 1) m' σ' H') ∧ ∀ x H', (Itv K a xs).yld i H x H' → g x σ H' fun σ2 H2 => tb { D with nx := N, ct := N, bk := D.nx } σ2 H2) := by
  refine ⟨fun i m σ H => m = xs.length - i ∧ i ≤ xs.length ∧ Pv i σ H, ⟨xs.length, by simp, Nat.zero_le _, h0⟩, ?_⟩
  rintro i m σ H ⟨rfl, hi, p⟩
  have q := hl i σ H hi p
  by_cases hlt : i < xs.length
  · refine .inr ⟨⟨q, hlt⟩, Pv (i + 1), fun σ' H' p' => ⟨xs.length - (i + 1), by omega, rfl, hlt, p'⟩, fun x H' y => ?_⟩
    obtain ⟨e, y⟩ := y
    subst e
    exact hs i x σ _ hlt y p
  · have e : i = xs.length := by omega
    subst e
    exact .inl ⟨⟨q, Nat.le_refl _⟩, hd σ H p⟩
end L2

set_option Elab.async false
set_option linter.all false
set_option maxRecDepth 100000
set_option maxHeartbeats 4000000
namespace L2
open PySem PySem.Spec PyProof.Rows PySem.SeqAt
section
variable {X : Cx}
/-! ### methods of a tuple that is tracked (wants the patched layer: patch_tup.py) -/
def tBMT (r : V → List V → Hp → VK → Prop) (to : TE) (t : TA) : TE := fun σ H Q => to σ H fun x H1 => (∃ p xs, x = .ref p ∧ H1 p = some (.tup xs)) ∧ t σ H1 fun xs H2 => r x xs H2 Q
theorem pe_bmT {o e : Expr} {es : List Expr} {to : TE} {t : TA} {name : Str} {apos cpos : Pos} {id : String} {r : V → List V → Hp → VK → Prop} (slot : Slot "tuple" name id) (hty : typeOf (.builtin id) = pure (.type "method_descriptor")) (hm : MtR X id r) (ho : PE X o to) (ha : PA X (e :: es) t)
    (hbase : attributeBase o name X.env (eval o X.env) = eval o X.env := by rfl)
    (hfew : ((backTo cpos (starEach (e :: es) X.env)).all (fun x => !x.1) && (backToKw cpos (keywordEach [] X.env)).all (fun x => x.1.isSome) && decide ((e :: es).length + ([] : List Keyword).length + (if ([] : List Keyword).isEmpty then 0 else 1) < 30)) = true := by rfl)
    (hline : (apos.endLine == cpos.line) = true := by rfl) (hs : starEach (e :: es) X.env = (false, eval e X.env) :: starEach es X.env := by rfl) (hplain : (backTo cpos (starEach es X.env)).any (·.1) = false := by rfl) : PE X (.Call (.Attribute o name apos) (e :: es) [] cpos) (tBMT r to t) := by
  intro pins s σ H Q I h
  refine wpAny_Call_method_late hbase hfew hline rfl (thn (ho pins s σ H _ I h) fun v s1 ⟨x, H1, I1, r1, ⟨p, xs, ex, hp⟩, q1⟩ => ?_)
  subst ex
  cases r1
  obtain ⟨_, its, _, ob, h1, h2, h3, _⟩ := (show ObjOk X.prog X.w H1 s1.heap p (.tup xs) from I1.hok p _ hp)
  refine ⟨"tuple", id, F.plainAttrs_tuple, slot, hty, ⟨ob, h1, h2⟩, fun a e => ?_, ?_⟩
  · cases e
    exact ⟨ob, h1, h3⟩
  have hA := ha cpos pins s1 σ H1 _ I1 q1
  rw [hs] at hA ⊢
  refine Calls.callWith_builtin (by show (false || (backTo cpos (starEach es X.env)).any (·.1)) = false; rw [hplain] <;> rfl) (Calls.evalArgs_plain ?_)
  exact thn hA fun us s2 ⟨vs, H2, I2, r2, q2⟩ => hm pins s2 σ H2 (.ref p) vs (.ref p) us Q I2 rfl r2 q2
end
end L2

set_option Elab.async false
set_option linter.all false
set_option maxRecDepth 100000
set_option maxHeartbeats 4000000
namespace L2
open PySem PySem.Spec PyProof.Rows PySem.SeqAt
theorem tuple_indexAt (l : Addr) (items : Array Value) (n : Nat) (dd : Option Addr) (sl : Array (Option Value)) (x : Value) (e : Value → Bool) (j : Nat) (hj : j < items.size) (hit : e items[j] = true) (hno : ∀ m (hm : m < items.size), m < j → e items[m] = false) :
    Meets (Builtin.«tuple.index» ⟨[.ref l, x], []⟩)
      (fun A R s => s.heap.get? l = some { cls := .type "tuple", dict := dd, data := .seq items n, slots := sl } ∧ (∀ y, y ∈ items → EqAt A.in1 s y x (e y)) ∧ R (.ok (.ret (.int j s.toks))) { s with toks := s.toks + 1 }) :=
  .of_wp fun prog w A R s h => by
    obtain ⟨hp, g, d, tk, os⟩ := s
    obtain ⟨hl, he, h⟩ := h
    unfold Builtin.«tuple.index»
    simp only [Std.Legacy.Range.forIn_eq_forIn_range']
    wp_walk using wpAny_loadPart' hl, wpAny_forIn_list _ (fun rest (b : Option Fin × Unit) s' => b.1 = none ∧ s' = ⟨hp, g, d, tk, os⟩ ∧ ∃ i, i ≤ j ∧ rest = List.range' i (items.size - i)) _
    case turn =>
      rintro y rest b s' ⟨hb, rfl, i, hij, hr⟩
      have hlt : i < items.size := by omega
      rw [show items.size - i = (items.size - i - 1) + 1 by omega, List.range'_succ] at hr
      obtain ⟨rfl, rfl⟩ := List.cons.inj hr
      rw [Array.getElem?_eq_getElem hlt]
      refine wpAny_bind (he _ (Array.getElem_mem hlt) prog w _ _ ?_)
      by_cases e0 : y = j
      · subst e0
        rw [hit]
        wp_walk
        exact ⟨_, rfl, h⟩
      · rw [hno y hlt (by omega)]
        wp_walk
        exact ⟨rfl, rfl, y + 1, by omega, by rw [show items.size - y - 1 = items.size - (y + 1) by omega]⟩
    case fin =>
      rintro ⟨b1, b2⟩ s' ⟨hb, rfl, i, hij, hr⟩
      have := congrArg List.length hr
      simp at this
      omega
    case h =>
      refine ⟨rfl, rfl, 0, Nat.zero_le _, ?_⟩
      simp [Std.Legacy.Range.size]
section
variable {X : Cx}
theorem not_before {i : Int} : ∀ (l : List Int) (j : Nat) (hj : j < l.length), j < l.idxOf i → l[j] ≠ i := by
  intro l
  induction l with
  | nil => intro j hj; simp at hj
  | cons a r ih =>
    intro j hj hlt
    rw [List.idxOf_cons] at hlt
    by_cases ha : a = i
    · subst ha; simp at hlt
    · have hb : (a == i) = false := by simpa using ha
      rw [hb] at hlt
      cases j with
      | zero => simpa using ha
      | succ j => simpa using ih j (by simpa using hj) (by simp at hlt; omega)
/-- t.index(i) of a tuple of ints that has it -/
theorem mt_indexT : MtR X "tuple.index" (fun x vs H Q => ∃ (l : Addr) (ns : List Int) (i : Int), x = .ref l ∧ vs = [.int i] ∧ H l = some (.tup (ns.map V.int)) ∧ i ∈ ns ∧ Q (.int (ns.idxOf i : Nat)) H) := by
  intro pins s σ H x vs v us Q I rx rv h
  obtain ⟨l, ns, i, rfl, rfl, hq, hi, q⟩ := h
  cases rx
  obtain ⟨u, rfl, ru⟩ := vals1 rv
  obtain ⟨t, rfl⟩ := ru
  obtain ⟨_, its, r, ⟨cls, dd, data, sl⟩, ho, hc, hdn, n, hd⟩ := (show ObjOk X.prog X.w H s.heap l (.tup (ns.map V.int)) from I.hok l _ hq)
  simp only at hc hd
  subst hc hd
  have hI : IntsAre its ns := intsAre_of r
  have hlen := hI.length
  have hj : ns.idxOf i < ns.length := List.idxOf_lt_length_iff.mpr hi
  refine call_meets F.slot_tuple_index ⟨_, ho, rfl⟩ F.entry_tuple_index (F.args_tuple_index_2 _ _) (tuple_indexAt l its.toArray n dd sl (.int i t) (isInt i) (ns.idxOf i) (by simpa [hlen] using hj) ?_ ?_) ⟨ho, fun y hy => (eq_isInt i t hI y (by simpa using hy)).at _ _, ⟨.int _, H, I.tok _, ⟨_, rfl⟩, q⟩⟩
  · show isInt i its[ns.idxOf i] = true
    rw [isInt_at i hI _ (by omega) hj]
    simpa using List.getElem_idxOf hj
  · intro j hjs hlt
    show isInt i its[j] = false
    rw [isInt_at i hI j (by simpa using hjs) (by omega)]
    have := not_before ns j (by omega) hlt
    simpa using this
/-! ### (many, plan, bar) against (many, plan, bar) -/
/-- an int or None, as a value -/
def ovV : Option Int → V
  | none => .non
  | some i => .int i
end
end L2

set_option Elab.async false
set_option linter.all false
set_option maxRecDepth 100000
set_option maxHeartbeats 4000000
namespace Lv
open PySem L2
/-! ### the counts in their order -/
def rk (st : List Int) : List Int := st.mergeSort fun a b => decide (a ≥ b)
theorem rk_perm (st : List Int) : (rk st).Perm st := List.mergeSort_perm _ _
theorem rk_down (st : List Int) : (rk st).Pairwise (· ≥ ·) := by
  have := List.pairwise_mergeSort (le := fun a b : Int => decide (a ≥ b)) (fun a b c h1 h2 => by simp at h1 h2 ⊢; omega) (fun a b => by simp; omega) st
  exact this.imp fun h => by simpa using h
theorem rk_uniq {st r : List Int} (h : r.Perm st) (d : r.Pairwise (· ≥ ·)) : r = rk st :=
  List.Perm.eq_of_pairwise (le := (· ≥ ·)) (fun a b _ _ h1 h2 => by omega) d (rk_down st) (h.trans (rk_perm st).symm)
theorem rk_len (st : List Int) : (rk st).length = st.length := (rk_perm st).length_eq
/-! ### levels that cover -/
def CovL (L r : List Int) : Prop := ∀ j, j < L.length → r.getD j 0 ≤ L.getD j 0
instance (L r : List Int) : Decidable (CovL L r) := inferInstanceAs (Decidable (∀ j, j < L.length → r.getD j 0 ≤ L.getD j 0))
def Lvl (p : Nat) (r : List Int) (N : Nat) : Prop := CovL (cnt p N) r ∧ ∀ k, k < N → ¬ CovL (cnt p k) r
theorem Lvl.uniq {p : Nat} {r : List Int} {n m : Nat} (h : Lvl p r n) (g : Lvl p r m) : n = m := by
  rcases Nat.lt_trichotomy n m with z | z | z
  · exact absurd h.1 (g.2 n z)
  · exact z
  · exact absurd g.1 (h.2 m z)
theorem hd_two {p : Nat} (hp : 2 ≤ p) (n : Nat) : 2 * hd p n ≤ hd p (n + 2) := by
  have h1 : hd p (n + 2) = hd p (n + 1) + (cnt p (n + 1)).getD 1 0 := nextC_getD (c := cnt p (n + 1)) (j := 0) (by rw [cnt_len (by omega)]; omega)
  have h2 : (cnt p (n + 1)).getD 1 0 = hd p n + (cnt p n).getD 2 0 := nextC_getD (c := cnt p n) (j := 1) (by rw [cnt_len (by omega)]; omega)
  have h3 := getD_nn (down_cnt p n).2 2
  have h4 : hd p n ≤ hd p (n + 1) := grow (by omega) n 0 (by omega)
  omega
theorem hd_pow {p : Nat} (hp : 2 ≤ p) : ∀ k : Nat, (2 : Int) ^ k ≤ hd p (2 * k)
  | 0 => hd_pos hp 0
  | k + 1 => by
    have := hd_pow hp k
    have h2 := hd_two hp (2 * k)
    rw [Int.pow_succ, show 2 * (k + 1) = 2 * k + 2 by omega]
    omega
def big : Int := 1000000000000000000000000000000000000000000000000000000000000
theorem hd_400 {p : Nat} (hp : 2 ≤ p) : big ≤ hd p 400 := by
  have h := hd_pow hp 200
  have : big ≤ (2 : Int) ^ 200 := by decide +kernel
  have e : 2 * 200 = 400 := rfl
  rw [e] at h
  omega
theorem cov_401 {p : Nat} (hp : 2 ≤ p) {r : List Int} (hr : ∀ x ∈ r, x ≤ big) : CovL (cnt p 401) r := by
  intro j hj
  rw [cnt_len (by omega)] at hj
  have e : (cnt p 401).getD j 0 = hd p 400 + (cnt p 400).getD (j + 1) 0 := nextC_getD (by rw [cnt_len (by omega)]; omega)
  have h1 := hd_400 hp
  have h2 := getD_nn (down_cnt p 400).2 (j + 1)
  have h3 : r.getD j 0 ≤ big := by
    rw [List.getD_eq_getElem?_getD]
    cases e : r[j]? with
    | none => show (0 : Int) ≤ big; decide +kernel
    | some x => exact hr x (List.mem_of_getElem? e)
  omega
/-! ### standings -/
structure Stand (p : Nat) (st : List Int) : Prop where
  p2 : 2 ≤ p
  p7 : p ≤ 7
  len : st.length = p + 1
  nn : ∀ x ∈ st, 0 ≤ x
  le : ∀ x ∈ st, x ≤ big
  zero : (0 : Int) ∈ st
  pos : ∃ x ∈ st, 1 ≤ x
theorem rk_last {p : Nat} {st : List Int} (S : Stand p st) : (rk st).getD p 0 ≤ 0 := by
  have hl : (rk st).length = p + 1 := by rw [rk_len, S.len]
  obtain ⟨i, hi, e⟩ := List.getElem_of_mem ((rk_perm st).symm.subset S.zero)
  rw [List.getD_eq_getElem?_getD, List.getElem?_eq_getElem (by omega)]
  show (rk st)[p] ≤ 0
  by_cases h : i = p
  · subst h; omega
  · have := (List.pairwise_iff_getElem.mp (rk_down st)) i p hi (by omega) (by omega)
    omega
theorem stand_cov {p : Nat} {st : List Int} {n : Nat} (S : Stand p st) (h : CovL (cnt p n) (rk st)) : Cov st (cnt p n) := by
  have hp : 1 ≤ p := by have := S.p2; omega
  refine ⟨rk st, rk_perm st, by rw [rk_len, S.len, List.length_append, cnt_len hp]; rfl, fun j => ?_⟩
  rw [getD_app, cnt_len hp]
  by_cases hj : j < p
  · rw [if_pos hj]
    exact h j (by rw [cnt_len hp]; exact hj)
  · rw [if_neg hj]
    by_cases e : j = p
    · subst e
      simpa using rk_last S
    · rw [getD_len (by rw [rk_len, S.len]; omega)]
      exact getD_nn (by simp) _
/-! ### the greatest, the plan -/
def mxl : List Int → Int
  | [] => 0
  | x :: r => if mxl r > x then mxl r else x
theorem mxl_ge : ∀ (c : List Int), ∀ x ∈ c, x ≤ mxl c
  | y :: r, x, h => by
    unfold mxl
    rcases List.mem_cons.mp h with rfl | h
    · split <;> omega
    · have := mxl_ge r x h
      split <;> omega
theorem mxl_mem : ∀ (c : List Int), (∀ x ∈ c, 0 ≤ x) → c ≠ [] → mxl c ∈ c
  | [], _, h => absurd rfl h
  | y :: r, hn, _ => by
    unfold mxl
    by_cases hr : r = []
    · subst hr
      have := hn y (by simp)
      rw [if_neg (by show ¬ (0 : Int) > y; omega)]
      simp
    · have := mxl_mem r (fun x hx => hn x (by simp [hx])) hr
      split
      · exact List.mem_cons_of_mem _ this
      · simp
theorem mxl_eq {c : List Int} {m : Int} (hn : ∀ x ∈ c, 0 ≤ x) (hm : m ∈ c) (hg : ∀ x ∈ c, x ≤ m) : m = mxl c := by
  have h1 := mxl_ge c m hm
  have h2 := hg _ (mxl_mem c hn (List.ne_nil_of_mem hm))
  omega
def mn (a b : Int) : Int := if b < a then b else a
def ph (p : Nat) (c : List Int) (n : Nat) : Int := mn (hd p n) (mxl c)
def nxt (p : Nat) (c : List Int) (n : Nat) : List Int := behindP c (c.idxOf 0) (ph p c n)
def planF (p : Nat) : List Int → Nat → List (List Int)
  | _, 0 => []
  | c, n + 1 => [((c.idxOf 0 : Nat) : Int), ph p c n] :: planF p (nxt p c n) n
/-- on the way: what is left is covered by the level n -/
structure On (p : Nat) (c : List Int) (n : Nat) : Prop where
  len : c.length = p + 1
  cov : Cov c (cnt p n)
  nn : ∀ x ∈ c, 0 ≤ x
  pos : ∃ x ∈ c, 1 ≤ x
theorem On.idx {p : Nat} {c : List Int} {n : Nat} (h : On p c n) : (0 : Int) ∈ c := cov_zero h.cov h.nn
theorem On.out {p : Nat} {c : List Int} {n : Nat} (h : On p c n) : c.idxOf 0 < c.length ∧ c[c.idxOf 0]? = some 0 := by
  have h1 : c.idxOf 0 < c.length := List.idxOf_lt_length_iff.mpr h.idx
  refine ⟨h1, ?_⟩
  rw [List.getElem?_eq_getElem h1, List.getElem_idxOf h1]
theorem On.mx {p : Nat} {c : List Int} {n : Nat} (h : On p c n) : 1 ≤ mxl c := by
  obtain ⟨x, hx, h1⟩ := h.pos
  have := mxl_ge c x hx
  omega
theorem On.ph {p : Nat} (hp : 2 ≤ p) {c : List Int} {n k : Nat} (h : On p c n) : 1 ≤ ph p c k ∧ ph p c k ≤ mxl c := by
  have h1 := hd_pos hp k
  have h2 := h.mx
  unfold Lv.ph mn
  split <;> omega
theorem On.step {p : Nat} (hp : 2 ≤ p) {c : List Int} {n : Nat} (h : On p c (n + 1)) : On p (nxt p c n) n := by
  obtain ⟨o1, o2⟩ := h.out
  obtain ⟨p1, p2⟩ := h.ph hp (k := n)
  refine ⟨by simp [nxt, behindP, h.len], ?_, behind_nn (by omega), Lv.ph p c n, ?_, p1⟩
  · refine cov_step (down_cnt p n) (by rw [cnt_len (by omega)]; exact hp) h.cov h.nn o2 ?_ (by omega)
    show Lv.ph p c n = hd p n ∨ (Lv.ph p c n ≤ hd p n ∧ ∀ x ∈ c, x ≤ Lv.ph p c n)
    unfold Lv.ph mn
    by_cases e : mxl c < hd p n
    · rw [if_pos e]
      exact .inr ⟨by omega, mxl_ge c⟩
    · rw [if_neg e]
      exact .inl rfl
  · unfold nxt behindP
    rw [List.mem_iff_getElem?]
    exact ⟨c.idxOf 0, by rw [List.getElem?_set_self (by simpa using o1)]⟩
theorem sum_nn : ∀ {l : List Int}, (∀ x ∈ l, 0 ≤ x) → ∀ y ∈ l, y ≤ l.sum
  | x :: r, h, y, hy => by
    have h0 : ∀ l : List Int, (∀ x ∈ l, 0 ≤ x) → 0 ≤ l.sum := by
      intro l
      induction l with
      | nil => intro _; simp
      | cons x y ih =>
        intro h
        rw [List.sum_cons]
        have := h x (by simp)
        have := ih fun z hz => h z (by simp [hz])
        omega
    rw [List.sum_cons]
    rcases List.mem_cons.mp hy with rfl | hy
    · have := h0 r fun z hz => h z (by simp [hz])
      omega
    · have := sum_nn (l := r) (fun z hz => h z (by simp [hz])) y hy
      have := h x (by simp)
      omega
theorem On.one {p : Nat} {c : List Int} (h : On p c 0) : c.sum = 1 := by
  have h1 := cov_one (p := p) h.cov h.nn
  obtain ⟨x, hx, h2⟩ := h.pos
  have := sum_nn h.nn x hx
  omega
theorem Stand.on {p : Nat} {st : List Int} {N : Nat} (S : Stand p st) (h : Lvl p (rk st) N) : On p st N := ⟨S.len, stand_cov S h.1, S.nn, S.pos⟩
theorem planF_len (p : Nat) : ∀ (n : Nat) (c : List Int), (planF p c n).length = n
  | 0, _ => rfl
  | n + 1, c => by simp [planF, planF_len p n]
theorem les_a (m z : Int) : (if (0 : Int) > z - m then 0 else z - m) = les m z := by
  unfold les
  split <;> split <;> omega
theorem map_set {c : List Int} {out : Nat} {m : Int} : ((c.map (les m)).map V.int).set out (.int m) = (behindP c out m).map V.int := by
  unfold behindP
  rw [List.map_set]
/-! ### the bar -/
def fb (L r : List Int) : Nat := ((List.range L.length).filter fun j => decide (r.getD j 0 > L.getD j 0)).headD 0
theorem fb_ok {L r : List Int} (h : ¬ CovL L r) : ∃ rest, (List.range L.length).filter (fun j => decide (r.getD j 0 > L.getD j 0)) = fb L r :: rest ∧ fb L r < L.length ∧ r.getD (fb L r) 0 > L.getD (fb L r) 0 := by
  unfold fb
  cases e : (List.range L.length).filter fun j => decide (r.getD j 0 > L.getD j 0) with
  | nil =>
    refine absurd (fun j hj => ?_) h
    rw [List.filter_eq_nil_iff] at e
    have := e j (List.mem_range.mpr hj)
    simp at this
    exact this
  | cons a rest =>
    have ha : a ∈ (List.range L.length).filter fun j => decide (r.getD j 0 > L.getD j 0) := by rw [e]; simp
    obtain ⟨h1, h2⟩ := List.mem_filter.mp ha
    exact ⟨rest, rfl, List.mem_range.mp h1, by simpa using h2⟩
def barF (p : Nat) (st : List Int) (N : Nat) : Option Int := if N = 0 then none else some (fb (cnt p (N - 1)) (rk st))
/-- the levels, as a list of lists -/
def lvls (p n : Nat) : List (List Int) := (List.range n).map (cnt p)
theorem lvls_len (p n : Nat) : (lvls p n).length = n := by simp [lvls]
theorem lvls_at {p n j : Nat} (h : j < n) : (lvls p n)[j]? = some (cnt p j) := by simp [lvls, h]
theorem lvls_succ (p n : Nat) : lvls p (n + 1) = lvls p n ++ [cnt p n] := by simp [lvls, List.range_succ]
theorem cut_last (xs : List V) (y : V) : cutV (xs ++ [y]) none (some (-1)) = xs := by
  have e : HT.sIx (xs ++ [y]).length (xs ++ [y]).length (some (-1)) = xs.length := by
    have := HT.clip_eq (-1) (xs ++ [y]).length (xs ++ [y]).length
    rw [if_pos (by decide)] at this
    simp only [List.length_append, List.length_singleton] at this ⊢
    omega
  unfold cutV
  rw [e]
  show (xs ++ [y]).take (xs.length - 0) = xs
  rw [Nat.sub_zero, List.take_left]
theorem TTs.last {H : Hp} {qs : List Addr} {p n : Nat} (h : TTs H qs (lvls p (n + 1))) : ∃ qs' q, qs = qs' ++ [q] ∧ TTs H qs' (lvls p n) ∧ H q = some (.tup ((cnt p n).map V.int)) := by
  have hl : qs.length = n + 1 := by rw [h.1, lvls_len]
  have hne : qs ≠ [] := by intro z; rw [z] at hl; simp at hl
  refine ⟨qs.dropLast, qs.getLast hne, (List.dropLast_concat_getLast hne).symm, ?_, ?_⟩
  · refine ⟨by simp [hl, lvls_len], fun j r xs ha hb => ?_⟩
    have hj : j < n := by have := (List.getElem?_eq_some_iff.mp hb).1; rwa [lvls_len] at this
    refine h.2 j r xs ?_ ?_
    · rw [List.getElem?_dropLast] at ha
      split at ha
      · exact ha
      · cases ha
    · rw [lvls_at hj] at hb
      rw [lvls_at (by omega), ← hb]
  · refine h.2 n _ _ ?_ (lvls_at (by omega))
    rw [List.getLast_eq_getElem, ← List.getElem?_eq_getElem]
    rw [show qs.length - 1 = n by omega]
/-! ### promises -/
def spIsSt (K : PySem.W.Frag) : Sp := fun vs H Q _ => ∃ (a : Addr) (p : Nat) (st : List Int), vs = [.ref a] ∧ H a = some (.tup (st.map V.int)) ∧ Stand p st ∧ ∀ H', Same H H' → Q (.bl true) H'
def spChkSt (K : PySem.W.Frag) : Sp := fun vs H Q _ => ∃ (a : Addr) (p : Nat) (st : List Int), vs = [.ref a] ∧ H a = some (.tup (st.map V.int)) ∧ Stand p st ∧ ∀ H', Same H H' → Q .non H'
def spBeh : Sp := fun vs H Q _ => ∃ (a q : Addr) (c : List Int) (out : Nat) (m : Int), vs = [.ref a, .ref q] ∧ H a = some (.tup (c.map V.int)) ∧ H q = some (.tup [.int out, .int m]) ∧ c.length ≤ 8 ∧ out < c.length ∧ c[out]? = some 0 ∧ 1 ≤ m ∧ m ≤ mxl c ∧ (∀ x ∈ c, 0 ≤ x) ∧ ∀ l H', H l = none → H' l = some (.tup ((behindP c out m).map V.int)) → Same H H' → Q (.ref l) H'
def spRk : Sp := fun vs H Q _ => ∃ (a : Addr) (st : List Int), vs = [.ref a] ∧ H a = some (.tup (st.map V.int)) ∧ st.length ≤ 8 ∧ ∀ l H', H l = none → H' l = some (.lst ((rk st).map V.int)) → Same H H' → Q (.ref l) H'
def spCovers : Sp := fun vs H Q _ => ∃ (a b : Addr) (L r : List Int), vs = [.ref a, .ref b] ∧ H a = some (.tup (L.map V.int)) ∧ H b = some (.lst (r.map V.int)) ∧ L.length ≤ r.length ∧ r.length ≤ 8 ∧ ∀ H', Same H H' → Q (.bl (decide (CovL L r))) H'
def spLvTo : Sp := fun vs H Q _ => ∃ (a : Addr) (p : Nat) (st : List Int), vs = [.ref a] ∧ H a = some (.tup (st.map V.int)) ∧ Stand p st ∧ ∀ N l qs H', Lvl p (rk st) N → N ≤ 401 → H l = none → H' l = some (.lst (qs.map V.ref)) → TTs H' qs (lvls p (N + 1)) → Same H H' → Q (.ref l) H'
def spPlan : Sp := fun vs H Q _ => ∃ (b a : Addr) (p N : Nat) (st : List Int) (qs : List Addr), vs = [.ref b, .ref a] ∧ H b = some (.lst (qs.map V.ref)) ∧ TTs H qs (lvls p N) ∧ H a = some (.tup (st.map V.int)) ∧ 2 ≤ p ∧ p ≤ 7 ∧ N ≤ 401 ∧ On p st N ∧ ∀ l rs H', H l = none → H' l = some (.lst (rs.map V.ref)) → TTs H' rs (planF p st N) → Same H H' → Q (.ref l) H'
def spIsBar : Sp := fun vs H Q _ => ∃ (b a : Addr) (L st : List Int) (j : Nat), vs = [.ref b, .ref a, .int j] ∧ H b = some (.tup (L.map V.int)) ∧ H a = some (.tup (st.map V.int)) ∧ j < L.length ∧ L.length ≤ st.length ∧ st.length ≤ 8 ∧ ∀ H', Same H H' → Q (.bl (decide ((rk st).getD j 0 > L.getD j 0))) H'
def spBar : Sp := fun vs H Q _ => ∃ (b a : Addr) (L st : List Int), vs = [.ref b, .ref a] ∧ H b = some (.tup (L.map V.int)) ∧ H a = some (.tup (st.map V.int)) ∧ L.length ≤ st.length ∧ st.length ≤ 8 ∧ ¬ CovL L (rk st) ∧ ∀ H', Same H H' → Q (.int (fb L (rk st))) H'
def spFew : Sp := fun vs H Q _ => ∃ (a : Addr) (p : Nat) (st : List Int), vs = [.ref a] ∧ H a = some (.tup (st.map V.int)) ∧ Stand p st ∧ ∀ N t l rs H', Lvl p (rk st) N → N ≤ 401 → H t = none → H l = none → t ≠ l → H' t = some (.tup [.int N, .ref l, ovV (barF p st N)]) → H' l = some (.lst (rs.map V.ref)) → TTs H' rs (planF p st N) → Same H H' → Q (.ref t) H'
end Lv

set_option Elab.async false
set_option linter.all false
set_option maxRecDepth 100000
set_option maxHeartbeats 4000000
namespace Lv
open PySem L2
/-! ### a phase comes down by one level at most -/
end Lv

set_option Elab.async false
set_option linter.all false
set_option maxRecDepth 100000
set_option maxHeartbeats 4000000
namespace Lv
open PySem L2
/-! ### covering, by how many are greater -/
/-! ### a phase of the plan comes down by just one level -/
/-! ### sums -/
/-! ### levels below 61 are small -/
/-! ### one row more -/
end Lv

set_option Elab.async false
set_option linter.all false
set_option maxRecDepth 100000
set_option maxHeartbeats 4000000
namespace L2
open PySem PySem.Spec PyProof.Rows
section
variable {X : Cx}
/-- try: .. except ..: whose suite doesn't raise -/
theorem ps_tryN {body : List Stmt} {h₀ : ExceptHandler} {hs : List ExceptHandler} {pos : Pos} {t : TS} (hb : PSs X.nox body t) : PS X (.Try body (h₀ :: hs) [] [] pos) t := by
  intro pins s σ H D I h
  refine wpAny_Try_except (wpAny_mono (hb pins s σ H D (I.wish _) h) (fun f s1 q => ?_) fun _ _ z => False.elim z)
  have q' := q.unwish
  cases f with
  | next =>
    obtain ⟨σ', H', I', r⟩ := q'
    exact wpAny_execs_nil ⟨σ', H', I', r⟩
  | brk => exact q'
  | cont => exact q'
  | ret u => exact q'
end
end L2

set_option Elab.async false
set_option linter.all false
set_option maxRecDepth 100000
set_option maxHeartbeats 4000000
namespace Lv
open PySem L2
theorem kitLT_list {K : PySem.W.Frag} : PySem.W.kitAny K (.type "list") (["list", "tuple"].map Value.type) = some true := by with_unfolding_all rfl
def spListed : Sp := fun vs H Q _ => ∃ (a : Addr) (xs : List V), vs = [.ref a] ∧ H a = some (.lst xs) ∧ ∀ H', Same H H' → Q (.bl true) H'
def spTupOf : Sp := fun vs H Q _ => ∃ (a : Addr) (xs : List V) (n : Int), vs = [.ref a, .int n] ∧ H a = some (.tup xs) ∧ (xs.length : Int) = n ∧ Q (.bl true) H
def spIsPh : Sp := fun vs H Q _ => ∃ (a q : Addr) (c : List Int) (out : Nat) (m : Int), vs = [.ref a, .ref q] ∧ H a = some (.tup (c.map V.int)) ∧ H q = some (.tup [.int out, .int m]) ∧ out < c.length ∧ c[out]? = some 0 ∧ 1 ≤ m ∧ m ≤ mxl c ∧ (∀ x ∈ c, 0 ≤ x) ∧ Q (.bl true) H
def spPhDone : Sp := fun vs H Q _ => ∃ (a q : Addr) (p : Nat) (c : List Int) (out : Nat) (m : Int), vs = [.ref a, .ref q] ∧ H a = some (.tup (c.map V.int)) ∧ H q = some (.tup [.int out, .int m]) ∧ Stand p c ∧ out < c.length ∧ c[out]? = some 0 ∧ 1 ≤ m ∧ m ≤ mxl c ∧ ∀ l H', H l = none → H' l = some (.tup ((behindP c out m).map V.int)) → Same H H' → Q (.ref l) H'
def spPlDone : Sp := fun vs H Q _ => ∃ (a b : Addr) (p N : Nat) (st : List Int) (rs : List Addr), vs = [.ref a, .ref b] ∧ H a = some (.tup (st.map V.int)) ∧ H b = some (.lst (rs.map V.ref)) ∧ TTs H rs (planF p st N) ∧ Stand p st ∧ Lvl p (rk st) N ∧ N ≤ 401 ∧ ∀ l (c : List Int) H', H' l = some (.tup (c.map V.int)) → c.sum = 1 → Same H H' → Q (.ref l) H'
def spIsPl : Sp := fun vs H Q _ => ∃ (a b : Addr) (p N : Nat) (st : List Int) (rs : List Addr), vs = [.ref a, .ref b] ∧ H a = some (.tup (st.map V.int)) ∧ H b = some (.lst (rs.map V.ref)) ∧ TTs H rs (planF p st N) ∧ Stand p st ∧ Lvl p (rk st) N ∧ N ≤ 401 ∧ ∀ H', Same H H' → Q (.bl true) H'
def spPhR : Sp := fun vs H Q _ => ∃ (a t l : Addr) (p N : Nat) (st : List Int) (rs : List Addr), vs = [.ref a, .ref t] ∧ H a = some (.tup (st.map V.int)) ∧ Stand p st ∧ Lvl p (rk st) N ∧ N ≤ 401 ∧ H t = some (.tup [.int N, .ref l, ovV (barF p st N)]) ∧ H l = some (.lst (rs.map V.ref)) ∧ TTs H rs (planF p st N) ∧ ∀ H', Same H H' → Q (.bl true) H'
/-- on the way by a plan: what is left of it -/
theorem plan_drop {p N i n : Nat} {st c : List Int} (h : (planF p st N).drop i = planF p c (n + 1)) : (planF p st N)[i]? = some [((c.idxOf 0 : Nat) : Int), ph p c n] ∧ (planF p st N).drop (i + 1) = planF p (nxt p c n) n := by
  refine ⟨?_, ?_⟩
  · have : (planF p st N)[i]? = ((planF p st N).drop i)[0]? := by rw [List.getElem?_drop]; simp
    rw [this, h]
    rfl
  · rw [← List.tail_drop, h]
    rfl
end Lv

set_option Elab.async false
set_option linter.all false
set_option maxRecDepth 100000
set_option maxHeartbeats 4000000
namespace L2
open PySem PySem.Spec PyProof.Rows
/-! ### runs that leave every object's dict as it is -/
end L2

set_option Elab.async false
set_option linter.all false
set_option maxRecDepth 100000
set_option maxHeartbeats 4000000
namespace L2
open PySem PySem.Spec PyProof.Rows
/-! ### exceptions: how one lies in the heap while it flies -/
/-- the exception at ea of the class cls with the own dict od, its traceback at T: both new since h0, neither tracked -/
def Fly (H : Hp) (h0 h : Heap) (ea : Addr) (cls : Value) (od : Option Addr) (fl : Value) : Prop :=
  ∃ (a0 : Value) (T : Addr) (oe oT : Obj) (vs ts : Array Value), (H ea = none ∧ H T = none ∧ h0.get? ea = none ∧ h0.get? T = none) ∧
    h.get? ea = some oe ∧ ((oe.cls = cls ∧ vs[0]? = some a0) ∧ oe.dict = od) ∧ oe.data = .fields vs ∧ vs[1]? = some (.ref T) ∧ T ≠ ea ∧ h.get? T = some oT ∧ oT.data = .fields ts ∧ ts[3]? = some fl
/-- behind a call that ends by an exception -/
def CX1 (P : Program) (w : World) : CXT := fun outer H s E e s' => ∃ (ea : Addr) (cls : Value) (od : Option Addr) (H' : Hp), e = .ref ea ∧ s'.os = s.os ∧ AllBare s'.gens ∧ Un (frs outer) [] H H' s.heap s'.heap ∧ HOk P w H' s'.heap ∧ Fly H' s.heap s'.heap ea cls od .none ∧ E cls od H'
/-! ### a def that lets exceptions leave -/
section
variable {P : Program} {w : World} {K : PySem.W.Frag} {mg : Str → Option Value} {base : Heap} {N : List Str} {qual : Str} {scope : Scope} {f : Addr} {cd : Value} {A : Around} {outer : List Env} {s : Shared} {H : Hp} {E : XK}
end
end L2

set_option Elab.async false
set_option linter.all false
set_option maxRecDepth 100000
set_option maxHeartbeats 4000000
namespace L2
open PySem PySem.Spec PyProof.Rows PySem.W
section
variable {prog : Program} {w : World} {A : Around} {E : Value → Shared → Prop} {s : Shared} {K : Frag} {x C D : Addr} {ox : Obj}
/-- what the text's own exception class is like -/
def excRest (K : Frag) (C : Addr) : Bool := findIn K (.ref C) "__getattribute__" == some (some (.builtin "BaseException.__getattribute__")) && (findIn K (.ref C) "__getattr__" == some none &&
  (findIn K (.ref C) "__class__" == some (some (.builtin "object.__class__")) && (mroIn K C (.type "object") == some true && (mroIn K C (.type "BaseException") == some true && ((clsIn K C).isSome &&
  (specialIn K (.builtin "object.__class__") "__get__" == some (some (.builtin "getset_descriptor.__get__")) && takesIn K (.builtin "object.__class__") == some true))))))
def excAll (K : Frag) (C : Addr) : Bool := excIn K C [.type "ValueError", .type "Exception", .type "BaseException", .type "object"] "ValueError.__new__" && excRest K C
end
section
variable {X : Cx}
end
end L2

set_option Elab.async false
set_option linter.all false
set_option maxRecDepth 100000
set_option maxHeartbeats 4000000
namespace L2
open PySem PySem.Spec PyProof.Rows PySem.W
/-! ### defs that may raise -/
section
variable {P : Program} {w : World} {K : PySem.W.Frag} {mg : Str → Option Value} {base : Heap}
end
/-- a def of the text that may raise, called by its name -/
structure CalE (P : Program) (w : World) (K : PySem.W.Frag) (mg : Str → Option Value) (base : Heap) (k : Nat) (x : Str) (ps : List Str) (dvs : List V) (sp : Sp) (f : Addr) (fd : FuncData) : Prop where
  ok : FnOk P w K mg base (CX1 P w) k f fd ps sp
  mg : mg x = some (.ref f)
  kp : PySem.W.keepIn K (.ref f) = true
  bd : ∃ ds, Binds K fd ps ds ∧ Vals dvs ds
section
variable {X : Cx}
/-! ### f'..' of texts and ints: some text -/
inductive FParts (X : Cx) : List Expr → List TE → Prop
  | nil : FParts X [] []
  | con {x : Str} {j pos} {es : List Expr} {ts : List TE} (h : x.length ≤ 1000) (r : FParts X es ts) : FParts X (.Constant (.str x) j pos :: es) ts
  | val {v : Expr} {t : TE} {pos : Pos} {es : List Expr} {ts : List TE} (h : PE X v t) (r : FParts X es ts) : FParts X (.FormattedValue v (-1) none pos :: es) (t :: ts)
/-! ### raise -/
end
/-! ### try: .. except C as e: .. -/
section
variable {X : Cx} {pins : List (Addr × Obj)} {σ : St} {H : Hp} {s : Shared}
end
/-- the ends of a suite, the name gone behind it -/
def Ends.without (D : Ends) (i : Nat) : Ends := { nx := fun σ H => D.nx (σ.set i none) H, rt := D.rt, bk := fun σ H => D.bk (σ.set i none) H, ct := fun σ H => D.ct (σ.set i none) H }
section
variable {X : Cx}
end
end L2

set_option Elab.async false
set_option linter.all false
set_option maxRecDepth 100000
set_option maxHeartbeats 4000000
namespace Lv
open PySem L2 PySem.W
/-! ### the text's own exceptions -/
structure ExcTab (K : Frag) (reel C : Addr) (all : List Addr) : Prop where
  ok : excAll K C = true
  exm : exmOne K (.ref C) (.ref reel) = some true
  isR : kitOne K (.ref C) (.ref reel) = some true
  isV : kitOne K (.ref C) (.type "ValueError") = some true
  one : ∀ D ∈ all, kitOne K (.ref C) (.ref D) = some (D == C)
/-- the classes: their places and names -/
structure Excs (K : Frag) (mg : Str → Option Value) where
  reel : Addr
  nWays : Addr
  nRoom : Addr
  nLevel : Addr
  nStand : Addr
  tMany : Addr
  tFew : Addr
  nPlace : Addr
  nText : Addr
  nLine : Addr
  nBack : Addr
  nPhase : Addr
  clash : Addr
  mReel : mg "ReelError" = some (.ref reel)
  mWays : mg "NoWays" = some (.ref nWays)
  mRoom : mg "NoRoom" = some (.ref nRoom)
  mLevel : mg "NoLevel" = some (.ref nLevel)
  mStand : mg "NoStanding" = some (.ref nStand)
  mMany : mg "TooMany" = some (.ref tMany)
  mFew : mg "TooFew" = some (.ref tFew)
  mPlace : mg "NoPlace" = some (.ref nPlace)
  mText : mg "NoText" = some (.ref nText)
  mLine : mg "NoLine" = some (.ref nLine)
  mBack : mg "NoBack" = some (.ref nBack)
  mPhase : mg "NoPhase" = some (.ref nPhase)
  mClash : mg "Clash" = some (.ref clash)
  nd : ([nWays, nRoom, nLevel, nStand, tMany, tFew, nPlace, nText, nLine, nBack, nPhase, clash] : List Addr).Nodup
def Excs.all {K : Frag} {mg : Str → Option Value} (X : Excs K mg) : List Addr := [X.nWays, X.nRoom, X.nLevel, X.nStand, X.tMany, X.tFew, X.nPlace, X.nText, X.nLine, X.nBack, X.nPhase, X.clash]
/-! ### any thing -/
def anT : List String := ["NoneType", "bool", "int", "str", "list", "tuple", "dict"]
/-- a thing and its type -/
structure Thing (K : Frag) (H : Hp) (v : V) (T : String) : Prop where
  ty : TyOf K H v (.type T)
  mem : T ∈ anT
/-- no whole number from lo to hi -/
def NotIn (lo hi : Int) (v : V) (T : String) : Prop := T ≠ "int" ∨ ∃ i, v = .int i ∧ ¬ (lo ≤ i ∧ i ≤ hi)
end Lv
namespace Lv
open PySem L2 PySem.W
end Lv
namespace Lv
open PySem L2 PySem.W
end Lv
namespace Lv
open PySem L2 PySem.W
end Lv
namespace L2
open PySem PySem.Spec PyProof.Rows PySem.W
end L2
namespace Lv
open PySem L2 PySem.W
end Lv

set_option Elab.async false
set_option linter.all false
set_option maxRecDepth 100000
set_option maxHeartbeats 4000000
namespace L2
open PySem PySem.Spec PyProof.Rows PySem.W
/-! ### errors with an own __init__ that keeps what it is handed -/
abbrev VB : List Value := [.type "ValueError", .type "Exception", .type "BaseException", .type "object"]
/-- the class at C -/
def excInI (K : Frag) (C : Addr) : Bool := match K.lookup C with
  | some ⟨.type "type", _, .cls cd, sl⟩ => (match cd.mro, sl.toList with
    | .ref D :: bm, [_, _, _, _, some (.builtin n), _] => D == C && (n == "ValueError.__new__" && (!cd.hasDel && (tailIn K VB bm && (nsOkIn K cd.ns && cd.hasDict))))
    | _, _ => false)
  | _ => false
def excAllI (K : Frag) (C fI : Addr) : Bool := excInI K C && (excRest K C && (findIn K (.ref C) "__setattr__" == some (some (.builtin "object.__setattr__")) && (findIn K (.ref C) "at" == some none && (isFn K (.ref fI) && (keepIn K (.ref C) && findIn K (.ref C) "__init__" == some (some (.ref fI)))))))
section
variable {prog : Program} {w : World} {A : Around} {E : Value → Shared → Prop} {s : Shared} {K : Frag} {x C fI : Addr} {v : Value}
/-- the object that __new__ makes -/
abbrev newExc (C t : Addr) : Obj := { cls := .ref C, data := .fields #[.ref t, .none, .none, .none, .bool false, .none] }
end
end L2

set_option Elab.async false
set_option linter.all false
set_option maxRecDepth 100000
set_option maxHeartbeats 4000000
namespace L2
open PySem PySem.Spec PyProof.Rows PySem.W
/-! ### the rules: self.at = v in __init__, raise C(v), e.at -/
section
variable {X : Cx} {o value : Expr} {pos pos' : Pos} {ta tv : TE} {C fI : Addr}
end
end L2

set_option Elab.async false
set_option linter.all false
set_option maxRecDepth 100000
set_option maxHeartbeats 4000000
namespace Lv
open PySem L2 PySem.W
structure ExcTabI (K : Frag) (reel C fI : Addr) (all : List Addr) : Prop where
  ok : excAllI K C fI = true
  exm : exmOne K (.ref C) (.ref reel) = some true
  exmS : exmOne K (.ref C) (.ref C) = some true
  isR : kitOne K (.ref C) (.ref reel) = some true
  isV : kitOne K (.ref C) (.type "ValueError") = some true
  one : ∀ D ∈ all, kitOne K (.ref C) (.ref D) = some (D == C)
end Lv

set_option Elab.async false
set_option linter.all false
set_option maxRecDepth 100000
set_option maxHeartbeats 4000000
namespace Lv
open PySem L2
/-- a phase of these counts -/
def PhOk (c : List Int) (out m : Int) : Prop := (0 ≤ out ∧ out < (c.length : Int)) ∧ (c.getD out.toNat 0 ≤ 0 ∧ (1 ≤ m ∧ m ≤ mxl c))
instance (c : List Int) (out m : Int) : Decidable (PhOk c out m) := by unfold PhOk; infer_instance
def spPlaceB : Sp := fun vs H Q _ => ∃ i n : Int, vs = [.int i, .int n] ∧ Q (.bl (decide (0 ≤ i ∧ i < n))) H
end Lv

set_option Elab.async false
set_option linter.all false
set_option maxRecDepth 100000
set_option maxHeartbeats 4000000
namespace Lv
open PySem L2
/-! ### plans: lists of pairs of ints -/
def prT (p : Int × Int) : List Int := [p.1, p.2]
/-- the walk -/
def wk : List Int → List (Int × Int) → Nat → Except Nat (List Int)
  | c, [], _ => .ok c
  | c, (o, m) :: r, i => if PhOk c o m then wk (behindP c o.toNat m) r (i + 1) else .error i
def fin (c : List Int) (ps : List (Int × Int)) : Except Nat (List Int) := match wk c ps 0 with
  | .ok d => if 1 < d.sum then .error ps.length else .ok d
  | .error i => .error i
/-- on the way: i phases are done, and c is what they left -/
structure Way (c0 : List Int) (ps : List (Int × Int)) (i : Nat) (c : List Int) : Prop where
  wk : wk c0 ps 0 = wk c (ps.drop i) i
  len : c.length = c0.length
  nn : ∀ x ∈ c, 0 ≤ x
/-- counts that a plan leads through -/
structure Cts (p : Nat) (c : List Int) : Prop where
  len : c.length = p + 1
  nn : ∀ x ∈ c, 0 ≤ x
  le : ∀ x ∈ c, x ≤ big
  pos : ∃ x ∈ c, 1 ≤ x
end Lv

set_option Elab.async false
set_option linter.all false
set_option maxRecDepth 100000
set_option maxHeartbeats 4000000
namespace Lv
open PySem L2
/-! ### plans whose pairs are bounded -/
/-! ### what is right -/
theorem On.ok {p : Nat} (hp : 2 ≤ p) {c : List Int} {n k : Nat} (h : On p c (n + 1)) (hk : k < c.length) (h0 : c[k]? = some 0) : PhOk c k (Lv.ph p c n) := by
  obtain ⟨p1, p2⟩ := h.ph hp (k := n)
  refine ⟨⟨by omega, by omega⟩, ?_, p1, p2⟩
  rw [Int.toNat_natCast, List.getD_eq_getElem?_getD, h0]
  exact Int.le_refl _
/-- the told plan, as pairs -/
theorem planF_ps {p : Nat} (hp : 2 ≤ p) : ∀ (N : Nat) {c : List Int} (i : Nat), On p c N → ∃ ps : List (Int × Int), planF p c N = ps.map prT ∧ ps.length = N ∧ (∃ d, wk c ps i = .ok d ∧ d.sum = 1)
  | 0, c, i, h => ⟨[], rfl, rfl, c, rfl, h.one⟩
  | n + 1, c, i, h => by
    obtain ⟨o1, o2⟩ := h.out
    obtain ⟨ps, e1, e2, d, e3, e4⟩ := planF_ps hp n (i + 1) (h.step hp)
    refine ⟨(((c.idxOf 0 : Nat) : Int), ph p c n) :: ps, by rw [planF, e1]; rfl, by simp [e2], d, ?_, e4⟩
    rw [wk, if_pos (h.ok hp o1 o2), Int.toNat_natCast]
    exact e3
/-! ### promises -/
end Lv

set_option Elab.async false
set_option linter.all false
set_option maxRecDepth 100000
set_option maxHeartbeats 4000000
namespace Lv
open PySem L2
/-! ### rows played, in plain Lean -/
def srt (xs : List Int) : List Int := xs.mergeSort fun a b => decide (a ≤ b)
theorem srt_perm (xs : List Int) : (srt xs).Perm xs := List.mergeSort_perm _ _
theorem srt_up (xs : List Int) : (srt xs).Pairwise (· ≤ ·) := by
  have h := List.pairwise_mergeSort (le := fun a b : Int => decide (a ≤ b)) (fun a b c h1 h2 => by simp at *; omega) (fun a b => by simp; omega) xs
  exact h.imp fun h => by simpa using h
theorem srt_of {ms xs : List Int} (h : ms.Perm xs) (hs : ms.Pairwise (· ≤ ·)) : ms = srt xs := srt_eq (h.trans (srt_perm xs).symm) hs (srt_up xs)
/-- the real ones -/
def rl90 (cs : Rows) : List (List Int) := cs.filterMap id
def mrg (cs : Rows) : Option (List Int) := if rl90 cs = [] then none else some (srt (rl90 cs).flatten)
def tkA (D : List Rows) (m i : Nat) : Rows := D.filterMap fun r => (r.take m)[i]?
def phR (D : List Rows) (o m : Nat) : List Rows := (D.map (·.drop m)).set o ((List.range m).map fun i => mrg (tkA D m i))
def thg (cs : Rows) : Int := ((rl90 cs).map fun xs => (xs.length : Int)).sum
def lns (D : List Rows) : List Int := D.map fun r => (r.length : Int)
/-- all things -/
def allT (D : List Rows) : List Int := (rl90 D.flatten).flatten
theorem rl_app (a b : Rows) : rl90 (a ++ b) = rl90 a ++ rl90 b := List.filterMap_append
theorem allT_cons (r : Rows) (D : List Rows) : allT (r :: D) = (rl90 r).flatten ++ allT D := by
  unfold allT
  rw [List.flatten_cons, rl_app, List.flatten_append]
theorem mrg_things (cs : Rows) : ((mrg cs).toList.flatten).Perm (rl90 cs).flatten := by
  unfold mrg
  by_cases h : rl90 cs = []
  · rw [if_pos h, h]
    exact List.Perm.refl _
  · rw [if_neg h]
    show ((srt (rl90 cs).flatten) ++ []).Perm _
    rw [List.append_nil]
    exact srt_perm _
theorem rl_map (f : Nat → Option (List Int)) : ∀ (is : List Nat), (rl90 (is.map f)).flatten = (is.map fun i => (f i).toList.flatten).flatten
  | [] => rfl
  | i :: is => by
    have ih := rl_map f is
    rw [List.map_cons, List.map_cons, List.flatten_cons, ← ih]
    unfold rl90
    rw [List.filterMap_cons]
    cases f i with
    | none => rfl
    | some xs =>
      show xs ++ _ = (xs ++ []) ++ _
      rw [List.append_nil]
/-- one row of all places: what stands at each -/
theorem take_at (r : Rows) : ∀ m, ((List.range m).map fun i => rl90 ((r.take m)[i]?.toList)).flatten = rl90 (r.take m)
  | 0 => by simp [rl90]
  | m + 1 => by
    have ih := take_at r m
    rw [List.range_succ, List.map_append, List.flatten_append]
    have e1 : ((List.range m).map fun i => rl90 ((r.take (m + 1))[i]?.toList)) = (List.range m).map fun i => rl90 ((r.take m)[i]?.toList) := by
      refine List.map_congr_left fun i hi => ?_
      have hi' := List.mem_range.mp hi
      rw [List.getElem?_take, List.getElem?_take, if_pos (by omega), if_pos hi']
    rw [e1, ih]
    show rl90 (r.take m) ++ (rl90 ((r.take (m + 1))[m]?.toList) ++ []) = _
    rw [List.append_nil, ← rl_app]
    congr 1
    rw [List.getElem?_take, if_pos (by omega), List.take_add_one]
theorem zip_perm {α : Type} (f g : Nat → List α) : ∀ (is : List Nat), ((is.map fun i => f i ++ g i).flatten).Perm ((is.map f).flatten ++ (is.map g).flatten)
  | [] => List.Perm.refl _
  | i :: is => by
    have ih := zip_perm f g is
    rw [List.map_cons, List.map_cons, List.map_cons, List.flatten_cons, List.flatten_cons, List.flatten_cons]
    refine ((ih.append_left (f i ++ g i))).trans ?_
    rw [List.append_assoc, List.append_assoc]
    refine List.Perm.append_left _ ?_
    rw [← List.append_assoc, ← List.append_assoc]
    exact List.Perm.append_right _ List.perm_append_comm
theorem tk_perm (m : Nat) : ∀ D : List Rows, (((List.range m).map fun i => rl90 (tkA D m i)).flatten).Perm ((D.map fun r => rl90 (r.take m)).flatten)
  | [] => by
    have : ((List.range m).map fun i => rl90 (tkA [] m i)).flatten = [] := by
      rw [List.flatten_eq_nil_iff]
      intro x hx
      obtain ⟨i, _, rfl⟩ := List.mem_map.mp hx
      rfl
    rw [this]
    exact List.Perm.refl _
  | r :: D => by
    have ih := tk_perm m D
    have e : ((List.range m).map fun i => rl90 (tkA (r :: D) m i)) = (List.range m).map fun i => rl90 ((r.take m)[i]?.toList) ++ rl90 (tkA D m i) := by
      refine List.map_congr_left fun i _ => ?_
      rw [← rl_app]
      congr 1
      unfold tkA
      rw [List.filterMap_cons]
      cases (r.take m)[i]? <;> rfl
    rw [e, List.map_cons, List.flatten_cons]
    refine (zip_perm _ _ _).trans ?_
    rw [take_at]
    exact ih.append_left _
theorem flat_map_perm {f g : Nat → List Int} : ∀ {is : List Nat}, (∀ i ∈ is, (f i).Perm (g i)) → ((is.map f).flatten).Perm ((is.map g).flatten)
  | [], _ => List.Perm.refl _
  | i :: is, h => by
    rw [List.map_cons, List.map_cons, List.flatten_cons, List.flatten_cons]
    exact (h i List.mem_cons_self).append (flat_map_perm fun j hj => h j (List.mem_cons_of_mem _ hj))
theorem allT_set : ∀ {D : List Rows} {o : Nat} {r : Rows}, D[o]? = some [] → (allT (D.set o r)).Perm ((rl90 r).flatten ++ allT D)
  | d :: D, 0, r, h => by
    have : d = [] := by simpa using h
    subst this
    show (allT (r :: D)).Perm _
    rw [allT_cons, allT_cons]
    exact List.Perm.refl _
  | d :: D, o + 1, r, h => by
    have ih := allT_set (D := D) (o := o) (r := r) (by simpa using h)
    show (allT (d :: D.set o r)).Perm _
    rw [allT_cons, allT_cons]
    refine (ih.append_left _).trans ?_
    rw [← List.append_assoc, ← List.append_assoc]
    exact List.Perm.append_right _ List.perm_append_comm
theorem split_perm (m : Nat) : ∀ D : List Rows, (allT D).Perm (((D.map fun r => rl90 (r.take m)).flatten).flatten ++ allT (D.map (·.drop m)))
  | [] => List.Perm.refl _
  | r :: D => by
    have ih := split_perm m D
    rw [allT_cons, List.map_cons, List.map_cons, allT_cons, List.flatten_cons, List.flatten_append]
    have e : (rl90 r).flatten = (rl90 (r.take m)).flatten ++ (rl90 (r.drop m)).flatten := by
      rw [← List.flatten_append, ← rl_app, List.take_append_drop]
    rw [e, List.append_assoc, List.append_assoc]
    refine List.Perm.append_left _ ?_
    refine (ih.append_left _).trans ?_
    rw [← List.append_assoc, ← List.append_assoc]
    exact List.Perm.append_right _ List.perm_append_comm
theorem ph_things {D : List Rows} {o m : Nat} (h : D[o]? = some []) : (allT (phR D o m)).Perm (allT D) := by
  unfold phR
  have h' : (D.map (·.drop m))[o]? = some [] := by rw [List.getElem?_map, h]; simp
  refine (allT_set h').trans ?_
  refine List.Perm.trans ?_ (split_perm m D).symm
  refine List.Perm.append_right _ ?_
  rw [rl_map]
  refine (flat_map_perm fun i _ => mrg_things _).trans ?_
  have e : ((List.range m).map fun i => (rl90 (tkA D m i)).flatten).flatten = (((List.range m).map fun i => rl90 (tkA D m i)).flatten).flatten := by
    rw [List.flatten_flatten, List.map_map]
    rfl
  rw [e]
  exact (tk_perm m D).flatten
/-- all real, each in order -/
def AllS (D : List Rows) : Prop := ∀ r ∈ D, ∀ c ∈ r, ∃ xs : List Int, c = some xs ∧ xs.Pairwise (· ≤ ·)
theorem ph_sorted {D : List Rows} {o m : Nat} (h : AllS D) (hm : ∃ r ∈ D, m ≤ r.length) : AllS (phR D o m) := by
  intro r hr c hc
  rcases List.mem_or_eq_of_mem_set hr with hr | rfl
  · obtain ⟨r', hr', rfl⟩ := List.mem_map.mp hr
    exact h r' hr' c (List.mem_of_mem_drop hc)
  · obtain ⟨i, hi, rfl⟩ := List.mem_map.mp hc
    have hi' := List.mem_range.mp hi
    obtain ⟨r', hr', hl⟩ := hm
    have hx : (r'.take m)[i]? = some r'[i] := by
      rw [List.getElem?_take, if_pos hi', List.getElem?_eq_getElem (by omega)]
    obtain ⟨xs, hxs, _⟩ := h r' hr' r'[i] (List.getElem_mem _)
    have hmem : xs ∈ rl90 (tkA D m i) := by
      unfold rl90 tkA
      rw [List.mem_filterMap]
      exact ⟨some xs, List.mem_filterMap.mpr ⟨r', hr', by rw [hx, hxs]⟩, rfl⟩
    unfold mrg
    rw [if_neg (List.ne_nil_of_mem hmem)]
    exact ⟨_, rfl, srt_up _⟩
theorem lns_ph (D : List Rows) (o m : Nat) : lns (phR D o m) = behindP (lns D) o m := by
  unfold lns phR behindP les
  rw [List.map_set, List.map_map, List.map_map, List.length_map, List.length_range]
  congr 1
  refine List.map_congr_left fun r _ => ?_
  show (((r.drop m).length : Nat) : Int) = if (r.length : Int) - (m : Int) > 0 then (r.length : Int) - (m : Int) else 0
  rw [List.length_drop]
  split <;> omega
theorem lns_sum : ∀ D : List Rows, (lns D).sum = ((D.flatten.length : Nat) : Int)
  | [] => rfl
  | r :: D => by
    have := lns_sum D
    unfold lns at *
    rw [List.map_cons, List.sum_cons, this, List.flatten_cons, List.length_append]
    omega
/-! ### in the heap -/
theorem small15 {n : Nat} (h : n ≤ 15001) : n < sizeLine := by rw [sizeLine_eq]; omega
abbrev refT (T : List Reel) : List V := T.map fun t => V.ref t.1
theorem cOk.same {H H' : Hp} {c : Cell} (h : cOk H c) (s : Same H H') : cOk H' c := h.frame fun x _ o e => s x o e
theorem tOk.same {H H' : Hp} {t : Reel} (h : tOk H t) (s : Same H H') : tOk H' t := h.frame fun x _ o e => s x o e
theorem cOk.off {H : Hp} {c : Cell} {a : Addr} {o : HO} (h : cOk H c) (n : a ∉ cA c) : cOk (upd H a o) c := h.frame fun x hx q e => by rw [upd_ne fun z => n (by rw [← z]; exact hx)]; exact e
theorem cOk.has {H : Hp} {c : Cell} (h : cOk H c) : ∀ r ∈ cA c, H r ≠ none := fun r hr z => by
  cases c with
  | none => simp [cA] at hr
  | some q =>
    have : r = q.1 := by simpa [cA] using hr
    subst this
    have h' : H q.1 = some (.lst (q.2.map V.int)) := h
    rw [h'] at z
    cases z
theorem tOk.has {H : Hp} {t : Reel} (h : tOk H t) : ∀ r ∈ tA t, H r ≠ none := fun r hr z => by
  rcases List.mem_cons.mp hr with rfl | hr
  · rw [h.1] at z; cases z
  · obtain ⟨c, hc, hrc⟩ := List.mem_flatMap.mp hr
    exact (h.2 c hc).has r hrc z
theorem tOk.off {H : Hp} {t : Reel} {a : Addr} {o : HO} (h : tOk H t) (n : a ∉ tA t) : tOk (upd H a o) t := h.frame fun x hx q e => by rw [upd_ne fun z => n (by rw [← z]; exact hx)]; exact e
/-- a comprehension whose things are rows, or None: of a list or a tuple -/
theorem comp_cells {b : Bool} {K : PySem.W.Frag} {own : List Str} {js : List Nat} {g : TG} {te : TE} {σ : L2.St} {H1 : Hp} {Q : VK} {a : Addr} {xs : List V} (F : Nat → Option (List Int)) (O : Addr → Prop) (hO : ∀ x, O x → H1 x ≠ none) (hq : SqB b K H1 a xs) (hlen : xs.length ≤ 15000)
    (hs : ∀ (i : Nat) x, xs[i]? = some x → ∀ H, Same H1 H → ∀ R : VK, (∀ c H', cOk H' c → cD c = F i → (∀ r ∈ cA c, H r = none ∨ O r) → Same H H' → R (cV c) H') → g x (blkσ own js σ) H fun τ H4 => te τ H4 R)
    (hd : ∀ acc cs H, H1 acc = none → tOk H (acc, cs) → cs.map cD = (List.range xs.length).map F → acc ∉ cs.flatMap cA → (∀ x ∈ cs.flatMap cA, H1 x = none ∨ O x) → Same H1 H → Q (.ref acc) H) : tCompW own js g tTrue te σ (ItlB b K a) H1 Q := by
  refine comp_seqB (b := b) (K := K) (a := a) (xs := xs) (fun acc i H => ∃ cs : List Cell, H acc = some (.lst (cs.map cV)) ∧ (∀ c ∈ cs, cOk H c) ∧ cs.map cD = (List.range i).map F ∧ acc ∉ cs.flatMap cA ∧ Same H1 H ∧ ∀ x ∈ cs.flatMap cA, H1 x = none ∨ O x) (fun acc h0 => ⟨[], upd_same, fun c hc => by simp at hc, rfl, by simp, Same.new h0, fun x hx => by simp at hx⟩) (fun acc i H h0 _ z => ?_) ?_ ?_
  · obtain ⟨_, _, _, _, _, s, _⟩ := z
    cases b with
    | true => exact s.seq hq
    | false => exact s.tup hq
  · rintro acc i x H h0 hx ⟨cs, hacc, hok, hD, hn, s1, hO'⟩
    have hi := (List.getElem?_eq_some_iff.mp hx).1
    have hl : cs.length = i := by have := congrArg List.length hD; simpa using this
    refine (cast ?_ (hs i x hx H s1 (fun y H6 => ∃ zs, H6 acc = some (.lst zs) ∧ zs.length < sizeLine ∧ (i + 1 ≤ xs.length ∧ ∃ cs : List Cell, upd H6 acc (.lst (zs ++ [y])) acc = some (.lst (cs.map cV)) ∧ (∀ c ∈ cs, cOk (upd H6 acc (.lst (zs ++ [y]))) c) ∧ cs.map cD = (List.range (i + 1)).map F ∧ acc ∉ cs.flatMap cA ∧ Same H1 (upd H6 acc (.lst (zs ++ [y]))) ∧ ∀ x ∈ cs.flatMap cA, H1 x = none ∨ O x)) fun c H6 ok6 hcD hcA s6 => ?_))
    · unfold tTrue
      simp only [if_true]
    · have nc : acc ∉ cA c := fun z => by
        rcases hcA acc z with y | y
        · rw [hacc] at y; cases y
        · exact hO _ y h0
      refine ⟨_, s6 _ _ hacc, small15 (by rw [List.length_map]; omega), hi, cs ++ [c], by rw [upd_same, List.map_append]; rfl, fun d hd' => ?_, by rw [List.map_append, hD, List.range_succ, List.map_append]; simp [hcD], ?_, (s1.trans s6).put h0, fun x hx => ?_⟩
      · rcases List.mem_append.mp hd' with hd' | hd'
        · exact ((hok d hd').same s6).off fun z => hn (List.mem_flatMap.mpr ⟨d, hd', z⟩)
        · rw [List.mem_singleton.mp hd']
          exact ok6.off nc
      · rw [List.flatMap_append]
        intro z
        rcases List.mem_append.mp z with z | z
        · exact hn z
        · exact nc (by simpa using z)
      · rw [List.flatMap_append] at hx
        rcases List.mem_append.mp hx with hx | hx
        · exact hO' x hx
        · rcases hcA x (by simpa using hx) with y | y
          · exact .inl (s1.free y)
          · exact .inr y
  · rintro acc H h0 ⟨cs, hacc, hok, hD, hn, s1, hO'⟩
    exact hd acc cs H h0 ⟨hacc, hok⟩ hD hn hO' s1
/-- the same over a range -/
theorem comp_cellsR {own : List Str} {js : List Nat} {g : TG} {te : TE} {σ : L2.St} {H1 : Hp} {Q : VK} {lo : Int} {n : Nat} (F : Nat → Option (List Int)) (O : Addr → Prop) (hO : ∀ x, O x → H1 x ≠ none) (hlen : n ≤ 15000)
    (hs : ∀ (i : Nat), i < n → ∀ H, Same H1 H → ∀ R : VK, (∀ c H', cOk H' c → cD c = F i → (∀ r ∈ cA c, H r = none ∨ O r) → Same H H' → R (cV c) H') → g (.int (lo + i)) (blkσ own js σ) H fun τ H4 => te τ H4 R)
    (hd : ∀ acc cs H, H1 acc = none → tOk H (acc, cs) → cs.map cD = (List.range n).map F → acc ∉ cs.flatMap cA → (∀ x ∈ cs.flatMap cA, H1 x = none ∨ O x) → Same H1 H → Q (.ref acc) H) : tCompW own js g tTrue te σ (Itr lo n) H1 Q := by
  refine comp_range (fun acc i H => ∃ cs : List Cell, H acc = some (.lst (cs.map cV)) ∧ (∀ c ∈ cs, cOk H c) ∧ cs.map cD = (List.range i).map F ∧ acc ∉ cs.flatMap cA ∧ Same H1 H ∧ ∀ x ∈ cs.flatMap cA, H1 x = none ∨ O x) (fun acc h0 => ⟨[], upd_same, fun c hc => by simp at hc, rfl, by simp, Same.new h0, fun x hx => by simp at hx⟩) ?_ ?_
  · rintro acc i H h0 hi ⟨cs, hacc, hok, hD, hn, s1, hO'⟩
    have hl : cs.length = i := by have := congrArg List.length hD; simpa using this
    refine (cast ?_ (hs i hi H s1 (fun y H6 => ∃ zs, H6 acc = some (.lst zs) ∧ zs.length < sizeLine ∧ (i + 1 ≤ n ∧ ∃ cs : List Cell, upd H6 acc (.lst (zs ++ [y])) acc = some (.lst (cs.map cV)) ∧ (∀ c ∈ cs, cOk (upd H6 acc (.lst (zs ++ [y]))) c) ∧ cs.map cD = (List.range (i + 1)).map F ∧ acc ∉ cs.flatMap cA ∧ Same H1 (upd H6 acc (.lst (zs ++ [y]))) ∧ ∀ x ∈ cs.flatMap cA, H1 x = none ∨ O x)) fun c H6 ok6 hcD hcA s6 => ?_))
    · unfold tTrue
      simp only [if_true]
    · have nc : acc ∉ cA c := fun z => by
        rcases hcA acc z with y | y
        · rw [hacc] at y; cases y
        · exact hO _ y h0
      refine ⟨_, s6 _ _ hacc, small15 (by rw [List.length_map]; omega), hi, cs ++ [c], by rw [upd_same, List.map_append]; rfl, fun d hd' => ?_, by rw [List.map_append, hD, List.range_succ, List.map_append]; simp [hcD], ?_, (s1.trans s6).put h0, fun x hx => ?_⟩
      · rcases List.mem_append.mp hd' with hd' | hd'
        · exact ((hok d hd').same s6).off fun z => hn (List.mem_flatMap.mpr ⟨d, hd', z⟩)
        · rw [List.mem_singleton.mp hd']
          exact ok6.off nc
      · rw [List.flatMap_append]
        intro z
        rcases List.mem_append.mp z with z | z
        · exact hn z
        · exact nc (by simpa using z)
      · rw [List.flatMap_append] at hx
        rcases List.mem_append.mp hx with hx | hx
        · exact hO' x hx
        · rcases hcA x (by simpa using hx) with y | y
          · exact .inl (s1.free y)
          · exact .inr y
  · rintro acc H h0 ⟨cs, hacc, hok, hD, hn, s1, hO'⟩
    exact hd acc cs H h0 ⟨hacc, hok⟩ hD hn hO' s1
/-- a comprehension whose things are reels -/
theorem comp_reels {b : Bool} {K : PySem.W.Frag} {own : List Str} {js : List Nat} {g : TG} {te : TE} {σ : L2.St} {H1 : Hp} {Q : VK} {a : Addr} {xs : List V} (F : Nat → Rows) (O : Addr → Prop) (hO : ∀ x, O x → H1 x ≠ none) (hq : SqB b K H1 a xs) (hlen : xs.length ≤ 15000)
    (hs : ∀ (i : Nat) x, xs[i]? = some x → ∀ H, Same H1 H → ∀ R : VK, (∀ t H', tOk H' t → t.2.map cD = F i → (∀ r ∈ tA t, H r = none ∨ O r) → Same H H' → R (.ref t.1) H') → g x (blkσ own js σ) H fun τ H4 => te τ H4 R)
    (hd : ∀ acc T H, H1 acc = none → H acc = some (.lst (refT T)) → NRL H T → datT T = (List.range xs.length).map F → acc ∉ adr T → (∀ x ∈ adr T, H1 x = none ∨ O x) → Same H1 H → Q (.ref acc) H) : tCompW own js g tTrue te σ (ItlB b K a) H1 Q := by
  refine comp_seqB (b := b) (K := K) (a := a) (xs := xs) (fun acc i H => ∃ T : List Reel, H acc = some (.lst (refT T)) ∧ NRL H T ∧ datT T = (List.range i).map F ∧ acc ∉ adr T ∧ Same H1 H ∧ ∀ x ∈ adr T, H1 x = none ∨ O x) (fun acc h0 => ⟨[], upd_same, fun c hc => by simp at hc, rfl, by simp [adr], Same.new h0, fun x hx => by simp [adr] at hx⟩) (fun acc i H h0 _ z => ?_) ?_ ?_
  · obtain ⟨_, _, _, _, _, s, _⟩ := z
    cases b with
    | true => exact s.seq hq
    | false => exact s.tup hq
  · rintro acc i x H h0 hx ⟨T, hacc, hok, hD, hn, s1, hO'⟩
    have hi := (List.getElem?_eq_some_iff.mp hx).1
    have hl : T.length = i := by have := congrArg List.length hD; simpa [datT] using this
    refine (cast ?_ (hs i x hx H s1 (fun y H6 => ∃ zs, H6 acc = some (.lst zs) ∧ zs.length < sizeLine ∧ (i + 1 ≤ xs.length ∧ ∃ T : List Reel, upd H6 acc (.lst (zs ++ [y])) acc = some (.lst (refT T)) ∧ NRL (upd H6 acc (.lst (zs ++ [y]))) T ∧ datT T = (List.range (i + 1)).map F ∧ acc ∉ adr T ∧ Same H1 (upd H6 acc (.lst (zs ++ [y]))) ∧ ∀ x ∈ adr T, H1 x = none ∨ O x)) fun t H6 ok6 hcD hcA s6 => ?_))
    · unfold tTrue
      simp only [if_true]
    · have nc : acc ∉ tA t := fun z => by
        rcases hcA acc z with y | y
        · rw [hacc] at y; cases y
        · exact hO _ y h0
      refine ⟨_, s6 _ _ hacc, small15 (by rw [List.length_map]; omega), hi, T ++ [t], by rw [upd_same]; simp [refT], fun d hd' => ?_, ?_, ?_, (s1.trans s6).put h0, fun x hx => ?_⟩
      · rcases List.mem_append.mp hd' with hd' | hd'
        · exact ((hok d hd').same s6).off fun z => hn (List.mem_flatMap.mpr ⟨d, hd', z⟩)
        · rw [List.mem_singleton.mp hd']
          exact ok6.off nc
      · unfold datT at hD ⊢
        rw [List.map_append, hD, List.range_succ, List.map_append]
        simp [hcD]
      · unfold adr at hn ⊢
        rw [List.flatMap_append]
        intro z
        rcases List.mem_append.mp z with z | z
        · exact hn z
        · exact nc (by simpa using z)
      · unfold adr at hx hO'
        rw [List.flatMap_append] at hx
        rcases List.mem_append.mp hx with hx | hx
        · exact hO' x hx
        · rcases hcA x (by simpa using hx) with y | y
          · exact .inl (s1.free y)
          · exact .inr y
  · rintro acc H h0 ⟨T, hacc, hok, hD, hn, s1, hO'⟩
    exact hd acc T H h0 hacc hok hD hn hO' s1
/-! ### promises -/
def spMergeB : Sp := fun vs H Q _ => ∃ (a : Addr) (rs : List Addr) (N : List (List Int)), vs = [.ref a] ∧ RwS H a rs N ∧ (lenN N).sum ≤ 15000 ∧ ∀ l (ms : List Int) H', H l = none → H' l = some (.lst (ms.map V.int)) → ms.Perm N.flatten → ms.Pairwise (· ≤ ·) → Same H H' → Q (.ref l) H'
def spCopyR : Sp := fun vs H Q _ => ∃ c : Cell, vs = [cV c] ∧ cOk H c ∧ ∀ c' H', cD c' = cD c → cOk H' c' → (∀ r ∈ cA c', H r = none) → Same H H' → Q (cV c') H'
def spThinR : Sp := fun vs H Q _ => ∃ (l : Addr) (cs : List Cell), vs = [.ref l] ∧ tOk H (l, cs) ∧ cs.length ≤ 15000 ∧ ∀ H', Same H H' → Q (.int (thg (cs.map cD))) H'
def spIdleR : Sp := fun vs H Q _ => ∃ (l : Addr) (cs : List Cell), vs = [.ref l] ∧ tOk H (l, cs) ∧ cs.length ≤ 15000 ∧ ((rl90 (cs.map cD)).flatten).length ≤ 15000 ∧ ∀ c' H', cD c' = mrg (cs.map cD) → cOk H' c' → (∀ r ∈ cA c', H r = none) → Same H H' → Q (cV c') H'
def spTkAtR : Sp := fun vs H Q _ => ∃ (l : Addr) (T : List Reel) (i : Nat), vs = [.ref l, .int i] ∧ H l = some (.lst (refT T)) ∧ NRL H T ∧ T.length ≤ 20 ∧ ∀ a cs H', H a = none → tOk H' (a, cs) → cs.map cD = (datT T).filterMap (·[i]?) → Same H H' → Q (.ref a) H'
def SzD (D : List Rows) : Prop := D.length ≤ 20 ∧ (∀ r ∈ D, r.length ≤ 15000) ∧ (allT D).length ≤ 15000
def spPhPlR : Sp := fun vs H Q _ => ∃ (l q : Addr) (T : List Reel) (o m : Nat), vs = [.ref l, .ref q] ∧ H l = some (.lst (refT T)) ∧ NRL H T ∧ H q = some (.tup [.int o, .int m]) ∧ o < T.length ∧ m ≤ 15000 ∧ SzD (datT T) ∧
  ∀ t b e T' H', H' t = some (.tup [.ref b, .ref e]) → H' b = some (.lst (refT T')) → NRL H' T' → datT T' = phR (datT T) o m → H' e = some (.lst (((datT T).map fun r => thg (r.take m)).map V.int)) → H e = none → H b = none → b ∉ adr T' → (∀ x ∈ adr T', H x = none ∨ x ∈ adr T) → Same H H' → Q (.ref t) H'
/-! ### many phases -/
def plR : List Rows → List (Int × Int) → List Rows
  | D, [] => D
  | D, (o, m) :: r => plR (phR D o.toNat m.toNat) r
def rdR : List Rows → List (Int × Int) → List (List Int)
  | _, [] => []
  | D, (o, m) :: r => (D.map fun q => thg (q.take m.toNat)) :: rdR (phR D o.toNat m.toNat) r
def Pls : List Rows → List (Int × Int) → Prop
  | _, [] => True
  | D, (o, m) :: r => PhOk (lns D) o m ∧ Pls (phR D o.toNat m.toNat) r
theorem plR_snoc : ∀ (D : List Rows) (ps : List (Int × Int)) (o m : Int), plR D (ps ++ [(o, m)]) = phR (plR D ps) o.toNat m.toNat
  | D, [], o, m => rfl
  | D, (a, b) :: ps, o, m => plR_snoc (phR D a.toNat b.toNat) ps o m
theorem rdR_snoc : ∀ (D : List Rows) (ps : List (Int × Int)) (o m : Int), rdR D (ps ++ [(o, m)]) = rdR D ps ++ [(plR D ps).map fun q => thg (q.take m.toNat)]
  | D, [], o, m => rfl
  | D, (a, b) :: ps, o, m => by
    show _ :: rdR _ (ps ++ [(o, m)]) = _ :: (rdR _ ps ++ _)
    rw [rdR_snoc]
    rfl
theorem Pls.at : ∀ {D : List Rows} {ps : List (Int × Int)}, Pls D ps → ∀ {i : Nat} {o m : Int}, ps[i]? = some (o, m) → PhOk (lns (plR D (ps.take i))) o m
  | D, (a, b) :: ps, h, 0, o, m, e => by
    cases e
    exact h.1
  | D, (a, b) :: ps, h, i + 1, o, m, e => Pls.at (D := phR D a.toNat b.toNat) h.2 (i := i) (by simpa using e)
theorem phok_nat {D : List Rows} {o m : Int} (h : PhOk (lns D) o m) : ∃ (a b : Nat), o = a ∧ m = b ∧ a < D.length ∧ D[a]? = some [] ∧ 1 ≤ b ∧ ∃ r ∈ D, b ≤ r.length := by
  obtain ⟨⟨h1, h2⟩, h3, h4, h5⟩ := h
  have hl : (lns D).length = D.length := by unfold lns; rw [List.length_map]
  have ha : o.toNat < D.length := by omega
  refine ⟨o.toNat, m.toNat, by omega, by omega, ha, ?_, by omega, ?_⟩
  · rw [List.getD_eq_getElem?_getD] at h3
    unfold lns at h3
    rw [List.getElem?_map, List.getElem?_eq_getElem ha] at h3
    have : (D[o.toNat].length : Int) ≤ 0 := h3
    rw [List.getElem?_eq_getElem ha]
    exact congrArg some (List.eq_nil_of_length_eq_zero (by omega))
  · have hne : lns D ≠ [] := fun z => by rw [z] at hl; simp at hl; omega
    have hm := mxl_mem (lns D) (fun x hx => by obtain ⟨r, _, rfl⟩ := List.mem_map.mp hx; omega) hne
    obtain ⟨r, hr, e⟩ := List.mem_map.mp hm
    exact ⟨r, hr, by omega⟩
theorem SzD.ph {D : List Rows} {a b : Nat} (z : SzD D) (h0 : D[a]? = some []) (hb : ∃ r ∈ D, b ≤ r.length) : SzD (phR D a b) := by
  obtain ⟨z1, z2, z3⟩ := z
  refine ⟨by unfold phR; rw [List.length_set, List.length_map]; exact z1, fun r hr => ?_, by rw [(ph_things h0).length_eq]; exact z3⟩
  rcases List.mem_or_eq_of_mem_set hr with hr | rfl
  · obtain ⟨r', hr', rfl⟩ := List.mem_map.mp hr
    have := z2 r' hr'
    rw [List.length_drop]
    omega
  · obtain ⟨r', hr', hl⟩ := hb
    have := z2 r' hr'
    rw [List.length_map, List.length_range]
    omega
theorem plR_all {D : List Rows} : ∀ {ps : List (Int × Int)}, Pls D ps → SzD D → SzD (plR D ps) ∧ (plR D ps).length = D.length ∧ (allT (plR D ps)).Perm (allT D) ∧ (AllS D → AllS (plR D ps)) ∧ (∀ i, wk (lns D) ps i = .ok (lns (plR D ps))) := by
  intro ps
  induction ps generalizing D with
  | nil => intro _ z; exact ⟨z, rfl, List.Perm.refl _, id, fun i => rfl⟩
  | cons q ps ih =>
    obtain ⟨o, m⟩ := q
    intro h z
    obtain ⟨a, b, rfl, rfl, ha, h0, hb1, hb⟩ := phok_nat h.1
    have h2 := h.2
    rw [Int.toNat_natCast, Int.toNat_natCast] at h2
    obtain ⟨i1, i2, i3, i4, i5⟩ := ih h2 (z.ph h0 hb)
    have e : plR D (((a : Int), (b : Int)) :: ps) = plR (phR D a b) ps := by
      show plR (phR D ((a : Int).toNat) ((b : Int).toNat)) ps = _
      rw [Int.toNat_natCast, Int.toNat_natCast]
    rw [e]
    refine ⟨i1, by rw [i2]; unfold phR; rw [List.length_set, List.length_map], i3.trans (ph_things h0), fun s => i4 (ph_sorted s hb), fun i => ?_⟩
    rw [wk, if_pos h.1, Int.toNat_natCast, ← lns_ph]
    exact i5 (i + 1)
theorem pls_of {D : List Rows} : ∀ {ps : List (Int × Int)} {d : List Int} {i : Nat}, wk (lns D) ps i = .ok d → Pls D ps := by
  intro ps
  induction ps generalizing D with
  | nil => intro _ _ _; exact trivial
  | cons q ps ih =>
    obtain ⟨o, m⟩ := q
    intro d i h
    rw [wk] at h
    by_cases hp : PhOk (lns D) o m
    · rw [if_pos hp] at h
      obtain ⟨a, b, rfl, rfl, _⟩ := phok_nat hp
      refine ⟨hp, ?_⟩
      rw [Int.toNat_natCast, ← lns_ph] at h
      rw [Int.toNat_natCast, Int.toNat_natCast]
      exact ih h
    · rw [if_neg hp] at h
      cases h
def spIsPhL : Sp := fun vs H Q _ => ∃ (a q : Addr) (c : List Int) (out m : Int), vs = [.ref a, .ref q] ∧ H a = some (.lst (c.map V.int)) ∧ H q = some (.tup [.int out, .int m]) ∧ c ≠ [] ∧ (∀ x ∈ c, 0 ≤ x) ∧ Q (.bl (decide (PhOk c out m))) H
def spPlayR : Sp := fun vs H Q _ => ∃ (l b : Addr) (T : List Reel) (rs : List Addr) (ps : List (Int × Int)), vs = [.ref l, .ref b] ∧ H l = some (.lst (refT T)) ∧ NRL H T ∧ H b = some (.lst (rs.map V.ref)) ∧ TTs H rs (ps.map prT) ∧ rs.length ≤ 1000 ∧ T ≠ [] ∧ SzD (datT T) ∧ Pls (datT T) ps ∧
  ∀ t bl rl T' es H', H' t = some (.tup [.ref bl, .ref rl]) → H' bl = some (.lst (refT T')) → NRL H' T' → datT T' = plR (datT T) ps → H' rl = some (.lst (es.map V.ref)) → LLs H' es (rdR (datT T) ps) → (∀ x ∈ adr T', H x = none) → Same H H' → Q (.ref t) H'
end Lv

set_option Elab.async false
set_option linter.all false
set_option maxRecDepth 100000
set_option maxHeartbeats 4000000
namespace L2
open PySem PySem.Spec PyProof.Rows PySem.W
/-! ### try: .. except C: .. (the exception has no name) -/
section
variable {X : Cx}
end
end L2

set_option Elab.async false
set_option linter.all false
set_option maxRecDepth 100000
set_option maxHeartbeats 4000000
namespace L2
open PySem PySem.Spec PyProof.Rows
/-! ### closed words: what lies in them is not opened while a term is put together -/
def notStarW : Expr → Bool
  | .Starred .. => false
  | _ => true
theorem star_consW {e : Expr} {es : List Expr} {env : Env} (h : notStarW e = true) : starEach (e :: es) env = (false, eval e env) :: starEach es env := by
  cases e <;> first | rfl | (cases h)
structure WA (X : Cx) (es : List Expr) (t : TA) : Prop where
  out : PA X es t
structure WS (X : Cx) (st : Stmt) (t : TS) : Prop where
  out : PS X st t
structure WSs (X : Cx) (sts : List Stmt) (t : TS) : Prop where
  out : PSs X sts t
section
variable {X : Cx} {st : Stmt} {rest a b : List Stmt} {t u : TS} {c e : Expr} {tc : TT} {pos : Pos} {es : List Expr} {te : TE} {ta : TA}
theorem wss_cons (h1 : WS X st t) (h2 : WSs X rest u) : WSs X (st :: rest) (tSeq t u) := ⟨pss_cons h1.out h2.out⟩
theorem wss_one (h : WS X st t) : WSs X [st] t := ⟨pss_one h.out⟩
theorem wss_nil : WSs X [] tNext := ⟨pss_nil⟩
theorem wss {sts : List Stmt} (h : PSs X sts t) : WSs X sts t := ⟨h⟩
theorem ws_if (hc : PT X c tc) (ha : WSs X a t) (hb : WSs X b u) : WS X (.If c a b pos) (tIfS tc t u) := ⟨ps_if hc ha.out hb.out⟩
theorem ws (h : PS X st t) : WS X st t := ⟨h⟩
theorem wa_nil : WA X [] tNil := ⟨pa_nil⟩
theorem wa_cons (hn : notStarW e = true) (ha : PE X e te) (hr : WA X es ta) : WA X (e :: es) (tCons te ta) := ⟨pa_cons ha hr.out (star_consW hn)⟩
end
section
variable {P : Program} {w : World} {K : PySem.W.Frag} {mg : Str → Option Value} {base : Heap}
theorem okW {x qual : Str} {st : Stmt} {f : Addr} {fd : FuncData} {N ps : List Str} {k : Nat} {sp : Sp} (F : Fun K x qual st f fd) (S : FnScope N ps (defScope st)) (len : ∀ vs H Q E, sp vs H Q E → vs.length = ps.length)
    (hbody : ∀ (cdv : Value) (A : Around) (outer : List Env) (s : Shared) (H : Hp) (vs : List V) (Q : VK) (E : XK), Room k (A.deeper (envOfC qual (defScope st) s.heap.objs.size f cdv)) → sp vs H Q E →
      ∃ t, WSs (cxOf CX0 P w K mg base N qual (defScope st) f cdv A outer s H E).nox (defBody st) t ∧ t { nx := fun _ H' => Q .non H', rt := Q } (start N vs) H) : FnOk P w K mg base CX0 (k + 1) f fd ps sp :=
  F.ok S len fun cdv A outer s H vs Q E hr hsp => by
    obtain ⟨t, h, q⟩ := hbody cdv A outer s H vs Q E hr hsp
    exact ⟨t, h.out, q⟩
end
end L2

set_option Elab.async false
set_option linter.all false
set_option maxRecDepth 100000
set_option maxHeartbeats 4000000
namespace L2
open PySem PySem.Spec PyProof.Rows PySem.SeqAt
/-! ### a dict while a loop walks it -/
section
variable {X : Cx} {pins : List (Addr × Obj)} {σ : St} {H : Hp} {s : Shared} {a : Addr} {u v : HO} {kvs : List (Key × V)}
end
section
variable {X : Cx}
end
/-! ### d.items() -/
section
variable {X : Cx}
end
/-! ### the forms one uses -/
/-! ### dict comprehensions -/
section
variable {prog : Program} {w : World} {A : Around} {R : Result → Shared → Prop} {s : Shared}
end
section
variable {X : Cx} {pins : List (Addr × Obj)} {σ : St} {H H' : Hp} {s s' : Shared} {scope : Scope} {own : List Str} {js : List Nat} {C : Addr} {fp : List Addr}
end
section
variable {X : Cx} {scope : Scope} {own : List Str} {js : List Nat} {kx vx iter target : Expr} {ifs : List Expr} {wi : TI} {g : TG} {tt : TT} {tk tv : TE} {pos : Pos}
end
end L2

set_option Elab.async false
set_option linter.all false
set_option maxRecDepth 100000
set_option maxHeartbeats 4000000
namespace L2
open PySem PySem.Spec PyProof.Rows PySem.SeqAt
section
variable {prog : Program} {w : World} {A : Around} {E : Value → Shared → Prop} {s : Shared} {O : KO}
end
section
variable {X : Cx} {pins : List (Addr × Obj)} {σ : St} {H : Hp} {s : Shared} {h' : Heap}
end
section
variable {X : Cx}
end
end L2

set_option Elab.async false
set_option linter.all false
set_option maxRecDepth 100000
set_option maxHeartbeats 4000000
namespace L2
open PySem PySem.Spec PyProof.Rows
/-! ### a closed word for expressions -/
structure WE (X : Cx) (e : Expr) (t : TE) : Prop where
  out : PE X e t
section
variable {X : Cx} {a b e k v : Expr} {ta tb te tk tv : TE} {pos : Pos} {es : List Expr} {t : TA}
theorem we (h : PE X e te) : WE X e te := ⟨h⟩
theorem we_ix {r : R2} (hr : IxR X r) (ha : WE X a ta) (hb : WE X b tb) (hs : PlainIx b) : WE X (.Subscript a b pos) (tOp r ta tb) := ⟨pe_ix hr ha.out hb.out hs⟩
theorem we_lst (h : WA X es t) : WE X (.List es pos) (tLst t) := ⟨pe_lst h.out⟩
theorem we_tup {x1} (h : WA X es t) : WE X (.Tuple es x1 pos) (tTup t) := ⟨pe_tup h.out⟩
end
end L2

set_option Elab.async false
set_option linter.all false
set_option maxRecDepth 100000
set_option maxHeartbeats 4000000
namespace L2
open PySem PySem.Spec PyProof.Rows PySem.SeqAt
section
variable {X : Cx}
end
end L2

set_option Elab.async false
set_option linter.all false
namespace L2
open PySem PySem.Spec PyProof.Rows PySem.SeqAt
end L2

set_option Elab.async false
set_option linter.all false
set_option maxRecDepth 100000
set_option maxHeartbeats 4000000
namespace L2
open PySem PySem.Spec PyProof.Rows PySem.W
/-! ### defs that may be called in the suite of an except: nothing is known of what is handled -/
structure RoomS (k : Nat) (A : Around) : Prop where
  dp : A.depth + 3 * k + 5 < recursionLimit
  un : A.units + 16 * k + 200 < cLine
  gd : A.guards = some []
structure FnOkS (P : Program) (w : World) (K : PySem.W.Frag) (mg : Str → Option Value) (base : Heap) (CX : CXT) (k : Nat) (f : Addr) (fd : FuncData) (ps : List Str) (sp : Sp) : Prop where
  len : ∀ vs H Q E, sp vs H Q E → vs.length = ps.length
  run : ∀ (A : Around) (outer : List Env) (s : Shared) (H : Hp) (args : Args) (us : List Value) (vs : List V) (Q : VK) (E : XK), RoomS k A → Env0 P w K mg base A outer s H → BindsTo s fd args (ps.zip us) → Vals vs us → sp vs H Q E →
    codeAny (model P w) A (.call (.ref f) args) (CR CX outer P w H s Q E) s
section
variable {P : Program} {w : World} {K : PySem.W.Frag} {mg : Str → Option Value} {base : Heap}
end
/-- a def of the text called by its name, in a suite too -/
structure CalS (P : Program) (w : World) (K : PySem.W.Frag) (mg : Str → Option Value) (base : Heap) (k : Nat) (x : Str) (ps : List Str) (sp : Sp) (f : Addr) (fd : FuncData) : Prop where
  ok : FnOkS P w K mg base CX0 k f fd ps sp
  mg : mg x = some (.ref f)
  kp : PySem.W.keepIn K (.ref f) = true
  bd : Binds K fd ps []
section
variable {X : Cx}
end
end L2

set_option Elab.async false
set_option linter.all false
set_option maxRecDepth 100000
set_option maxHeartbeats 4000000
namespace L2
open PySem PySem.Spec PyProof.Rows
section
variable {X : Cx}
end
end L2

set_option Elab.async false
set_option linter.all false
set_option maxRecDepth 100000
set_option maxHeartbeats 4000000
namespace L2
open PySem PySem.Spec PyProof.Rows PySem.SeqAt
/-! ### xs[::-1] of a list -/
theorem range_pick {α : Type} : ∀ ys : List α, (List.range ys.length).filterMap (ys[·]?) = ys
  | [] => rfl
  | y :: ys => by
    rw [List.length_cons, List.range_succ_eq_map, List.filterMap_cons]
    show y :: (List.map Nat.succ (List.range ys.length)).filterMap ((y :: ys)[·]?) = _
    rw [List.filterMap_map]
    exact congrArg (y :: ·) (range_pick ys)
theorem fm_congr {α β : Type} {f g : α → Option β} : ∀ {l : List α}, (∀ x ∈ l, f x = g x) → l.filterMap f = l.filterMap g
  | [], _ => rfl
  | x :: l, h => by rw [List.filterMap_cons, List.filterMap_cons, h x (by simp), fm_congr fun y hy => h y (by simp [hy])]
theorem slicePick_back (its : List Value) : slicePick its.toArray none none (some (-1)) = its.reverse.toArray := by
  unfold slicePick
  have e1 : sliceBounds none none (some (-1)) its.toArray.size = ((its.length : Int) - 1, -1, -1) := by
    simp [sliceBounds]
  rw [e1]
  have e2 : sliceRange ((its.length : Int) - 1) (-1) (-1) = (List.range its.length).map fun k => its.length - 1 - k := by
    unfold sliceRange
    have : (if (its.length : Int) - 1 > -1 then ((its.length : Int) - 1 - (-1) - (-1) - 1) / (-(-1)) else 0).toNat = its.length := by
      by_cases h : (its.length : Int) - 1 > -1
      · rw [if_pos h, show (-(-1) : Int) = 1 by decide, Int.ediv_one]
        omega
      · rw [if_neg h]
        omega
    dsimp only
    rw [if_neg (by decide), this]
    apply List.map_congr_left
    intro k hk
    have := List.mem_range.mp hk
    omega
  show (List.filterMap _ (sliceRange ((its.length : Int) - 1) (-1) (-1))).toArray = _
  rw [e2, List.filterMap_map]
  congr 1
  have e3 := range_pick its.reverse
  rw [List.length_reverse] at e3
  rw [← e3]
  apply fm_congr
  intro k hk
  have := List.mem_range.mp hk
  show its.toArray[its.length - 1 - k]? = _
  rw [List.getElem?_toArray, List.getElem?_reverse this]
def rRevL (K : PySem.W.Frag) : V → Hp → VK → Prop := fun x H Q => ∃ a xs, x = .ref a ∧ SqL K H a xs ∧ ∀ p, H p = none → Q (.ref p) (upd H p (.lst xs.reverse))
def tRevL (K : PySem.W.Frag) (te : TE) (ts : TO) : TE := fun σ H Q => te σ H fun x H1 => ts σ H1 fun k H2 => k = some (-1) ∧ rRevL K x H2 Q
section
variable {X : Cx} {e st : Expr} {te : TE} {ts : TO} {pos p2 : Pos}
theorem pe_rev (he : PE X e te) (hst : PO X (some st) ts) : PE X (.Subscript e (.Slice none none (some st) p2) pos) (tRevL X.K te ts) := by
  intro pins s σ H Q I h
  refine Subscript_ (thn (he pins s σ H _ I h) fun v s1 ⟨x, H1, I1, r1, q1⟩ => ?_)
  refine wpAny_Slice ?_
  rw [evalPart_none]
  refine wpAny_pure ?_
  refine wpAny_pure ?_
  refine thn (hst pins s1 σ H1 _ I1 q1) fun vu s3 ⟨u, H3, I3, pu, ek, q3⟩ => ?_
  subst ek
  obtain ⟨a, xs, rfl, hx, q⟩ := q3
  cases r1
  have I4 : Inv X pins σ H3 { s3 with heap := s3.heap.push { cls := .type "slice", data := .fields #[.none, .none, vu] } } := I3.kept (t' := s3.toks) fun b ob q => Heap.get?_push_of_some _ q
  obtain ⟨its, r, ht, hz⟩ := I4.list hx
  have hlen := r.length
  show wpAny (model X.prog X.w) X.A (subscriptTail e (.Slice none none (some st) p2) (.ref a) (.ref s3.heap.objs.size)) (EP X pins σ Q) X.xe { s3 with heap := s3.heap.push { cls := .type "slice", data := .fields #[.none, .none, vu] } }
  refine tail_any (ops := [.ref a, .ref s3.heap.objs.size]) ht.isList.typeIs slot_list_getitem.lookup ?_ (by with_unfolding_all rfl)
  refine wpAny_getItem_list_slice ht.isList (Heap.IsSliceOf.new ..) .none .none pu (by simp) ?_ (by rw [List.size_toArray] <;> omega)
  rw [slicePick_back]
  refine ⟨.ref (s3.heap.push { cls := .type "slice", data := .fields #[.none, .none, vu] }).objs.size, _, I4.laid (t' := s3.toks) (o := .lst xs.reverse) (fun b ob q => Heap.get?_push_of_some _ q) (Nat.le_refl _) ?_, rfl, q _ (I4.hok.fresh (Nat.le_refl _))⟩
  exact ⟨by rw [List.length_reverse]; omega, _, 0, Vals.reverse r, Heap.get?_push_size _ rfl⟩
end
end L2

set_option Elab.async false
set_option linter.all false
set_option maxRecDepth 100000
set_option maxHeartbeats 4000000
namespace L2
open PySem PySem.Spec PyProof.Rows PySem.SeqAt Lv
end L2

set_option Elab.async false
set_option linter.all false
set_option maxRecDepth 100000
set_option maxHeartbeats 4000000
namespace L2
open PySem PySem.Spec PyProof.Rows PySem.SeqAt
section
variable {X : Cx}
end
end L2

set_option Elab.async false
set_option linter.all false
set_option maxRecDepth 100000
set_option maxHeartbeats 4000000
namespace L2
open PySem PySem.Spec PyProof.Rows PySem.SeqAt
end L2
namespace Lv
open PySem L2
theorem Same.sqB {b : Bool} {K : PySem.W.Frag} {H H' : Hp} {a : Addr} {xs : List V} (e : Same H H') (h : SqB b K H a xs) : SqB b K H' a xs := by
  cases b with
  | true => exact e.seq h
  | false => exact e.tup h
/-- a comprehension whose things are told, and leave all as it was -/
theorem comp_mapB {b : Bool} {K : PySem.W.Frag} {own : List Str} {js : List Nat} {g : TG} {te : TE} {σ : L2.St} {H1 : Hp} {Q : VK} {a : Addr} {xs : List V} (ys : List V) (hq : SqB b K H1 a xs) (hl : xs.length = ys.length) (hlen : xs.length ≤ 20000)
    (hs : ∀ (i : Nat) x y, xs[i]? = some x → ys[i]? = some y → ∀ H, Same H1 H → ∀ R : VK, (∀ H', Same H H' → R y H') → g x (blkσ own js σ) H fun τ H4 => te τ H4 R)
    (hd : ∀ acc H, H1 acc = none → Same H1 H → H acc = some (.lst ys) → Q (.ref acc) H) : tCompW own js g tTrue te σ (ItlB b K a) H1 Q := by
  refine comp_seqB (b := b) (K := K) (a := a) (xs := xs) (fun acc i H => Same H1 H ∧ H acc = some (.lst (ys.take i))) (fun acc h0 => ⟨Same.new h0, upd_same⟩) (fun acc i H h0 _ z => ?_) ?_ ?_
  · exact Same.sqB z.1 hq
  · rintro acc i x H h0 hx ⟨s1, hacc⟩
    have hi := (List.getElem?_eq_some_iff.mp hx).1
    have hy := List.getElem?_eq_getElem (l := ys) (i := i) (by omega)
    refine (cast ?_ (hs i x _ hx hy H s1 (fun y H6 => ∃ zs, H6 acc = some (.lst zs) ∧ zs.length < sizeLine ∧ (i + 1 ≤ xs.length ∧ (Same H1 (upd H6 acc (.lst (zs ++ [y]))) ∧ upd H6 acc (.lst (zs ++ [y])) acc = some (.lst (ys.take (i + 1)))))) fun H' s' => ?_))
    · unfold tTrue
      simp only [if_true]
    · refine ⟨_, s' _ _ hacc, ?_, hi, (s1.trans s').put h0, ?_⟩
      · rw [sizeLine_eq, List.length_take]
        omega
      · rw [upd_same, List.take_add_one, hy]
        simp
  · rintro acc H h0 ⟨s1, hacc⟩
    rw [hl, List.take_length] at hacc
    exact hd acc H h0 s1 hacc
end Lv

set_option Elab.async false
set_option linter.all false
set_option maxRecDepth 100000
set_option maxHeartbeats 4000000
namespace Fi90
open PySem L2 Lv
def top (i : Nat) : Stmt := PySem.Challenge.pw_fewreels_k90_whole_plans_played.main.body.getD i (.Pass ⟨0, 0, 0, 0⟩)
abbrev sWhole : Stmt := top 7
abbrev sPlace : Stmt := top 8
abbrev sListed : Stmt := top 9
abbrev sTupOf : Stmt := top 10
abbrev sWays : Stmt := top 16
abbrev sLevel : Stmt := top 17
abbrev sFirst : Stmt := top 18
abbrev sNext : Stmt := top 19
abbrev sCounts : Stmt := top 20
abbrev sIsSt : Stmt := top 22
abbrev sChkSt : Stmt := top 23
abbrev sIsPh : Stmt := top 24
abbrev sBeh : Stmt := top 25
abbrev sPhDone : Stmt := top 26
abbrev sPlDone : Stmt := top 27
abbrev sMerged : Stmt := top 29
abbrev sCopy : Stmt := top 31
abbrev sThin : Stmt := top 32
abbrev sIdle : Stmt := top 33
abbrev sTkAt : Stmt := top 34
abbrev sPhPl : Stmt := top 35
abbrev sPlay : Stmt := top 36
abbrev sRk : Stmt := top 38
abbrev sCovers : Stmt := top 39
abbrev sLvTo : Stmt := top 40
abbrev sPlan : Stmt := top 41
abbrev sIsBar : Stmt := top 42
abbrev sBar : Stmt := top 43
abbrev sFew : Stmt := top 44
abbrev sIsPl : Stmt := top 45
abbrev sPhR : Stmt := top 46
abbrev sFoldC : Stmt := top 48
abbrev sBegunC : Stmt := top 49
abbrev sTakeC : Stmt := top 50
abbrev sLCo90 : Stmt := top 51
abbrev sLot : Stmt := top 52
abbrev sWalk : Stmt := top 53
abbrev sBarr : Stmt := top 54
abbrev sLaw : Stmt := top 55
end Fi90

set_option Elab.async false
set_option linter.all false
set_option maxRecDepth 100000
set_option maxHeartbeats 4000000
namespace Fi90
open PySem L2 Lv
section
variable {P : Program} {w : World} {K : PySem.W.Frag} {mg : Str → Option Value} {base : Heap}
/-! ### is_whole -/
theorem scWhole : FnScope ["thing"] ["thing"] (defScope sWhole) := ⟨rfl, rfl, rfl, by decide +kernel, rfl, by decide +kernel, by decide +kernel⟩
theorem ok_whole {f : Addr} {fd : FuncData} (F : Fun K "is_whole" "is_whole" sWhole f fd) (T : Txt mg) : FnOk P w K mg base CX0 1 f fd ["thing"] spWhole := by
  refine F.ok scWhole (fun vs H Q E h => ?_) (fun cdv A outer s H vs Q E hr h => ?_)
  · obtain ⟨i, rfl, _⟩ := h
    rfl
  · obtain ⟨i, rfl, k⟩ := h
    refine ⟨_, pss_one (ps_ret (pe_and (pe_callB call_isinst rfl T.isinstance b_isinstance (pa_cons (pv 0) (pa_cons (pe_ty rfl T.int b_int) pa_nil)))
      (pe_one (pe_not (pe_callB call_isinst rfl T.isinstance b_isinstance (pa_cons (pv 0) (pa_cons (pe_ty rfl T.bool b_bool) pa_nil))))))), ?_⟩
    refine ⟨_, rfl, .int i, "int", _, true, rfl, .int i, kit_int_int, true, rfl, iteT ?_⟩
    exact ⟨_, rfl, .int i, "bool", _, false, rfl, .int i, kit_int_bool, false, rfl, k⟩
/-! ### is_listed -/
theorem scListed : FnScope ["thing"] ["thing"] (defScope sListed) := ⟨rfl, rfl, rfl, by decide +kernel, rfl, by decide +kernel, by decide +kernel⟩
theorem ok_listed {f : Addr} {fd : FuncData} (F : Fun K "is_listed" "is_listed" sListed f fd) (T : Txt mg) : FnOk P w K mg base CX0 1 f fd ["thing"] spListed := by
  refine F.ok scListed (fun vs H Q E h => ?_) (fun cdv A outer s H vs Q E hr h => ?_)
  · obtain ⟨a, xs, rfl, _⟩ := h
    rfl
  · obtain ⟨a, xs, rfl, hA, k⟩ := h
    refine ⟨_, pss_one (ps_ret (pe_callB call_isinstT rfl T.isinstance b_isinstance (pa_cons (pv 0) (pa_cons (pe_tup (pa_cons (pe_ty rfl T.list b_list) (pa_cons (pe_ty rfl T.tuple b_tuple) pa_nil))) pa_nil)))), ?_⟩
    refine ⟨_, rfl, (by show 2 ≤ sizeLine; decide), fun tp htp => ?_⟩
    exact ⟨.ref a, tp, ["list", "tuple"], _, true, rfl, upd_same, .lst ((Same.new htp) a _ hA), kitLT_list, k _ (Same.new htp)⟩
/-! ### is_tuple_of -/
theorem scTupOf : FnScope ["thing", "many"] ["thing", "many"] (defScope sTupOf) := ⟨rfl, rfl, rfl, by decide +kernel, rfl, by decide +kernel, by decide +kernel⟩
theorem ok_tupof {f : Addr} {fd : FuncData} (F : Fun K "is_tuple_of" "is_tuple_of" sTupOf f fd) (T : Txt mg) : FnOk P w K mg base CX0 1 f fd ["thing", "many"] spTupOf := by
  refine F.ok scTupOf (fun vs H Q E h => ?_) (fun cdv A outer s H vs Q E hr h => ?_)
  · obtain ⟨a, xs, n, rfl, _⟩ := h
    rfl
  · obtain ⟨a, xs, n, rfl, hA, hn, k⟩ := h
    refine ⟨_, pss_one (ps_ret (pe_and (pe_callB call_isinst rfl T.isinstance b_isinstance (pa_cons (pv 0) (pa_cons (pe_ty rfl T.tuple b_tuple) pa_nil))) (pe_one (pe_cmpR op_eq (pe_callB call_len_seq rfl T.len PySem.boot_len (pa_cons (pv 0) pa_nil)) (pv 1) (nomark _))))), ?_⟩
    refine ⟨_, rfl, .ref a, "tuple", _, true, rfl, .tup hA, kit_tuple_tuple, true, rfl, iteT ⟨_, rfl, a, _, rfl, .inr (SqT.of hA), _, rfl, rfl, ?_⟩⟩
    rw [hn]
    simpa using k
/-! ### check_ways -/
theorem scWays : FnScope ["p"] ["p"] (defScope sWays) := ⟨rfl, rfl, rfl, by decide +kernel, rfl, by decide +kernel, by decide +kernel⟩
theorem ok_ways {f fW : Addr} {fd dW : FuncData} {t2 t7 : Tok} (F : Fun K "check_ways" "check_ways" sWays f fd) (T : Txt mg) (hL : mg "LEAST_WAYS" = some (.int 2 t2)) (hM : mg "MOST_WAYS" = some (.int 7 t7)) (CW : Cal P w K mg base 1 "is_whole" ["thing"] spWhole fW dW) :
    FnOk P w K mg base CX0 2 f fd ["p"] spWays := by
  refine F.ok scWays (fun vs H Q E h => ?_) (fun cdv A outer s H vs Q E hr h => ?_)
  · obtain ⟨i, rfl, _⟩ := h
    rfl
  · obtain ⟨i, rfl, h1, h2, k⟩ := h
    refine ⟨_, pss_one (ps_if (PW.pt (pw_or (pt_not (pt_val (pe_cal CW hr rfl (pa_cons (pv 0) pa_nil))))
      (pw_or1 (pt_not (pt_chain op_le op_le (pe_gint rfl hL) (pv 0) (pe_gint rfl hM)))))) pss_never pss_nil), ?_⟩
    refine ⟨_, rfl, i, rfl, true, rfl, iteF ?_⟩
    refine ⟨_, rfl, 2, i, rfl, rfl, _, rfl, ?_⟩
    rw [decide_eq_true h1]
    refine iteT ⟨i, 7, rfl, rfl, _, rfl, ?_⟩
    rw [decide_eq_true h2]
    exact iteF k
/-! ### check_level -/
theorem scLevel : FnScope ["n", "last"] ["n", "last"] (defScope sLevel) := ⟨rfl, rfl, rfl, by decide +kernel, rfl, by decide +kernel, by decide +kernel⟩
theorem ok_level {f fW da : Addr} {fd dW : FuncData} (F : FunD K "check_level" "check_level" sLevel f da fd) (T : Txt mg) (CW : Cal P w K mg base 1 "is_whole" ["thing"] spWhole fW dW) :
    FnOk P w K mg base CX0 2 f fd ["n", "last"] spLevelD := by
  refine F.ok scLevel (fun vs H Q E h => ?_) (fun cdv A outer s H vs Q E hr h => ?_)
  · obtain ⟨i, m, rfl, _⟩ := h
    rfl
  · obtain ⟨i, m, rfl, h1, h2, k⟩ := h
    refine ⟨_, pss_one (ps_if (PW.pt (pw_or (pt_not (pt_val (pe_cal CW hr rfl (pa_cons (pv 0) pa_nil))))
      (pw_or1 (pt_not (pt_chain op_le op_le pe_int (pv 0) (pv 1)))))) pss_never pss_nil), ?_⟩
    refine ⟨_, rfl, i, rfl, true, rfl, iteF ?_⟩
    refine ⟨_, rfl, 0, i, rfl, rfl, _, rfl, ?_⟩
    rw [decide_eq_true h1]
    refine iteT ⟨_, rfl, i, m, rfl, rfl, _, rfl, ?_⟩
    rw [decide_eq_true h2]
    exact iteF k
/-! ### first_counts -/
theorem scFirst : FnScope ["p"] ["p"] (defScope sFirst) := ⟨rfl, rfl, rfl, by decide +kernel, rfl, by decide +kernel, by decide +kernel⟩
theorem ok_first {f : Addr} {fd : FuncData} (F : Fun K "first_counts" "first_counts" sFirst f fd) (T : Txt mg) : FnOk P w K mg base CX0 1 f fd ["p"] spFirst := by
  refine F.ok scFirst (fun vs H Q E h => ?_) (fun cdv A outer s H vs Q E hr h => ?_)
  · obtain ⟨p, rfl, _⟩ := h
    rfl
  · obtain ⟨p, rfl, h1, h2, k⟩ := h
    refine ⟨_, pss_one (ps_ret (pe_callTy call_tuple_of rfl T.tuple b_tuple (pa_cons (pe_op op_cat (pe_lst (pa_cons pe_int pa_nil)) (pe_op op_rep (pe_lst (pa_cons pe_int pa_nil)) (pe_op op_sub (pv 0) pe_int))) pa_nil))), ?_⟩
    refine ⟨(by show 1 ≤ sizeLine; decide), fun p1 e1 => ⟨(by show 1 ≤ sizeLine; decide), fun p2 e2 => ⟨_, rfl, _, _, rfl, rfl, ?_⟩⟩⟩
    have z2 : (upd (upd H p1 (.lst [.int 1])) p2 (.lst [.int 0])) p1 = some (.lst [.int 1]) := by rw [upd_ne (ne_of_none upd_same e2)]; exact upd_same
    refine ⟨p2, (p : Int) - 1, _, rfl, rfl, upd_same, by omega, by omega, ?_, fun p3 e3 => ?_⟩
    · exact Nat.le_of_lt (small1000 (by show 1 * ((p : Int) - 1).toNat ≤ 1000; omega))
    have z3 := (Same.new (o := .lst (List.replicate ((p : Int) - 1).toNat [V.int 0]).flatten) e3) p1 _ z2
    have ez : (List.replicate ((p : Int) - 1).toNat [V.int 0]).flatten = List.replicate (p - 1) (V.int 0) := by
      rw [show ((p : Int) - 1).toNat = p - 1 by omega]
      exact List.flatten_replicate_singleton
    rw [ez] at z3 ⊢
    refine ⟨p1, p3, _, _, rfl, rfl, z3, upd_same, ?_, fun p4 e4 => ?_⟩
    · exact Nat.le_of_lt (small1000 (by rw [List.length_replicate]; show 1 + (p - 1) ≤ 1000; omega))
    refine ⟨p4, _, rfl, .inl ⟨SqL.of upd_same, fun l hl => ?_⟩⟩
    have s4 := (((Same.new (o := .lst [.int 1]) e1).trans (Same.new (o := .lst [.int 0]) e2)).trans (Same.new (o := .lst (List.replicate (p - 1) (V.int 0))) e3)).trans (Same.new (o := .lst ([.int 1] ++ List.replicate (p - 1) (V.int 0))) e4)
    refine k l _ (s4.free hl) ?_ (s4.trans (Same.new hl))
    rw [upd_same]
    simp [firstC]
/-! ### next_counts -/
theorem scNext : FnScope ["counts", "first"] ["counts"] (defScope sNext) := ⟨rfl, rfl, rfl, by decide +kernel, rfl, by decide +kernel, by decide +kernel⟩
theorem ok_next {f : Addr} {fd : FuncData} (F : Fun K "next_counts" "next_counts" sNext f fd) (T : Txt mg) : FnOk P w K mg base CX0 1 f fd ["counts"] (spNext K) := by
  refine F.ok scNext (fun vs H Q E h => ?_) (fun cdv A outer s H vs Q E hr h => ?_)
  · obtain ⟨a, c, rfl, _⟩ := h
    rfl
  · obtain ⟨a, c, rfl, hA, h1, h2, k⟩ := h
    refine ⟨_, pss_cons (ps_set (i := 1) scNext.nd rfl (Or.inr rfl) (pe_ix ix_tup (pv 0) pe_int (fun _ _ => rfl)))
      (pss_one (ps_ret (pe_callTy call_tuple_of rfl T.tuple b_tuple (pa_cons (pe_op op_cat
        (pe_comp (own := ["count"]) (js := [1]) (CompOk.by (sc := defScope sNext) (N := ["counts", "first"]) rfl rfl (by decide +kernel)) rfl (pi_tup (pe_slice sl_tup (pv 0) (po_some pe_int) po_none)) gkeep_name
          (fun _ _ _ _ _ => pg_name (i := 0) (by show (["count", "first"] : List Str).Nodup; decide +kernel) rfl (Or.inl rfl) (.inr rfl)) (fun _ _ _ _ _ => pts_nil) (fun _ _ _ _ _ => pe_op op_add (pv 1) (pv 0)))
        (pe_lst (pa_cons (pv 1) pa_nil))) pa_nil)))), ?_⟩
    obtain ⟨c0, cr, rfl⟩ : ∃ c0 cr, c = c0 :: cr := by
      cases c with
      | nil => simp at h1
      | cons x y => exact ⟨x, y, rfl⟩
    have hcr : cr.length ≤ 6 := by simpa using h2
    refine ⟨_, rfl, a, _, 0, .int c0, rfl, rfl, hA, atI_head, ?_⟩
    refine ⟨_, rfl, 1, rfl, a, _, rfl, hA, ?_, fun p1 e1 => ⟨p1, rfl, ⟨_, SqT.of upd_same⟩, ?_⟩⟩
    · rintro ⟨z, _⟩
      have : HT.sIx ((c0 :: cr).map V.int).length 0 (some ((1 : Nat) : Int)) = 0 := z
      rw [HT.sIx_nat] at this
      simp at this
    have ecut : cutV ((c0 :: cr).map V.int) (some 1) none = cr.map V.int := by
      unfold cutV
      show (((c0 :: cr).map V.int).drop (HT.sIx ((c0 :: cr).map V.int).length 0 (some ((1 : Nat) : Int)))).take (HT.sIx ((c0 :: cr).map V.int).length ((c0 :: cr).map V.int).length none - HT.sIx ((c0 :: cr).map V.int).length 0 (some ((1 : Nat) : Int))) = _
      rw [HT.sIx_nat]
      rw [show min 1 ((c0 :: cr).map V.int).length = 1 by simp]
      show (cr.map V.int).take (((c0 :: cr).map V.int).length - 1) = _
      rw [List.take_of_length_le (by simp)]
    rw [ecut]
    refine comp_tup (xs := cr.map V.int) (fun acc i H2 => Same (upd H p1 (.tup (cr.map V.int))) H2 ∧ H2 acc = some (.lst (((cr.take i).map (c0 + ·)).map V.int))) (fun acc h0 => ⟨Same.new h0, upd_same⟩) (fun acc i H2 h0 _ p => p.1.tup (SqT.of upd_same)) ?_ ?_
    · rintro acc i x H2 h0 hx ⟨s2, hacc⟩
      obtain ⟨z, hz, rfl⟩ := map_get hx
      have hi := (List.getElem?_eq_some_iff.mp hz).1
      refine ⟨_, rfl, _, rfl, _, _, rfl, rfl, _, hacc, ?_, by rw [List.length_map]; exact hi, s2.put h0, ?_⟩
      · exact small1000 (by simp; omega)
      · rw [upd_same, List.take_add_one, hz]
        simp
    · rintro acc H2 h0 ⟨s2, hacc⟩
      rw [List.length_map, List.take_length] at hacc
      refine ⟨_, rfl, (by show 1 ≤ sizeLine; decide), fun p2 e2 => ?_⟩
      refine ⟨acc, p2, _, _, rfl, rfl, (Same.new e2) acc _ hacc, upd_same, ?_, fun p3 e3 => ⟨p3, _, rfl, .inl ⟨SqL.of upd_same, fun l hl => ?_⟩⟩⟩
      · exact Nat.le_of_lt (small1000 (by simp; omega))
      have s3 := (((Same.new (o := .tup (cr.map V.int)) e1).trans s2).trans (Same.new (o := .lst [.int c0]) e2)).trans (Same.new (o := .lst (((cr.map (c0 + ·)).map V.int) ++ [.int c0])) e3)
      refine k l _ (s3.free hl) ?_ (s3.trans (Same.new hl))
      rw [upd_same]
      simp [nextC]
/-! ### level_counts -/
theorem scCounts : FnScope ["p", "n", "counts", "level"] ["p", "n"] (defScope sCounts) := ⟨rfl, rfl, rfl, by decide +kernel, rfl, by decide +kernel, by decide +kernel⟩
theorem ok_counts {f fA fB fC fD : Addr} {fd dA dB dC dD : FuncData} (F : Fun K "level_counts" "level_counts" sCounts f fd) (T : Txt mg) (CA : Cal P w K mg base 2 "check_ways" ["p"] spWays fA dA) (CB : CalD P w K mg base 2 "check_level" ["n", "last"] [.int 300] spLevelD fB dB) (CC : Cal P w K mg base 1 "first_counts" ["p"] spFirst fC dC) (CD : Cal P w K mg base 1 "next_counts" ["counts"] (spNext K) fD dD) :
    FnOk P w K mg base CX0 3 f fd ["p", "n"] spCounts := by
  refine F.ok scCounts (fun vs H Q E h => ?_) (fun cdv A outer s H vs Q E hr h => ?_)
  · obtain ⟨p, n, rfl, _⟩ := h
    rfl
  · obtain ⟨p, n, rfl, h1, h2, h3, k⟩ := h
    have hr1 : Room 1 _ := hr.mono (by decide)
    refine ⟨_, pss_cons (ps_expr (pe_cal CA hr rfl (pa_cons (pv 0) pa_nil))) (pss_cons (ps_expr (pe_calD CB hr rfl (pa_cons (pv 1) pa_nil)))
      (pss_cons (ps_set (i := 2) scCounts.nd rfl (Or.inl rfl) (pe_cal CC hr1 rfl (pa_cons (pv 0) pa_nil)))
      (pss_cons (ps_for PassesOwn.never rfl (pi_range1 rfl T.range (pa_cons (pv 1) pa_nil)) (pg_name (i := 3) scCounts.nd rfl (Or.inl rfl))
        (pss_one (ps_set (i := 2) scCounts.nd rfl (Or.inl rfl) (pe_cal CD hr1 rfl (pa_cons (pv 2) pa_nil)))))
      (pss_one (ps_ret (pv 2)))))), ?_⟩
    refine ⟨_, rfl, p, rfl, by omega, by omega, ?_⟩
    refine ⟨_, rfl, n, 300, rfl, by omega, by omega, ?_⟩
    refine ⟨_, rfl, p, rfl, h1, h2, fun l H1 hl0 hl1 s1 => ?_⟩
    refine ⟨_, rfl, n, rfl, by omega, by omega, for_range (fun i σ H2 => ∃ (l : Addr) (o : Option V), σ = [some (.int p), some (.int n), some (.ref l), o] ∧ H l = none ∧ H2 l = some (.tup ((cnt p i).map V.int)) ∧ Same H H2)
      ⟨l, none, rfl, hl0, hl1, s1⟩ ?_ ?_⟩
    · rintro i σ H2 hi ⟨l, o, rfl, hl0, hl2, s2⟩
      have hlen := cnt_len (p := p) (by omega) i
      refine ⟨_, rfl, l, cnt p i, rfl, SqT.of hl2, by omega, by omega, fun l3 H3 h30 h3 s3 => ?_⟩
      exact ⟨l3, _, rfl, s2.free h30, h3, s2.trans s3⟩
    · rintro σ H2 ⟨l, o, rfl, hl0, hl2, s2⟩
      refine ⟨_, rfl, k l H2 hl0 ?_ s2⟩
      simpa using hl2
/-! ### is_place -/
theorem scPlace : FnScope ["thing", "many"] ["thing", "many"] (defScope sPlace) := ⟨rfl, rfl, rfl, by decide +kernel, rfl, by decide +kernel, by decide +kernel⟩
def spPlaceP : Sp := fun vs H Q _ => ∃ i n : Int, vs = [.int i, .int n] ∧ 0 ≤ i ∧ i < n ∧ Q (.bl true) H
theorem ok_place {f fW : Addr} {fd dW : FuncData} (F : Fun K "is_place" "is_place" sPlace f fd) (T : Txt mg) (CW : Cal P w K mg base 1 "is_whole" ["thing"] spWhole fW dW) : FnOk P w K mg base CX0 2 f fd ["thing", "many"] spPlaceP := by
  refine F.ok scPlace (fun vs H Q E h => ?_) (fun cdv A outer s H vs Q E hr h => ?_)
  · obtain ⟨i, n, rfl, _⟩ := h
    rfl
  · obtain ⟨i, n, rfl, h1, h2, k⟩ := h
    refine ⟨_, pss_one (ps_ret (pe_and (pe_cal CW hr rfl (pa_cons (pv 0) pa_nil)) (pe_one (pe_chain op_le op_lt pe_int (pv 0) (pv 1))))), ?_⟩
    refine ⟨_, rfl, i, rfl, true, rfl, iteT ⟨_, rfl, 0, i, rfl, rfl, _, rfl, ?_⟩⟩
    rw [decide_eq_true h1]
    refine iteT ⟨_, rfl, i, n, rfl, rfl, ?_⟩
    show Q (.bl (decide (i < n))) H
    rw [decide_eq_true h2]
    exact k
/-! ### is_standing -/
theorem scIsSt : FnScope ["thing"] ["thing"] (defScope sIsSt) := ⟨rfl, rfl, rfl, by decide +kernel, rfl, by decide +kernel, by decide +kernel⟩
theorem ok_isst {f fW : Addr} {fd dW : FuncData} {t2 t7 tR : Tok} (F : Fun K "is_standing" "is_standing" sIsSt f fd) (T : Txt mg) (hL : mg "LEAST_WAYS" = some (.int 2 t2)) (hM : mg "MOST_WAYS" = some (.int 7 t7)) (hR : mg "MOST_ROWS" = some (.int 1000000000000000000000000000000000000000000000000000000000000 tR)) (CW : Cal P w K mg base 1 "is_whole" ["thing"] spWhole fW dW) : FnOk P w K mg base CX0 2 f fd ["thing"] (spIsSt K) := by
  refine F.ok scIsSt (fun vs H Q E h => ?_) (fun cdv A outer s H vs Q E hr h => ?_)
  · obtain ⟨a, p, st, rfl, _⟩ := h
    rfl
  · obtain ⟨a, p, st, rfl, hA, S, k⟩ := h
    refine ⟨_, pss_cons (ps_if (PW.pt (pw_or (pt_not (pt_val (pe_callB call_isinst rfl T.isinstance b_isinstance (pa_cons (pv 0) (pa_cons (pe_ty rfl T.tuple b_tuple) pa_nil)))))
        (pw_or1 (pt_not (pt_chain op_lt op_le (pe_gint rfl hL) (pe_callB call_len_seq rfl T.len PySem.boot_len (pa_cons (pv 0) pa_nil)) (pe_op op_add (pe_gint rfl hM) pe_int)))))) pss_never pss_nil)
      (pss_cons (ps_if (pt_not (pt_val (pe_callB (call_all rfl) rfl T.all b_all (pa_cons (pe_comp (own := ["count"]) (js := []) (CompOk.bare (by decide +kernel)) rfl (pi_tup (pv 0)) gkeep_name
          (fun _ _ _ _ _ => pg_name (i := 0) (by show (["count"] : List Str).Nodup; decide +kernel) rfl (Or.inl rfl) (.inr rfl)) (fun _ _ _ _ _ => pts_nil) (fun _ _ _ _ _ => pe_and (pe_cal CW hr rfl (pa_cons (pv 0) pa_nil)) (pe_one (pe_chain op_le op_le pe_int (pv 0) (pe_gint rfl hR))))) pa_nil)))) pss_never pss_nil)
      (pss_one (ps_ret (pe_and (pe_cmpR op_eq (pe_callB (call_minB rfl) rfl T.min b_min (pa_cons (pv 0) pa_nil)) pe_int (nomark _)) (pe_one (pe_cmpR op_gt (pe_callB (call_maxB rfl) rfl T.max b_max (pa_cons (pv 0) pa_nil)) pe_int (nomark _))))))), ?_⟩
    have hlen := S.len
    have p2 := S.p2
    have p7 := S.p7
    refine ⟨_, rfl, .ref a, "tuple", _, true, rfl, (.tup hA), kit_tuple_tuple, true, rfl, iteF ?_⟩
    refine ⟨_, rfl, a, _, rfl, .inr (SqT.of hA), 2, _, rfl, rfl, true, ?_, iteT ?_⟩
    · rw [List.length_map, hlen]
      exact congrArg V.bl (decide_eq_true (by omega))
    refine ⟨7, 1, rfl, rfl, _, _, rfl, rfl, true, ?_, iteF ?_⟩
    · rw [List.length_map, hlen]
      exact congrArg V.bl (decide_eq_true (by omega))
    refine ⟨_, rfl, a, rfl, ⟨_, SqT.of hA⟩, ?_⟩
    refine comp_tup (xs := st.map V.int) (fun acc i H2 => Same H H2 ∧ H2 acc = some (.lst ((List.replicate i true).map V.bl))) (fun acc h0 => ⟨Same.new h0, upd_same⟩) (fun acc i H2 h0 _ p => p.1.tup (SqT.of hA)) ?_ ?_
    · rintro acc i x H2 h0 hx ⟨s2, hacc⟩
      obtain ⟨z, hz, rfl⟩ := map_get hx
      have hi := (List.getElem?_eq_some_iff.mp hz).1
      have hm := List.mem_of_getElem? hz
      refine ⟨_, rfl, z, rfl, true, rfl, iteT ⟨_, rfl, 0, z, rfl, rfl, true, congrArg V.bl (decide_eq_true (S.nn z hm)), iteT ⟨z, _, rfl, rfl, ?_⟩⟩⟩
      have hb : z ≤ 1000000000000000000000000000000000000000000000000000000000000 := S.le z hm
      dsimp only
      rw [decide_eq_true hb]
      refine ⟨_, hacc, small1000 (by simp; omega), by rw [List.length_map]; exact hi, s2.put h0, ?_⟩
      rw [upd_same, List.replicate_succ', List.map_append]
      rfl
    · rintro acc H2 h0 ⟨s2, hacc⟩
      have hA2 := s2 a _ hA
      have hne : st ≠ [] := by intro z; rw [z] at hlen; simp at hlen
      refine ⟨acc, _, rfl, SqL.of hacc, true, congrArg V.bl (all_true _), iteF ?_⟩
      refine ⟨_, rfl, false, a, st, rfl, SqT.of hA2, hne, fun m hm hle => ?_⟩
      have m0 : m = 0 := by
        have h1 := hle 0 S.zero
        have h2 := S.nn m hm
        omega
      subst m0
      refine ⟨rfl, true, by simp, iteT ?_⟩
      refine ⟨_, rfl, false, a, st, rfl, SqT.of hA2, hne, fun m hm hle => ⟨m, 0, rfl, rfl, ?_⟩⟩
      obtain ⟨x, hx, x1⟩ := S.pos
      have h1 := hle x hx
      show Q (.bl (decide (0 < m))) H2
      rw [decide_eq_true (by omega)]
      exact k H2 s2
/-! ### check_standing -/
theorem scChkSt : FnScope ["standing"] ["standing"] (defScope sChkSt) := ⟨rfl, rfl, rfl, by decide +kernel, rfl, by decide +kernel, by decide +kernel⟩
theorem ok_chkst {f fW : Addr} {fd dW : FuncData} (F : Fun K "check_standing" "check_standing" sChkSt f fd) (T : Txt mg) (CW : Cal P w K mg base 2 "is_standing" ["thing"] (spIsSt K) fW dW) : FnOk P w K mg base CX0 3 f fd ["standing"] (spChkSt K) := by
  refine F.ok scChkSt (fun vs H Q E h => ?_) (fun cdv A outer s H vs Q E hr h => ?_)
  · obtain ⟨a, p, st, rfl, _⟩ := h
    rfl
  · obtain ⟨a, p, st, rfl, hA, S, k⟩ := h
    refine ⟨_, pss_one (ps_if (pt_not (pt_val (pe_cal CW hr rfl (pa_cons (pv 0) pa_nil)))) pss_never pss_nil), ?_⟩
    exact ⟨_, rfl, a, p, st, rfl, hA, S, fun H1 s1 => ⟨true, rfl, iteF (k H1 s1)⟩⟩
/-! ### counts_behind -/
theorem scBeh : FnScope ["counts", "phase", "out", "many", "behind"] ["counts", "phase"] (defScope sBeh) := ⟨rfl, rfl, rfl, by decide +kernel, rfl, by decide +kernel, by decide +kernel⟩
theorem ok_beh {f : Addr} {fd : FuncData} (F : Fun K "counts_behind" "counts_behind" sBeh f fd) (T : Txt mg) : FnOk P w K mg base CX0 1 f fd ["counts", "phase"] spBeh := by
  refine F.ok scBeh (fun vs H Q E h => ?_) (fun cdv A outer s H vs Q E hr h => ?_)
  · obtain ⟨a, q, c, out, m, rfl, _⟩ := h
    rfl
  · obtain ⟨a, q, c, out, m, rfl, hA, hq, hlen, ho, ho0, m1, m2, hnn, k⟩ := h
    refine ⟨_, pss_cons (ps_asg (pv 1) (pg_tup rfl (pgs_cons (pg_name (i := 2) scBeh.nd rfl (Or.inl rfl)) (pgs_cons (pg_name (i := 3) scBeh.nd rfl (Or.inr rfl)) pgs_nil))))
      (pss_cons (ps_comp (i := 4) scBeh.nd rfl rfl (own := ["count"]) (js := [3]) (CompOk.by (sc := defScope sBeh) (N := ["counts", "phase", "out", "many", "behind"]) rfl rfl (by decide +kernel)) rfl (pi_tup (pv 0)) gkeep_name
        (fun _ _ _ _ _ => pg_name (i := 0) (by show (["count", "many"] : List Str).Nodup; decide +kernel) rfl (Or.inl rfl) (.inr rfl)) (fun _ _ _ _ _ => pts_nil) (fun _ _ _ _ _ => pe_callB (call_max2 rfl) rfl T.max b_max (pa_cons (pe_op op_sub (pv 0) (pv 1)) (pa_cons pe_int pa_nil))))
      (pss_cons (ps_asg (pv 3) (pg_sub (pv 4) (pv 2) set_list))
      (pss_one (ps_ret (pe_callTy call_tuple_of rfl T.tuple b_tuple (pa_cons (pv 4) pa_nil)))))), ?_⟩
    refine ⟨_, rfl, q, _, rfl, SqT.of hq, rfl, _, _, rfl, _, _, rfl, rfl, ?_⟩
    refine ⟨_, rfl, a, rfl, ⟨_, SqT.of hA⟩, ?_⟩
    refine comp_tup (xs := c.map V.int) (fun acc i H2 => Same H H2 ∧ H2 acc = some (.lst (((c.take i).map (les m)).map V.int))) (fun acc h0 => ⟨Same.new h0, upd_same⟩) (fun acc i H2 h0 _ p => p.1.tup (SqT.of hA)) ?_ ?_
    · rintro acc i x H2 h0 hx ⟨s2, hacc⟩
      obtain ⟨z, hz, rfl⟩ := map_get hx
      have hi := (List.getElem?_eq_some_iff.mp hz).1
      refine ⟨_, rfl, _, rfl, _, _, rfl, rfl, _, _, rfl, _, hacc, small1000 (by simp; omega), by rw [List.length_map]; exact hi, s2.put h0, ?_⟩
      rw [upd_same, List.take_add_one, hz, les_a]
      simp
    · rintro acc H2 h0 ⟨s2, hacc⟩
      rw [List.length_map, List.take_length] at hacc
      refine ⟨_, rfl, _, rfl, _, rfl, acc, _, out, out, rfl, rfl, hacc, ?_, ?_⟩
      · rw [List.length_map, List.length_map, ixN_of (by omega) (by omega)]
        rfl
      refine ⟨_, rfl, acc, _, rfl, .inl ⟨SqL.of upd_same, fun l hl => ?_⟩⟩
      have s3 : Same H (upd H2 acc (.lst (((c.map (les m)).map V.int).set out (.int m)))) := s2.put h0
      refine k l _ (s3.free hl) ?_ (s3.trans (Same.new hl))
      rw [upd_same, map_set]
end
end Fi90

set_option Elab.async false
set_option linter.all false
set_option maxRecDepth 100000
set_option maxHeartbeats 4000000
namespace Fi90
open PySem L2 Lv
section
variable {P : Program} {w : World} {K : PySem.W.Frag} {mg : Str → Option Value} {base : Heap}
/-! ### ranked -/
theorem scRk : FnScope ["standing"] ["standing"] (defScope sRk) := ⟨rfl, rfl, rfl, by decide +kernel, rfl, by decide +kernel, by decide +kernel⟩
theorem ok_rk {f : Addr} {fd : FuncData} (F : Fun K "ranked" "ranked" sRk f fd) (T : Txt mg) : FnOk P w K mg base CX0 1 f fd ["standing"] spRk := by
  refine F.ok scRk (fun vs H Q E h => ?_) (fun cdv A outer s H vs Q E hr h => ?_)
  · obtain ⟨a, st, rfl, _⟩ := h
    rfl
  · obtain ⟨a, st, rfl, hA, hlen, k⟩ := h
    refine ⟨_, pss_one (ps_ret (pe_callBK call_sortedR rfl T.sorted b_sorted (pa_cons (pv 0) pa_nil) (pk_cons pe_bl pk_nil))), ?_⟩
    refine ⟨_, rfl, a, st, rfl, rfl, SqT.of hA, by omega, fun l ms hl hp hd => ?_⟩
    have e := rk_uniq hp hd
    subst e
    exact k l _ hl upd_same (Same.new hl)
/-! ### covers -/
theorem scCovers : FnScope ["level", "counts"] ["level", "counts"] (defScope sCovers) := ⟨rfl, rfl, rfl, by decide +kernel, rfl, by decide +kernel, by decide +kernel⟩
theorem ok_covers {f : Addr} {fd : FuncData} (F : Fun K "covers" "covers" sCovers f fd) (T : Txt mg) : FnOk P w K mg base CX0 1 f fd ["level", "counts"] spCovers := by
  refine F.ok scCovers (fun vs H Q E h => ?_) (fun cdv A outer s H vs Q E hr h => ?_)
  · obtain ⟨a, b, L, r, rfl, _⟩ := h
    rfl
  · obtain ⟨a, b, L, r, rfl, hA, hB, hlen, h8, k⟩ := h
    refine ⟨_, pss_one (ps_ret (pe_callB (call_all rfl) rfl T.all b_all (pa_cons (pe_comp (own := ["count", "most"]) (js := []) (CompOk.bare (by decide +kernel)) rfl (pi_zipB rfl T.zip (pa_cons (pv 1) (pa_cons (pv 0) pa_nil))) (gkeep_two (K := K))
        (fun _ _ _ _ _ => pgK_tup K rfl (pgs_cons (pg_name (i := 0) (by show (["count", "most"] : List Str).Nodup; decide +kernel) rfl (Or.inl rfl) (.inr rfl)) (pgs_cons (pg_name (i := 1) (by show (["count", "most"] : List Str).Nodup; decide +kernel) rfl (Or.inl rfl) (.inr rfl)) pgs_nil))) (fun _ _ _ _ _ => pts_nil) (fun _ _ _ _ _ => pe_cmpR op_le (pv 0) (pv 1) (nomark _))) pa_nil))), ?_⟩
    refine ⟨_, rfl, _, rfl, true, false, b, a, rfl, ⟨_, SqL.of hB⟩, ⟨_, SqT.of hA⟩, ?_⟩
    refine comp_zipR (xs := r.map V.int) (ys := L.map V.int) (by simpa using hlen) (fun acc i H2 => Same H H2 ∧ H2 acc = some (.lst (((List.range i).map fun j => decide (r.getD j 0 ≤ L.getD j 0)).map V.bl))) (fun acc h0 => ⟨Same.new h0, upd_same⟩) (fun acc i H2 h0 _ p => ⟨SqL.of (p.1 b _ hB), p.1.tup (SqT.of hA)⟩) ?_ ?_
    · rintro acc i x y q H2 h0 hx hy ⟨s2, hacc⟩ hq
      obtain ⟨z, hz, rfl⟩ := map_get hx
      obtain ⟨z', hz', rfl⟩ := map_get hy
      have hi := (List.getElem?_eq_some_iff.mp hz').1
      have hnq : acc ≠ q := ne_of_none hacc hq
      refine ⟨q, _, rfl, SqT.of upd_same, rfl, _, _, rfl, _, _, rfl, rfl, _, rfl, _, rfl, z, z', rfl, rfl, _, by rw [upd_ne hnq]; exact hacc, small1000 (by simp; omega), by rw [List.length_map]; exact hi, (s2.trans (Same.new hq)).put h0, ?_⟩
      rw [upd_same, List.range_succ, List.map_append, List.map_append]
      simp [List.getD_eq_getElem?_getD, hz, hz']
    · rintro acc H2 h0 ⟨s2, hacc⟩
      refine ⟨acc, _, rfl, SqL.of hacc, ?_⟩
      have e : ((List.range (L.map V.int).length).map fun j => decide (r.getD j 0 ≤ L.getD j 0)).all id = decide (CovL L r) := by
        rw [Bool.eq_iff_iff, List.all_eq_true]
        simp [CovL]
      rw [e]
      exact k H2 s2
/-! ### levels_to -/
theorem scLvTo : FnScope ["standing", "levels"] ["standing"] (defScope sLvTo) := ⟨rfl, rfl, rfl, by decide +kernel, rfl, by decide +kernel, by decide +kernel⟩
theorem ok_lvto {f fA fB fC fD : Addr} {fd dA dB dC dD : FuncData} (F : Fun K "levels_to" "levels_to" sLvTo f fd) (T : Txt mg) (CF : Cal P w K mg base 1 "first_counts" ["p"] spFirst fA dA) (CN : Cal P w K mg base 1 "next_counts" ["counts"] (spNext K) fB dB) (CR : Cal P w K mg base 1 "ranked" ["standing"] spRk fC dC) (CC : Cal P w K mg base 1 "covers" ["level", "counts"] spCovers fD dD) : FnOk P w K mg base CX0 2 f fd ["standing"] spLvTo := by
  refine F.ok scLvTo (fun vs H Q E h => ?_) (fun cdv A outer s H vs Q E hr h => ?_)
  · obtain ⟨a, p, st, rfl, _⟩ := h
    rfl
  · obtain ⟨a, p, st, rfl, hA, S, k⟩ := h
    refine ⟨_, pss_cons (ps_set (i := 1) scLvTo.nd rfl (Or.inl rfl) (pe_lst (pa_cons (pe_cal CF hr rfl (pa_cons (pe_op op_sub (pe_callB call_len_seq rfl T.len PySem.boot_len (pa_cons (pv 0) pa_nil)) pe_int) pa_nil)) pa_nil)))
      (pss_cons (ps_while PassesOwn.never (pt_not (pt_val (pe_cal CC hr rfl (pa_cons (pe_ix ix_list (pv 1) (pe_un un_neg pe_int) (fun _ _ => rfl)) (pa_cons (pe_cal CR hr rfl (pa_cons (pv 0) pa_nil)) pa_nil)))))
        (pss_one (ps_expr (pe_bm PySem.F.plainAttrs_list PySem.F.slot_list_append PySem.F.type_list_append mt_append (pv 1) (pa_cons (pe_cal CN hr rfl (pa_cons (pe_ix ix_list (pv 1) (pe_un un_neg pe_int) (fun _ _ => rfl)) pa_nil)) pa_nil)))))
      (pss_one (ps_ret (pv 1)))), ?_⟩
    have hlen := S.len
    have p2 := S.p2
    have p7 := S.p7
    refine ⟨_, rfl, a, _, rfl, .inr (SqT.of hA), _, _, rfl, rfl, p, ?_, p2, p7, fun q H1 hq0 hq s1 => ?_⟩
    · rw [List.length_map, hlen]
      exact congrArg (fun z => [V.int z]) (by omega)
    refine ⟨(by show 1 ≤ sizeLine; decide), fun l hl => ?_⟩
    have hrle : ∀ x ∈ rk st, x ≤ big := fun x hx => S.le x ((rk_perm st).subset hx)
    refine ⟨fun m σ H3 => ∃ (n : Nat) (l : Addr) (qs : List Addr) (q : Addr), n ≤ 401 ∧ (∀ k, k < n → ¬ CovL (cnt p k) (rk st)) ∧ m = 401 - n ∧ σ = [some (.ref a), some (.ref l)] ∧ H l = none ∧ H3 l = some (.lst ((qs ++ [q]).map V.ref)) ∧ TTs H3 qs (lvls p n) ∧ H3 q = some (.tup ((cnt p n).map V.int)) ∧ Same H H3,
      ⟨_, 0, l, [], q, by decide, fun k hk => absurd hk (Nat.not_lt_zero _), rfl, rfl, s1.free hl, upd_same, ⟨rfl, fun j r xs ha => by simp at ha⟩, (Same.new hl) q _ hq, s1.trans (Same.new hl)⟩, ?_⟩
    rintro m σ H3 ⟨n, l, qs, q, hn, hno, rfl, rfl, hl0, hl3, ht3, hq3, s3⟩
    have hclen := cnt_len (p := p) (by omega) n
    refine ⟨_, rfl, 1, rfl, l, _, -1, .ref q, rfl, rfl, SqL.of hl3, ?_, ?_⟩
    · rw [List.map_append]
      exact atI_last _ _
    refine ⟨_, rfl, a, st, rfl, s3 a _ hA, by omega, fun lr H4 hr0 hr4 s4 => ?_⟩
    refine ⟨q, lr, cnt p n, rk st, rfl, s4 q _ hq3, hr4, by rw [hclen, rk_len]; omega, by rw [rk_len]; omega, fun H5 s5 => ?_⟩
    refine ⟨_, rfl, ?_⟩
    have s45 := s4.trans s5
    by_cases hcov : CovL (cnt p n) (rk st)
    · rw [decide_eq_true hcov]
      refine iteF ⟨_, rfl, ?_⟩
      have ht5 : TTs H5 (qs ++ [q]) (lvls p (n + 1)) := by
        rw [lvls_succ]
        exact (ht3.same s45).snoc (s45 q _ hq3)
      exact k n l _ H5 ⟨hcov, hno⟩ hn hl0 (s45 l _ hl3) ht5 (s3.trans s45)
    · rw [decide_eq_false hcov]
      refine iteT ⟨fun σ' H' => ∃ m', m' < 401 - n ∧ ∃ (n : Nat) (l : Addr) (qs : List Addr) (q : Addr), n ≤ 401 ∧ (∀ k, k < n → ¬ CovL (cnt p k) (rk st)) ∧ m' = 401 - n ∧ σ' = [some (.ref a), some (.ref l)] ∧ H l = none ∧ H' l = some (.lst ((qs ++ [q]).map V.ref)) ∧ TTs H' qs (lvls p n) ∧ H' q = some (.tup ((cnt p n).map V.int)) ∧ Same H H', fun _ _ h => h, ?_⟩
      have hlt : n < 401 := by
        rcases Nat.lt_or_ge n 401 with z | z
        · exact z
        · have : n = 401 := by omega
          subst this
          exact absurd (cov_401 p2 hrle) hcov
      have hl5 := s45 l _ hl3
      have hq5 := s45 q _ hq3
      refine ⟨_, rfl, .inl ⟨rfl, _, SqL.of hl5⟩, ?_⟩
      refine ⟨_, rfl, 1, rfl, l, _, -1, .ref q, rfl, rfl, SqL.of hl5, ?_, ?_⟩
      · rw [List.map_append]
        exact atI_last _ _
      refine ⟨q, cnt p n, rfl, SqT.of hq5, by omega, by omega, fun q6 H6 h60 h6 s6 => ?_⟩
      have hl6 := s6 l _ hl5
      refine ⟨l, _, _, rfl, rfl, hl6, ?_, ?_⟩
      · have := ht3.1
        rw [lvls_len] at this
        exact small1000 (by simp; omega)
      refine ⟨401 - (n + 1), by omega, n + 1, l, qs ++ [q], q6, by omega, ?_, rfl, rfl, hl0, ?_, ?_, ?_, ?_⟩
      · intro k hk
        by_cases e : k = n
        · subst e; exact hcov
        · exact hno k (by omega)
      · rw [upd_same]
        simp
      · rw [lvls_succ]
        exact (((ht3.same s45).snoc hq5).same s6).lst hl6
      · rw [upd_ne (by intro z; subst z; rw [hl6] at h6; cases h6)]
        exact h6
      · exact ((s3.trans s45).trans s6).put hl0
/-! ### plan_by -/
theorem scPlan : FnScope ["levels", "standing", "counts", "plan", "level", "phase"] ["levels", "standing"] (defScope sPlan) := ⟨rfl, rfl, rfl, by decide +kernel, rfl, by decide +kernel, by decide +kernel⟩
theorem ok_plan {f fA : Addr} {fd dA : FuncData} (F : Fun K "plan_by" "plan_by" sPlan f fd) (T : Txt mg) (zr : mg "reversed" = none) (CB : Cal P w K mg base 1 "counts_behind" ["counts", "phase"] spBeh fA dA) : FnOk P w K mg base CX0 2 f fd ["levels", "standing"] spPlan := by
  refine F.ok scPlan (fun vs H Q E h => ?_) (fun cdv A outer s H vs Q E hr h => ?_)
  · obtain ⟨b, a, p, N, st, qs, rfl, _⟩ := h
    rfl
  · obtain ⟨b, a, p, N, st, qs, rfl, hB, hT, hA, p2, p7, hN, hO, k⟩ := h
    refine ⟨_, pss_cons (ps_set (i := 2) scPlan.nd rfl (Or.inl rfl) (pv 1))
      (pss_cons (ps_set (i := 3) scPlan.nd rfl (Or.inl rfl) (pe_lst pa_nil))
      (pss_cons (ps_for PassesOwn.never rfl (pi_rev rfl zr (pa_cons (pv 0) pa_nil)) (pg_name (i := 4) scPlan.nd rfl (Or.inl rfl))
        (pss_cons (ps_set (i := 5) scPlan.nd rfl (Or.inl rfl) (pe_tup (pa_cons (pe_bmT PySem.F.slot_tuple_index PySem.F.type_tuple_index mt_indexT (pv 2) (pa_cons pe_int pa_nil))
          (pa_cons (pe_callB (call_min2 rfl) rfl T.min b_min (pa_cons (pe_ix ix_tup (pv 4) pe_int (fun _ _ => rfl)) (pa_cons (pe_callB (call_maxB rfl) rfl T.max b_max (pa_cons (pv 2) pa_nil)) pa_nil))) pa_nil))))
        (pss_cons (ps_expr (pe_bm PySem.F.plainAttrs_list PySem.F.slot_list_append PySem.F.type_list_append mt_append (pv 3) (pa_cons (pv 5) pa_nil)))
        (pss_one (ps_set (i := 2) scPlan.nd rfl (Or.inl rfl) (pe_cal CB hr rfl (pa_cons (pv 2) (pa_cons (pv 5) pa_nil))))))))
      (pss_one (ps_ret (pv 3))))), ?_⟩
    have hql : qs.length = N := by rw [hT.1, lvls_len]
    refine ⟨_, rfl, (by show 0 ≤ sizeLine; decide), fun pl hpl => ?_⟩
    refine ⟨_, rfl, b, _, rfl, SqL.of ((Same.new hpl) b _ hB), for_rev (fun i σ H2 => ∃ (ca : Addr) (c : List Int) (rs : List Addr) (phs : List (List Int)) (o4 o5 : Option V), σ = [some (.ref b), some (.ref a), some (.ref ca), some (.ref pl), o4, o5] ∧ H2 ca = some (.tup (c.map V.int)) ∧ On p c (N - i) ∧ H2 pl = some (.lst (rs.map V.ref)) ∧ TTs H2 rs phs ∧ phs.length = i ∧ planF p st N = phs ++ planF p c (N - i) ∧ Same H H2)
      ⟨a, st, [], [], none, none, rfl, (Same.new hpl) a _ hA, hO, upd_same, ⟨rfl, fun j r xs ha => by simp at ha⟩, rfl, rfl, Same.new hpl⟩ ?_ ?_ ?_⟩
    · rintro i σ H2 hi ⟨ca, c, rs, phs, o4, o5, rfl, hc, hOn, hp2, ht2, hpn, hpf, s2⟩
      exact SqL.of (s2 b _ hB)
    · rintro i x σ H2 hi hx ⟨ca, c, rs, phs, o4, o5, rfl, hc, hOn, hp2, ht2, hpn, hpf, s2⟩
      rw [List.length_map] at hi hx
      rw [List.getElem?_map] at hx
      obtain ⟨q, hq, rfl⟩ := Option.map_eq_some_iff.mp hx
      have hqL : H2 q = some (.tup ((cnt p (N - i - 1)).map V.int)) := by
        refine s2 q _ (hT.2 _ q _ hq ?_)
        rw [hql, show N - 1 - i = N - i - 1 by omega]
        exact lvls_at (by omega)
      obtain ⟨n, hn⟩ : ∃ n, N - i = n + 1 := ⟨N - i - 1, by omega⟩
      rw [hn] at hOn hpf hqL
      rw [show n + 1 - 1 = n by omega] at hqL
      obtain ⟨o1, o2⟩ := hOn.out
      obtain ⟨m1, m2⟩ := hOn.ph p2 (k := n)
      have hcl := hOn.len
      have hclen := cnt_len (p := p) (by omega) n
      refine ⟨_, rfl, ⟨ca, _, rfl, hc⟩, ca, c, 0, rfl, rfl, hc, hOn.idx, ?_⟩
      refine ⟨_, rfl, q, _, 0, .int (hd p n), rfl, rfl, SqT.of hqL, ?_, ?_⟩
      · rw [atI_int (by decide) (by rw [hclen]; omega)]
        rfl
      refine ⟨_, rfl, false, ca, c, rfl, SqT.of hc, (by intro z; rw [z] at hcl; simp at hcl), fun m hm hg => ?_⟩
      have em := mxl_eq hOn.nn hm hg
      subst em
      refine ⟨_, _, rfl, (by show 2 ≤ sizeLine; decide), fun t ht => ?_⟩
      have hp3 := (Same.new (o := .tup [.int ((c.idxOf 0 : Nat) : Int), .int (if mxl c < hd p n then mxl c else hd p n)]) ht) pl _ hp2
      refine ⟨_, rfl, .inl ⟨rfl, _, SqL.of hp3⟩, _, rfl, pl, _, _, rfl, rfl, hp3, ?_, ?_⟩
      · have := ht2.1
        exact small1000 (by simp; omega)
      have hnt : t ≠ pl := by intro z; subst z; rw [hp2] at ht; cases ht
      have hnc : ca ≠ pl := by intro z; subst z; rw [hp2] at hc; cases hc
      have hnt2 : ca ≠ t := ne_of_none hc ht
      refine ⟨_, rfl, _, rfl, ca, t, c, c.idxOf 0, ph p c n, rfl, ?_, ?_, by omega, o1, o2, m1, m2, hOn.nn, fun l H4 hl0 hl4 s4 => ?_⟩
      · rw [upd_ne hnc, upd_ne hnt2]
        exact hc
      · rw [upd_ne hnt, upd_same]
        rfl
      have hput : Same H2 (upd H2 t (.tup [.int ((c.idxOf 0 : Nat) : Int), .int (if mxl c < hd p n then mxl c else hd p n)])) := Same.new ht
      refine ⟨l, nxt p c n, rs ++ [t], phs ++ [[((c.idxOf 0 : Nat) : Int), ph p c n]], _, _, rfl, hl4, ?_, ?_, ?_, by simp [hpn], ?_, ?_⟩
      · rw [show N - (i + 1) = n by omega]
        exact hOn.step p2
      · rw [s4 pl _ upd_same]
        simp
      · refine TTs.snoc (((ht2.same hput).lst hp3).same s4) (s4 t _ ?_)
        rw [upd_ne hnt, upd_same]
        rfl
      · rw [hpf, show N - (i + 1) = n by omega]
        simp [planF]
      · exact ((s2.trans hput).put hpl).trans s4
    · rintro σ H2 ⟨ca, c, rs, phs, o4, o5, rfl, hc, hOn, hp2, ht2, hpn, hpf, s2⟩
      rw [List.length_map, hql, Nat.sub_self] at hpf
      refine ⟨_, rfl, k pl rs H2 hpl hp2 ?_ s2⟩
      rw [hpf]
      simpa [planF] using ht2
/-! ### is_bar -/
theorem scIsBar : FnScope ["level", "standing", "bar"] ["level", "standing", "bar"] (defScope sIsBar) := ⟨rfl, rfl, rfl, by decide +kernel, rfl, by decide +kernel, by decide +kernel⟩
theorem ok_isbar {f fA fB : Addr} {fd dA dB : FuncData} (F : Fun K "is_bar" "is_bar" sIsBar f fd) (T : Txt mg) (CP : Cal P w K mg base 2 "is_place" ["thing", "many"] spPlaceP fA dA) (CR : Cal P w K mg base 1 "ranked" ["standing"] spRk fB dB) : FnOk P w K mg base CX0 3 f fd ["level", "standing", "bar"] spIsBar := by
  refine F.ok scIsBar (fun vs H Q E h => ?_) (fun cdv A outer s H vs Q E hr h => ?_)
  · obtain ⟨b, a, L, st, j, rfl, _⟩ := h
    rfl
  · obtain ⟨b, a, L, st, j, rfl, hB, hA, hj, hle, h8, k⟩ := h
    have hr1 : Room 1 _ := hr.mono (by decide)
    refine ⟨_, pss_one (ps_ret (pe_and (pe_cal CP hr rfl (pa_cons (pv 2) (pa_cons (pe_callB call_len_seq rfl T.len PySem.boot_len (pa_cons (pv 0) pa_nil)) pa_nil))) (pe_one (pe_cmpR op_gt (pe_ix ix_list (pe_cal CR hr1 rfl (pa_cons (pv 1) pa_nil)) (pv 2) (fun _ _ => rfl)) (pe_ix ix_tup (pv 0) (pv 2) (fun _ _ => rfl)) (nomark _))))), ?_⟩
    refine ⟨_, rfl, _, rfl, b, _, rfl, .inr (SqT.of hB), (j : Int), _, rfl, by omega, by rw [List.length_map]; omega, true, rfl, iteT ?_⟩
    refine ⟨_, rfl, a, st, rfl, hA, h8, fun l H1 hl0 hl s1 => ?_⟩
    refine ⟨_, rfl, l, _, _, .int ((rk st).getD j 0), rfl, rfl, SqL.of hl, ?_, _, rfl, _, rfl, b, _, _, .int (L.getD j 0), rfl, rfl, SqT.of (s1 b _ hB), ?_, _, _, rfl, rfl, k H1 s1⟩
    · rw [atI_int (by omega) (by rw [rk_len]; omega)]
      rfl
    · rw [atI_int (by omega) (by omega)]
      rfl
/-! ### first_bar -/
theorem scBar : FnScope ["level", "standing"] ["level", "standing"] (defScope sBar) := ⟨rfl, rfl, rfl, by decide +kernel, rfl, by decide +kernel, by decide +kernel⟩
theorem ok_bar {f fA : Addr} {fd dA : FuncData} (F : Fun K "first_bar" "first_bar" sBar f fd) (T : Txt mg) (CB : Cal P w K mg base 3 "is_bar" ["level", "standing", "bar"] spIsBar fA dA) : FnOk P w K mg base CX0 4 f fd ["level", "standing"] spBar := by
  refine F.ok scBar (fun vs H Q E h => ?_) (fun cdv A outer s H vs Q E hr h => ?_)
  · obtain ⟨b, a, L, st, rfl, _⟩ := h
    rfl
  · obtain ⟨b, a, L, st, rfl, hB, hA, hle, h8, hno, k⟩ := h
    refine ⟨_, pss_one (ps_ret (pe_ix ix_list (pe_comp (own := ["place"]) (js := [0, 1]) (CompOk.by (sc := defScope sBar) (N := ["level", "standing"]) rfl rfl (by decide +kernel)) rfl (pi_range1 rfl T.range (pa_cons (pe_callB call_len_seq rfl T.len PySem.boot_len (pa_cons (pv 0) pa_nil)) pa_nil)) gkeep_name
      (fun _ _ _ _ _ => pg_name (i := 0) (by show (["place", "level", "standing"] : List Str).Nodup; decide +kernel) rfl (Or.inl rfl) (.inr rfl)) (fun _ _ _ _ _ => pts_one (pt_val (pe_cal CB hr rfl (pa_cons (pv 1) (pa_cons (pv 2) (pa_cons (pv 0) pa_nil)))))) (fun _ _ _ _ _ => pv 0)) pe_int (fun _ _ => rfl))), ?_⟩
    refine ⟨_, rfl, b, _, rfl, .inr (SqT.of hB), _, rfl, by omega, by rw [List.length_map]; omega, ?_⟩
    rw [List.length_map, show ((L.length : Nat) : Int).toNat = L.length by omega]
    refine comp_range (fun acc j H3 => Same H H3 ∧ H3 acc = some (.lst (((List.range j).filter fun j => decide ((rk st).getD j 0 > L.getD j 0)).map fun j : Nat => V.int j))) (fun acc h0 => ⟨Same.new h0, upd_same⟩) ?_ ?_
    · rintro acc j H3 h0 hj ⟨s3, hacc⟩
      refine ⟨_, rfl, _, rfl, _, rfl, b, a, L, st, j, ?_, s3 b _ hB, s3 a _ hA, hj, hle, h8, fun H4 s4 => ⟨_, rfl, ?_⟩⟩
      · simp
      have hacc4 := s4 acc _ hacc
      by_cases hc : (rk st).getD j 0 > L.getD j 0
      · rw [decide_eq_true hc]
        refine iteT ⟨_, rfl, _, hacc4, ?_, hj, (s3.trans s4).put h0, ?_⟩
        · refine small1000 ?_
          rw [List.length_map]
          have := List.length_filter_le (fun j => decide ((rk st).getD j 0 > L.getD j 0)) (List.range j)
          rw [List.length_range] at this
          omega
        · have e1 : List.filter (fun j => decide ((rk st).getD j 0 > L.getD j 0)) [j] = [j] := List.filter_cons_of_pos (decide_eq_true hc)
          rw [upd_same, List.range_succ, List.filter_append, List.map_append, e1]
          simp
      · rw [decide_eq_false hc]
        refine iteF ⟨hj, s3.trans s4, ?_⟩
        have e1 : List.filter (fun j => decide ((rk st).getD j 0 > L.getD j 0)) [j] = [] := List.filter_cons_of_neg (by rw [decide_eq_false hc]; simp)
        rw [hacc4, List.range_succ, List.filter_append, List.map_append, e1]
        simp
    · rintro acc H3 h0 ⟨s3, hacc⟩
      obtain ⟨rest, e, _, _⟩ := fb_ok hno
      rw [e] at hacc
      exact ⟨acc, _, 0, .int (fb L (rk st)), rfl, rfl, SqL.of hacc, atI_nat (j := 0) rfl, k H3 s3⟩
/-! ### fewest_phases -/
theorem scFew : FnScope ["standing", "fewer", "bar"] ["standing"] (defScope sFew) := ⟨rfl, rfl, rfl, by decide +kernel, rfl, by decide +kernel, by decide +kernel⟩
theorem ok_few {f fA fB fC fD : Addr} {fd dA dB dC dD : FuncData} (F : Fun K "fewest_phases" "fewest_phases" sFew f fd) (T : Txt mg) (CA : Cal P w K mg base 3 "check_standing" ["standing"] (spChkSt K) fA dA) (CB : Cal P w K mg base 2 "levels_to" ["standing"] spLvTo fB dB) (CC : Cal P w K mg base 4 "first_bar" ["level", "standing"] spBar fC dC) (CD : Cal P w K mg base 2 "plan_by" ["levels", "standing"] spPlan fD dD) : FnOk P w K mg base CX0 5 f fd ["standing"] spFew := by
  refine F.ok scFew (fun vs H Q E h => ?_) (fun cdv A outer s H vs Q E hr h => ?_)
  · obtain ⟨a, p, st, rfl, _⟩ := h
    rfl
  · obtain ⟨a, p, st, rfl, hA, S, k⟩ := h
    have hr3 : Room 3 _ := hr.mono (by decide)
    have hr2 : Room 2 _ := hr.mono (by decide)
    refine ⟨_, pss_cons (ps_expr (pe_cal CA hr3 rfl (pa_cons (pv 0) pa_nil)))
      (pss_cons (ps_set (i := 1) scFew.nd rfl (Or.inl rfl) (pe_slice sl_list (pe_cal CB hr2 rfl (pa_cons (pv 0) pa_nil)) po_none (po_some (pe_un un_neg pe_int))))
      (pss_cons (ps_set (i := 2) scFew.nd rfl (Or.inl rfl) (pe_ifExp (pt_truth (pv 1) (fun _ => rfl)) (pe_cal CC hr rfl (pa_cons (pe_ix ix_list (pv 1) (pe_un un_neg pe_int) (fun _ _ => rfl)) (pa_cons (pv 0) pa_nil))) pe_non))
      (pss_one (ps_ret (pe_tup (pa_cons (pe_callB call_len_seq rfl T.len PySem.boot_len (pa_cons (pv 1) pa_nil)) (pa_cons (pe_cal CD hr2 rfl (pa_cons (pv 1) (pa_cons (pv 0) pa_nil))) (pa_cons (pv 2) pa_nil)))))))), ?_⟩
    have hlen := S.len
    have p2 := S.p2
    have p7 := S.p7
    refine ⟨_, rfl, a, p, st, rfl, hA, S, fun H1 s1 => ?_⟩
    refine ⟨_, rfl, a, p, st, rfl, s1 a _ hA, S, fun N l qs H2 hN hN4 hl0 hl2 ht2 s2 => ?_⟩
    obtain ⟨qs', q, rfl, ht, hq⟩ := Lv.TTs.last ht2
    rw [List.map_append] at hl2
    refine ⟨1, rfl, -1, rfl, l, _, rfl, SqL.of hl2, fun fw hfw => ?_⟩
    have ec : cutV (qs'.map V.ref ++ [q].map V.ref) none (some (-1)) = qs'.map V.ref := cut_last _ _
    rw [ec]
    have s3 := (s1.trans s2).trans (Same.new (o := .lst (qs'.map V.ref)) hfw)
    have hfw3 : (upd H2 fw (.lst (qs'.map V.ref))) fw = some (.lst (qs'.map V.ref)) := upd_same
    have ht3 := ht.same (Same.new (o := .lst (qs'.map V.ref)) hfw)
    generalize upd H2 fw (.lst (qs'.map V.ref)) = H3 at s3 hfw3 ht3 ⊢
    have hql : qs'.length = N := by rw [ht.1, lvls_len]
    dsimp only
    refine cut1 (fun σ' H' => σ' = [some (.ref a), some (.ref fw), some (ovV (barF p st N))] ∧ Same H3 H') (fun R hR => ?_) ?_
    · have hemp : (!(qs'.map V.ref).isEmpty) = decide (N ≠ 0) := by
        rw [← hql]
        cases qs' <;> simp
      refine ⟨_, rfl, _, .inl ⟨_, SqL.of hfw3, rfl⟩, ?_⟩
      rw [hemp]
      by_cases hz : N = 0
      · rw [decide_eq_false (by simpa using hz)]
        refine iteF (hR _ _ ⟨?_, Same.refl _⟩)
        unfold barF
        rw [if_pos hz]
        rfl
      · rw [decide_eq_true hz]
        obtain ⟨n, rfl⟩ : ∃ n, N = n + 1 := ⟨N - 1, by omega⟩
        obtain ⟨qs2, q2, rfl, ht4, hq4⟩ := Lv.TTs.last ht3
        refine iteT ⟨_, rfl, 1, rfl, fw, _, -1, .ref q2, rfl, rfl, SqL.of hfw3, ?_, ?_⟩
        · rw [List.map_append]
          exact atI_last _ _
        have hclen := cnt_len (p := p) (by omega) n
        refine ⟨_, rfl, q2, a, cnt p n, st, rfl, hq4, s3 a _ hA, by omega, by omega, hN.2 n (by omega), fun H4 s4 => ?_⟩
        exact hR _ _ ⟨rfl, s4⟩
    · rintro σ' H' ⟨rfl, s4⟩
      have hfw4 := s4 fw _ hfw3
      refine ⟨_, rfl, fw, _, rfl, .inl (SqL.of hfw4), _, rfl, _, rfl, fw, a, p, N, st, qs', rfl, hfw4, ht3.same s4, (s3.trans s4) a _ hA, p2, p7, hN4, S.on hN, fun pl rs H5 hpl0 hpl ht5 s5 => ?_⟩
      refine ⟨_, rfl, (by show 3 ≤ sizeLine; decide), fun t htt => ?_⟩
      have sA := (s3.trans s4).trans s5
      refine k N t pl rs _ hN hN4 (sA.free htt) ((s3.trans s4).free hpl0) ?_ ?_ ?_ ?_ (sA.trans (Same.new htt))
      · exact Ne.symm (ne_of_none hpl htt)
      · rw [upd_same, List.length_map, hql]
      · exact (Same.new htt) pl _ hpl
      · exact ht5.same (Same.new htt)
end
end Fi90

set_option Elab.async false
set_option linter.all false
set_option maxRecDepth 100000
set_option maxHeartbeats 4000000
namespace Fi90
open PySem L2 Lv
section
variable {P : Program} {w : World} {K : PySem.W.Frag} {mg : Str → Option Value} {base : Heap}
/-! ### is_phase -/
theorem scIsPh : FnScope ["counts", "phase", "out", "many"] ["counts", "phase"] (defScope sIsPh) := ⟨rfl, rfl, rfl, by decide +kernel, rfl, by decide +kernel, by decide +kernel⟩
theorem ok_isph {f fA fB fC : Addr} {fd dA dB dC : FuncData} (F : Fun K "is_phase" "is_phase" sIsPh f fd) (T : Txt mg) (CW : Cal P w K mg base 1 "is_whole" ["thing"] spWhole fA dA) (CP : Cal P w K mg base 2 "is_place" ["thing", "many"] spPlaceP fB dB) (CT : Cal P w K mg base 1 "is_tuple_of" ["thing", "many"] spTupOf fC dC) : FnOk P w K mg base CX0 3 f fd ["counts", "phase"] spIsPh := by
  refine F.ok scIsPh (fun vs H Q E h => ?_) (fun cdv A outer s H vs Q E hr h => ?_)
  · obtain ⟨a, q, c, out, m, rfl, _⟩ := h
    rfl
  · obtain ⟨a, q, c, out, m, rfl, hA, hq, ho, ho0, m1, m2, hnn, k⟩ := h
    have hr1 : Room 1 _ := hr.mono (by decide)
    refine ⟨_, pss_cons (ps_if (pt_not (pt_val (pe_cal CT hr1 rfl (pa_cons (pv 1) (pa_cons pe_int pa_nil))))) pss_never pss_nil)
      (pss_cons (ps_asg (pv 1) (pg_tup rfl (pgs_cons (pg_name (i := 2) scIsPh.nd rfl (Or.inl rfl)) (pgs_cons (pg_name (i := 3) scIsPh.nd rfl (Or.inl rfl)) pgs_nil))))
      (pss_cons (ps_if (PW.pt (pw_or (pt_not (pt_val (pe_cal CP hr rfl (pa_cons (pv 2) (pa_cons (pe_callB call_len_seq rfl T.len PySem.boot_len (pa_cons (pv 0) pa_nil)) pa_nil)))))
        (pw_or1 (pt_cmpR op_gt (pe_ix ix_tup (pv 0) (pv 2) (fun _ _ => rfl)) pe_int (nomark _))))) pss_never pss_nil)
      (pss_one (ps_ret (pe_and (pe_cal CW hr1 rfl (pa_cons (pv 3) pa_nil)) (pe_one (pe_chain op_le op_le pe_int (pv 3) (pe_callB (call_maxB rfl) rfl T.max b_max (pa_cons (pv 0) pa_nil))))))))), ?_⟩
    have hne : c ≠ [] := by intro z; rw [z] at ho; simp at ho
    refine ⟨_, rfl, q, _, 2, rfl, hq, rfl, true, rfl, iteF ?_⟩
    refine ⟨_, rfl, q, _, rfl, SqT.of hq, rfl, _, _, rfl, _, _, rfl, rfl, ?_⟩
    refine ⟨_, rfl, _, rfl, a, _, rfl, .inr (SqT.of hA), (out : Int), _, rfl, by omega, by rw [List.length_map]; omega, true, rfl, iteF ?_⟩
    refine ⟨_, rfl, _, rfl, a, _, _, .int 0, rfl, rfl, SqT.of hA, ?_, 0, 0, rfl, rfl, false, rfl, iteF ?_⟩
    · refine atI_nat ?_
      rw [List.getElem?_map, ho0]
      rfl
    refine ⟨_, rfl, m, rfl, true, rfl, iteT ⟨_, rfl, 1, m, rfl, rfl, true, congrArg V.bl (decide_eq_true m1), iteT ⟨_, rfl, false, a, c, rfl, SqT.of hA, hne, fun mm hm hg => ⟨_, _, rfl, rfl, ?_⟩⟩⟩⟩
    have em := mxl_eq hnn hm hg
    show Q (.bl (decide (m ≤ mm))) H
    rw [decide_eq_true (by omega)]
    exact k
/-! ### phase_done -/
theorem scPhDone : FnScope ["standing", "phase"] ["standing", "phase"] (defScope sPhDone) := ⟨rfl, rfl, rfl, by decide +kernel, rfl, by decide +kernel, by decide +kernel⟩
theorem ok_phdone {f fA fB fC : Addr} {fd dA dB dC : FuncData} (F : Fun K "phase_done" "phase_done" sPhDone f fd) (T : Txt mg) (CS : Cal P w K mg base 3 "check_standing" ["standing"] (spChkSt K) fA dA) (CP : Cal P w K mg base 3 "is_phase" ["counts", "phase"] spIsPh fB dB) (CB : Cal P w K mg base 1 "counts_behind" ["counts", "phase"] spBeh fC dC) : FnOk P w K mg base CX0 4 f fd ["standing", "phase"] spPhDone := by
  refine F.ok scPhDone (fun vs H Q E h => ?_) (fun cdv A outer s H vs Q E hr h => ?_)
  · obtain ⟨a, q, p, c, out, m, rfl, _⟩ := h
    rfl
  · obtain ⟨a, q, p, c, out, m, rfl, hA, hq, S, ho, ho0, m1, m2, k⟩ := h
    have hr1 : Room 1 _ := hr.mono (by decide)
    refine ⟨_, pss_cons (ps_expr (pe_cal CS hr rfl (pa_cons (pv 0) pa_nil)))
      (pss_cons (ps_if (pt_not (pt_val (pe_cal CP hr rfl (pa_cons (pv 0) (pa_cons (pv 1) pa_nil))))) pss_never pss_nil)
      (pss_one (ps_ret (pe_cal CB hr1 rfl (pa_cons (pv 0) (pa_cons (pv 1) pa_nil)))))), ?_⟩
    have hlen := S.len
    have p7 := S.p7
    refine ⟨_, rfl, a, p, c, rfl, hA, S, fun H1 s1 => ?_⟩
    refine ⟨_, rfl, _, rfl, a, q, c, out, m, rfl, s1 a _ hA, s1 q _ hq, ho, ho0, m1, m2, S.nn, true, rfl, iteF ?_⟩
    exact ⟨_, rfl, _, rfl, a, q, c, out, m, rfl, s1 a _ hA, s1 q _ hq, by omega, ho, ho0, m1, m2, S.nn, fun l H2 hl0 hl s2 => k l H2 (s1.free hl0) hl (s1.trans s2)⟩
end
end Fi90

set_option Elab.async false
set_option linter.all false
set_option maxRecDepth 100000
set_option maxHeartbeats 4000000
namespace Fi90
open PySem L2 Lv
section
variable {P : Program} {w : World} {K : PySem.W.Frag} {mg : Str → Option Value} {base : Heap}
theorem scPlDone : FnScope ["standing", "plan", "counts", "at", "phase"] ["standing", "plan"] (defScope sPlDone) := ⟨rfl, rfl, rfl, by decide +kernel, rfl, by decide +kernel, by decide +kernel⟩
def endF (p : Nat) : List Int → Nat → List Int
  | c, 0 => c
  | c, n + 1 => endF p (nxt p c n) n
def spPlDoneW : Sp := fun vs H Q _ => ∃ (a b : Addr) (p N : Nat) (st : List Int) (rs : List Addr), vs = [.ref a, .ref b] ∧ H a = some (.tup (st.map V.int)) ∧ H b = some (.lst (rs.map V.ref)) ∧ TTs H rs (planF p st N) ∧ Stand p st ∧ Lvl p (rk st) N ∧ N ≤ 401 ∧ ∀ l (c : List Int) H', H' l = some (.tup (c.map V.int)) → c.sum = 1 → endF p st N = c → Same H H' → Q (.ref l) H'
theorem W_pldone {vs : List V} {H : Hp} {Q : VK} {E : XK} (h : spPlDone vs H Q E) : spPlDoneW vs H Q E := by
  obtain ⟨a, b, p, N, st, rs, e, hA, hB, hT, S, hL, hN, k⟩ := h
  exact ⟨a, b, p, N, st, rs, e, hA, hB, hT, S, hL, hN, fun l c H' h1 h2 _ s => k l c H' h1 h2 s⟩
theorem wk_end {p : Nat} (hp : 2 ≤ p) : ∀ (N : Nat) {c : List Int} {ps : List (Int × Int)} (i : Nat), On p c N → planF p c N = ps.map prT → wk c ps i = .ok (endF p c N)
  | 0, c, [], i, h, e => rfl
  | 0, c, _ :: _, i, h, e => by cases e
  | n + 1, c, [], i, h, e => by cases e
  | n + 1, c, (o, m) :: ps, i, h, e => by
    obtain ⟨o1, o2⟩ := h.out
    rw [planF, List.map_cons] at e
    obtain ⟨e1, e2⟩ := List.cons.inj e
    unfold prT at e1
    obtain ⟨e3, e4⟩ := List.cons.inj e1
    obtain ⟨e4, _⟩ := List.cons.inj e4
    subst e3 e4
    rw [wk, if_pos (h.ok hp o1 o2), Int.toNat_natCast]
    exact wk_end hp n (i + 1) (h.step hp) e2
theorem ok_pldoneW {f fA fB fC : Addr} {fd dA dB dC : FuncData} (F : Fun K "plan_done" "plan_done" sPlDone f fd) (T : Txt mg) (Te : mg "enumerate" = none) (CS : Cal P w K mg base 3 "check_standing" ["standing"] (spChkSt K) fA dA) (CP : Cal P w K mg base 3 "is_phase" ["counts", "phase"] spIsPh fB dB) (CB : Cal P w K mg base 1 "counts_behind" ["counts", "phase"] spBeh fC dC) : FnOk P w K mg base CX0 4 f fd ["standing", "plan"] spPlDoneW := by
  refine F.ok scPlDone (fun vs H Q E h => ?_) (fun cdv A outer s H vs Q E hr h => ?_)
  · obtain ⟨a, b, p, N, st, rs, rfl, _⟩ := h
    rfl
  · obtain ⟨a, b, p, N, st, rs, rfl, hA, hB, hT, S, hL, hN, k⟩ := h
    have hr1 : Room 1 _ := hr.mono (by decide)
    refine ⟨_, pss_cons (ps_expr (pe_cal CS hr rfl (pa_cons (pv 0) pa_nil)))
      (pss_cons (ps_set (i := 2) scPlDone.nd rfl (Or.inl rfl) (pv 0))
      (pss_cons (ps_for PassesOwn.never rfl (pi_enumB rfl Te (pa_cons (pv 1) pa_nil)) (pg_tup rfl (pgs_cons (pg_name (i := 3) scPlDone.nd rfl (Or.inl rfl)) (pgs_cons (pg_name (i := 4) scPlDone.nd rfl (Or.inl rfl)) pgs_nil)))
        (pss_cons (ps_if (pt_not (pt_val (pe_cal CP hr rfl (pa_cons (pv 2) (pa_cons (pv 4) pa_nil))))) pss_never pss_nil)
        (pss_one (ps_set (i := 2) scPlDone.nd rfl (Or.inl rfl) (pe_cal CB hr1 rfl (pa_cons (pv 2) (pa_cons (pv 4) pa_nil)))))))
      (pss_cons (ps_if (pt_cmpR op_gt (pe_callB (call_sumT rfl) rfl T.sum b_sum (pa_cons (pv 2) pa_nil)) pe_int (nomark _)) pss_never pss_nil)
      (pss_one (ps_ret (pv 2)))))), ?_⟩
    have hrl : rs.length = N := by rw [hT.1, planF_len]
    have p2 := S.p2
    have p7 := S.p7
    refine ⟨_, rfl, a, p, st, rfl, hA, S, fun H1 s1 => ?_⟩
    refine ⟨_, rfl, _, rfl, b, true, rfl, ⟨_, SqL.of (s1 b _ hB)⟩, ?_⟩
    refine for_enumB (b := true) (xs := rs.map V.ref) (fun i σ H2 => ∃ (ca : Addr) (c : List Int) (o3 o4 : Option V), σ = [some (.ref a), some (.ref b), some (.ref ca), o3, o4] ∧ H2 ca = some (.tup (c.map V.int)) ∧ On p c (N - i) ∧ (planF p st N).drop i = planF p c (N - i) ∧ endF p st N = endF p c (N - i) ∧ Same H H2)
      ⟨a, st, none, none, rfl, s1 a _ hA, S.on hL, rfl, rfl, s1⟩ (fun i σ H2 _ ⟨_, _, _, _, _, _, _, _, _, s2⟩ => SqL.of (s2 b _ hB)) ?_ ?_
    · rintro i x q0 σ H2 hx ⟨ca, c, o3, o4, rfl, hc, hOn, hpf, hen, s2⟩ hq0
      rw [List.getElem?_map] at hx
      obtain ⟨q, hq, rfl⟩ := Option.map_eq_some_iff.mp hx
      have hi : i < N := by have := (List.getElem?_eq_some_iff.mp hq).1; omega
      obtain ⟨n, hn⟩ : ∃ n, N - i = n + 1 := ⟨N - i - 1, by omega⟩
      rw [hn] at hOn hpf hen
      obtain ⟨hph, hdr⟩ := plan_drop hpf
      have s3 : Same H2 (upd H2 q0 (.tup [.int i, .ref q])) := Same.new hq0
      have hqL := s3 q _ (s2 q _ (hT.2 i q _ hq hph))
      have hc3 := s3 ca _ hc
      obtain ⟨o1, o2⟩ := hOn.out
      obtain ⟨m1, m2⟩ := hOn.ph p2 (k := n)
      have hcl := hOn.len
      refine ⟨q0, _, rfl, SqT.of upd_same, rfl, _, _, rfl, _, _, rfl, rfl, ?_⟩
      refine ⟨_, rfl, _, rfl, ca, q, c, c.idxOf 0, ph p c n, rfl, hc3, hqL, o1, o2, m1, m2, hOn.nn, true, rfl, iteF ?_⟩
      refine ⟨_, rfl, _, rfl, ca, q, c, c.idxOf 0, ph p c n, rfl, hc3, hqL, by omega, o1, o2, m1, m2, hOn.nn, fun l H4 hl0 hl4 s4 => ?_⟩
      refine ⟨l, nxt p c n, _, _, rfl, hl4, ?_, ?_, ?_, (s2.trans s3).trans s4⟩
      · rw [show N - (i + 1) = n by omega]
        exact hOn.step p2
      · rw [show N - (i + 1) = n by omega]
        exact hdr
      · rw [show N - (i + 1) = n by omega]
        exact hen
    · rintro σ H2 ⟨ca, c, o3, o4, rfl, hc, hOn, hpf, hen, s2⟩
      rw [List.length_map, hrl, Nat.sub_self] at hOn hen
      have e1 := hOn.one
      refine ⟨_, rfl, ca, c, rfl, SqT.of hc, c.sum, 1, rfl, rfl, _, rfl, ?_⟩
      rw [e1]
      exact iteF ⟨_, rfl, k ca c H2 hc e1 hen s2⟩

theorem ok_placeB {f fW : Addr} {fd dW : FuncData} (F : Fun K "is_place" "is_place" sPlace f fd) (T : Txt mg) (CW : Cal P w K mg base 1 "is_whole" ["thing"] spWhole fW dW) : FnOk P w K mg base CX0 2 f fd ["thing", "many"] spPlaceB := by
  refine F.ok scPlace (fun vs H Q E h => ?_) (fun cdv A outer s H vs Q E hr h => ?_)
  · obtain ⟨i, n, rfl, _⟩ := h
    rfl
  · obtain ⟨i, n, rfl, k⟩ := h
    refine ⟨_, pss_one (ps_ret (pe_and (pe_cal CW hr rfl (pa_cons (pv 0) pa_nil)) (pe_one (pe_chain op_le op_lt pe_int (pv 0) (pv 1))))), ?_⟩
    refine ⟨_, rfl, i, rfl, true, rfl, iteT ⟨_, rfl, 0, i, rfl, rfl, _, rfl, ?_⟩⟩
    by_cases h1 : (0 : Int) ≤ i
    · rw [decide_eq_true h1]
      refine iteT ⟨_, rfl, i, n, rfl, rfl, ?_⟩
      show Q (.bl (decide (i < n))) H
      rw [show decide (0 ≤ i ∧ i < n) = decide (i < n) from by simp [h1]] at k
      exact k
    · rw [decide_eq_false h1]
      refine iteF ?_
      rw [decide_eq_false (fun z => h1 z.1)] at k
      exact k

theorem ok_isphL {f fA fB fC : Addr} {fd dA dB dC : FuncData} (F : Fun K "is_phase" "is_phase" sIsPh f fd) (T : Txt mg) (CW : Cal P w K mg base 1 "is_whole" ["thing"] spWhole fA dA) (CP : Cal P w K mg base 2 "is_place" ["thing", "many"] spPlaceB fB dB) (CT : Cal P w K mg base 1 "is_tuple_of" ["thing", "many"] spTupOf fC dC) : FnOk P w K mg base CX0 3 f fd ["counts", "phase"] spIsPhL := by
  refine F.ok scIsPh (fun vs H Q E h => ?_) (fun cdv A outer s H vs Q E hr h => ?_)
  · obtain ⟨a, q, c, out, m, rfl, _⟩ := h
    rfl
  · obtain ⟨a, q, c, out, m, rfl, hA, hq, hne, hnn, k⟩ := h
    have hr1 : Room 1 _ := hr.mono (by decide)
    refine ⟨_, pss_cons (ps_if (pt_not (pt_val (pe_cal CT hr1 rfl (pa_cons (pv 1) (pa_cons pe_int pa_nil))))) (pss_one (ps_ret pe_bl)) pss_nil)
      (pss_cons (ps_asg (pv 1) (pg_tup rfl (pgs_cons (pg_name (i := 2) scIsPh.nd rfl (Or.inl rfl)) (pgs_cons (pg_name (i := 3) scIsPh.nd rfl (Or.inl rfl)) pgs_nil))))
      (pss_cons (ps_if (PW.pt (pw_or (pt_not (pt_val (pe_cal CP hr rfl (pa_cons (pv 2) (pa_cons (pe_callB call_len_seq rfl T.len PySem.boot_len (pa_cons (pv 0) pa_nil)) pa_nil)))))
        (pw_or1 (pt_cmpR op_gt (pe_ix ix_list (pv 0) (pv 2) (fun _ _ => rfl)) pe_int (nomark _))))) (pss_one (ps_ret pe_bl)) pss_nil)
      (pss_one (ps_ret (pe_and (pe_cal CW hr1 rfl (pa_cons (pv 3) pa_nil)) (pe_one (pe_chain op_le op_le pe_int (pv 3) (pe_callB (call_maxB rfl) rfl T.max b_max (pa_cons (pv 0) pa_nil))))))))), ?_⟩
    refine ⟨_, rfl, q, _, 2, rfl, hq, rfl, true, rfl, iteF ?_⟩
    refine ⟨_, rfl, q, _, rfl, SqT.of hq, rfl, _, _, rfl, _, _, rfl, rfl, ?_⟩
    refine ⟨_, rfl, _, rfl, a, _, rfl, .inl (SqL.of hA), out, _, rfl, _, rfl, ?_⟩
    rw [List.length_map]
    by_cases ho : 0 ≤ out ∧ out < (c.length : Int)
    · rw [decide_eq_true ho]
      have hat : atI (c.map V.int) out = some (.int (c.getD out.toNat 0)) := by
        obtain ⟨n, rfl⟩ : ∃ n : Nat, out = n := ⟨out.toNat, by omega⟩
        have hn : n < c.length := by omega
        refine atI_nat ?_
        rw [List.getElem?_map, List.getElem?_eq_getElem hn, Int.toNat_natCast, List.getD_eq_getElem?_getD, List.getElem?_eq_getElem hn]
        rfl
      refine iteF ⟨_, rfl, _, rfl, a, _, _, .int (c.getD out.toNat 0), rfl, rfl, SqL.of hA, hat, _, 0, rfl, rfl, _, rfl, ?_⟩
      by_cases h0 : 0 < c.getD out.toNat 0
      · rw [decide_eq_true h0]
        refine iteT ?_
        rw [decide_eq_false (fun z => by have := z.2.1; (clear ho; omega))] at k
        exact k
      · rw [decide_eq_false h0]
        refine iteF ⟨_, rfl, m, rfl, true, rfl, iteT ⟨_, rfl, 1, m, rfl, rfl, _, rfl, ?_⟩⟩
        by_cases h1 : (1 : Int) ≤ m
        · rw [decide_eq_true h1]
          refine iteT ⟨_, rfl, true, a, c, rfl, SqL.of hA, hne, fun mm hm hg => ⟨_, _, rfl, rfl, ?_⟩⟩
          have em := mxl_eq hnn hm hg
          show Q (.bl (decide (m ≤ mm))) H
          rw [em]
          rw [show decide (PhOk c out m) = decide (m ≤ mxl c) from by
            by_cases h2 : m ≤ mxl c
            · rw [decide_eq_true h2]; exact decide_eq_true ⟨ho, by (clear h2 em h1 ho; omega), h1, h2⟩
            · rw [decide_eq_false h2]; exact decide_eq_false fun z => h2 z.2.2.2] at k
          exact k
        · rw [decide_eq_false h1]
          refine iteF ?_
          rw [decide_eq_false (fun z => h1 z.2.2.1)] at k
          exact k
    · rw [decide_eq_false ho]
      refine iteT (iteT ?_)
      rw [decide_eq_false (fun z => ho z.1)] at k
      exact k


end
end Fi90

set_option Elab.async false
set_option linter.all false
set_option maxRecDepth 100000
set_option maxHeartbeats 4000000
namespace Fi90
open PySem L2 Lv
section
variable {P : Program} {w : World} {K : PySem.W.Frag} {mg : Str → Option Value} {base : Heap}
/-! ### is_plan -/
theorem scIsPl : FnScope ["standing", "plan"] ["standing", "plan"] (defScope sIsPl) := ⟨rfl, rfl, rfl, by decide +kernel, rfl, by decide +kernel, by decide +kernel⟩
theorem ok_ispl {f fA : Addr} {fd dA : FuncData} (F : Fun K "is_plan" "is_plan" sIsPl f fd) (T : Txt mg) (CD : Cal P w K mg base 4 "plan_done" ["standing", "plan"] spPlDone fA dA) : FnOk P w K mg base CX0 5 f fd ["standing", "plan"] spIsPl := by
  refine F.ok scIsPl (fun vs H Q E h => ?_) (fun cdv A outer s H vs Q E hr h => ?_)
  · obtain ⟨a, b, p, N, st, rs, rfl, _⟩ := h
    rfl
  · obtain ⟨a, b, p, N, st, rs, rfl, hA, hB, hT, S, hL, hN, k⟩ := h
    refine ⟨_, pss_cons (ps_tryN (pss_one (ps_expr (pe_cal CD hr rfl (pa_cons (pv 0) (pa_cons (pv 1) pa_nil)))))) (pss_one (ps_ret pe_bl)), ?_⟩
    exact ⟨_, rfl, _, rfl, a, b, p, N, st, rs, rfl, hA, hB, hT, S, hL, hN, fun l c H1 _ _ s1 => k H1 s1⟩
/-! ### phases_right -/
theorem scPhR : FnScope ["standing", "told", "phases", "plan", "bar", "fewer"] ["standing", "told"] (defScope sPhR) := ⟨rfl, rfl, rfl, by decide +kernel, rfl, by decide +kernel, by decide +kernel⟩
theorem ok_phr {f f1 f2 f3 f4 f5 f6 f7 : Addr} {fd d1 d2 d3 d4 d5 d6 d7 : FuncData} (F : Fun K "phases_right" "phases_right" sPhR f fd) (T : Txt mg) (CS : Cal P w K mg base 3 "check_standing" ["standing"] (spChkSt K) f1 d1) (CT : Cal P w K mg base 1 "is_tuple_of" ["thing", "many"] spTupOf f2 d2) (CL : Cal P w K mg base 2 "levels_to" ["standing"] spLvTo f3 d3) (CW : Cal P w K mg base 1 "is_whole" ["thing"] spWhole f4 d4) (CI : Cal P w K mg base 1 "is_listed" ["thing"] spListed f5 d5) (CP : Cal P w K mg base 5 "is_plan" ["standing", "plan"] spIsPl f6 d6) (CB : Cal P w K mg base 3 "is_bar" ["level", "standing", "bar"] spIsBar f7 d7) : FnOk P w K mg base CX0 6 f fd ["standing", "told"] spPhR := by
  refine F.ok scPhR (fun vs H Q E h => ?_) (fun cdv A outer s H vs Q E hr h => ?_)
  · obtain ⟨a, t, l, p, N, st, rs, rfl, _⟩ := h
    rfl
  · obtain ⟨a, t, l, p, N, st, rs, rfl, hA, S, hL, hN, ht, hl, hT, k⟩ := h
    have hr1 : Room 1 _ := hr.mono (by decide)
    have hr2 : Room 2 _ := hr.mono (by decide)
    have hr3 : Room 3 _ := hr.mono (by decide)
    refine ⟨_, pss_cons (ps_expr (pe_cal CS hr3 rfl (pa_cons (pv 0) pa_nil)))
      (pss_cons (ps_if (pt_not (pt_val (pe_cal CT hr1 rfl (pa_cons (pv 1) (pa_cons pe_int pa_nil))))) pss_never pss_nil)
      (pss_cons (ps_asg (pv 1) (pg_tup rfl (pgs_cons (pg_name (i := 2) scPhR.nd rfl (Or.inl rfl)) (pgs_cons (pg_name (i := 3) scPhR.nd rfl (Or.inl rfl)) (pgs_cons (pg_name (i := 4) scPhR.nd rfl (Or.inl rfl)) pgs_nil)))))
      (pss_cons (ps_set (i := 5) scPhR.nd rfl (Or.inl rfl) (pe_slice sl_list (pe_cal CL hr2 rfl (pa_cons (pv 0) pa_nil)) po_none (po_some (pe_un un_neg pe_int))))
      (pss_cons (ps_if (PW.pt (pw_or (pt_not (pt_val (pe_cal CW hr1 rfl (pa_cons (pv 2) pa_nil)))) (pw_or1 (pt_cmpR op_ne (pv 2) (pe_callB call_len_seq rfl T.len PySem.boot_len (pa_cons (pv 5) pa_nil)) (nomark _))))) pss_never pss_nil)
      (pss_cons (ps_if (PW.pt (pw_or (pt_not (pt_val (pe_cal CI hr1 rfl (pa_cons (pv 3) pa_nil)))) (pw_or (pt_cmpR op_ne (pe_callB call_len_seq rfl T.len PySem.boot_len (pa_cons (pv 3) pa_nil)) (pv 2) (nomark _)) (pw_or1 (pt_not (pt_val (pe_cal CP hr rfl (pa_cons (pv 0) (pa_cons (pv 3) pa_nil))))))))) pss_never pss_nil)
      (pss_one (ps_ret (pe_ifExp (pt_truth (pv 5) (fun _ => rfl)) (pe_cal CB hr3 rfl (pa_cons (pe_ix ix_list (pv 5) (pe_un un_neg pe_int) (fun _ _ => rfl)) (pa_cons (pv 0) (pa_cons (pv 4) pa_nil)))) (pe_cmpR op_isN (pv 4) pe_non (nomark _)))))))))), ?_⟩
    have hlen := S.len
    have p2 := S.p2
    have p7 := S.p7
    refine ⟨_, rfl, a, p, st, rfl, hA, S, fun H1 s1 => ?_⟩
    refine ⟨_, rfl, t, _, 3, rfl, s1 t _ ht, rfl, true, rfl, iteF ?_⟩
    refine ⟨_, rfl, t, _, rfl, SqT.of (s1 t _ ht), rfl, _, _, rfl, _, _, rfl, _, _, rfl, rfl, ?_⟩
    refine ⟨_, rfl, a, p, st, rfl, s1 a _ hA, S, fun N' fl qs H2 hN' _ hl0 hl2 ht2 s2 => ?_⟩
    have eN := hL.uniq hN'
    subst eN
    obtain ⟨qs', q, rfl, htt, hq⟩ := Lv.TTs.last ht2
    rw [List.map_append] at hl2
    refine ⟨1, rfl, -1, rfl, fl, _, rfl, SqL.of hl2, fun fw hfw => ?_⟩
    have ec : cutV (qs'.map V.ref ++ [q].map V.ref) none (some (-1)) = qs'.map V.ref := cut_last _ _
    rw [ec]
    have s3 := (s1.trans s2).trans (Same.new (o := .lst (qs'.map V.ref)) hfw)
    have hfw3 : (upd H2 fw (.lst (qs'.map V.ref))) fw = some (.lst (qs'.map V.ref)) := upd_same
    have ht3 := htt.same (Same.new (o := .lst (qs'.map V.ref)) hfw)
    generalize upd H2 fw (.lst (qs'.map V.ref)) = H3 at s3 hfw3 ht3 ⊢
    have hql : qs'.length = N := by rw [htt.1, lvls_len]
    have hrl : rs.length = N := by rw [hT.1, planF_len]
    refine ⟨_, rfl, (N : Int), rfl, true, rfl, iteF ?_⟩
    refine ⟨_, rfl, _, rfl, fw, _, rfl, .inl (SqL.of hfw3), rfl, false, ?_, iteF ?_⟩
    · rw [List.length_map, hql]
      simp
    refine ⟨_, rfl, l, _, rfl, s3 l _ hl, fun H4 s4 => ⟨true, rfl, iteF ?_⟩⟩
    have s04 := s3.trans s4
    refine ⟨_, rfl, l, _, rfl, .inl (SqL.of (s04 l _ hl)), _, rfl, rfl, false, ?_, iteF ?_⟩
    · rw [List.length_map, hrl]
      simp
    refine ⟨_, rfl, _, rfl, a, l, p, N, st, rs, rfl, s04 a _ hA, s04 l _ hl, hT.same s04, S, hL, hN, fun H5 s5 => ⟨true, rfl, iteF ?_⟩⟩
    have s05 := s04.trans s5
    have hfw5 := s5 fw _ (s4 fw _ hfw3)
    have hemp : (!(qs'.map V.ref).isEmpty) = decide (N ≠ 0) := by
      rw [← hql]
      cases qs' <;> simp
    refine ⟨_, rfl, _, .inl ⟨_, SqL.of hfw5, rfl⟩, ?_⟩
    rw [hemp]
    by_cases hz : N = 0
    · rw [decide_eq_false (by simpa using hz)]
      refine iteF ⟨_, rfl, rfl, ?_⟩
      have eb : ovV (barF p st N) = V.non := by
        unfold barF
        rw [if_pos hz]
        rfl
      rw [eb]
      exact k H5 s05
    · rw [decide_eq_true hz]
      obtain ⟨n, rfl⟩ : ∃ n, N = n + 1 := ⟨N - 1, by omega⟩
      have ht5 := (ht3.same s4).same s5
      obtain ⟨qs2, q2, rfl, ht6, hq6⟩ := Lv.TTs.last ht5
      have hclen := cnt_len (p := p) (by omega) n
      obtain ⟨_, _, fb1, fb2⟩ := fb_ok (hL.2 n (by omega))
      have eb : barF p st (n + 1) = some ((fb (cnt p n) (rk st) : Nat) : Int) := by
        unfold barF
        rw [if_neg (by omega)]
        rfl
      refine iteT ⟨_, rfl, 1, rfl, fw, _, -1, .ref q2, rfl, rfl, SqL.of hfw5, ?_, ?_⟩
      · rw [List.map_append]
        exact atI_last _ _
      rw [eb]
      refine ⟨_, rfl, _, rfl, q2, a, cnt p n, st, fb (cnt p n) (rk st), rfl, hq6, s05 a _ hA, by omega, by omega, by omega, fun H6 s6 => ?_⟩
      rw [decide_eq_true fb2]
      exact k H6 (s05.trans s6)
end
end Fi90

set_option Elab.async false
set_option linter.all false
set_option maxRecDepth 100000
set_option maxHeartbeats 4000000
namespace Lv
open PySem L2
/-- a comprehension of drawn numbers -/
theorem comp_potC {own : List Str} {js : List Nat} {g : TG} {te : TE} {σ : L2.St} {H1 : Hp} {Q : VK} {lo : Int} {n : Nat} {pl : Addr} {c0 per M : Int} (hp : PotC H1 pl c0) (hn : n ≤ 15000)
    (hs : ∀ (i : Nat) H c, i < n → c ≤ c0 + per * i → PotC H pl c → Sm pl H1 H → ∀ R : VK, (∀ d H' c', 0 ≤ d → d < M → c' ≤ c + per → PotC H' pl c' → Sm pl H H' → R (.int d) H') → g (.int (lo + (i : Int))) (blkσ own js σ) H fun τ H4 => te τ H4 R)
    (hd : ∀ acc (ns : List Int) H c, acc ≠ pl → H1 acc = none → H acc = some (.lst (ns.map V.int)) → ns.length = n → (∀ x ∈ ns, 0 ≤ x ∧ x < M) → PotC H pl c → c ≤ c0 + per * n → Sm pl H1 H → Q (.ref acc) H) : tCompW own js g tTrue te σ (Itr lo n) H1 Q := by
  refine comp_range (fun acc i H => ∃ (ns : List Int) (c : Int), H acc = some (.lst (ns.map V.int)) ∧ ns.length = i ∧ (∀ x ∈ ns, 0 ≤ x ∧ x < M) ∧ PotC H pl c ∧ c ≤ c0 + per * i ∧ Sm pl H1 H) (fun acc h0 => ⟨[], c0, upd_same, rfl, by simp, hp.put h0, by simp, Sm.new h0⟩) ?_ ?_
  · rintro acc i H h0 hi ⟨ns, c, hacc, hl, hP, hp2, hc, s2⟩
    have ha : acc ≠ pl := hp.ne h0
    refine (cast ?_ (hs i H c hi hc hp2 s2 (fun y H6 => ∃ zs, H6 acc = some (.lst zs) ∧ zs.length < sizeLine ∧ (i + 1 ≤ n ∧ ∃ (ns : List Int) (c : Int), upd H6 acc (.lst (zs ++ [y])) acc = some (.lst (ns.map V.int)) ∧ ns.length = i + 1 ∧ (∀ x ∈ ns, 0 ≤ x ∧ x < M) ∧ PotC (upd H6 acc (.lst (zs ++ [y]))) pl c ∧ c ≤ c0 + per * ((i + 1 : Nat) : Int) ∧ Sm pl H1 (upd H6 acc (.lst (zs ++ [y]))))) fun d H6 c6 d0 d1 hc6 hp6 s6 => ?_))
    · unfold tTrue
      simp only [if_true]
    · have h6 := s6 _ _ hacc ha
      refine ⟨_, h6, small15 (by rw [List.length_map]; omega), hi, ns ++ [d], c6, by rw [upd_same, List.map_append]; rfl, by simp [hl], fun x hx => ?_, hp6.off ha, ?_, (s2.trans s6).putC h0⟩
      · rcases List.mem_append.mp hx with z | z
        · exact hP x z
        · rw [List.mem_singleton.mp z]
          exact ⟨d0, d1⟩
      · have : per * ((i + 1 : Nat) : Int) = per * (i : Int) + per := by rw [Int.natCast_add, Int.mul_add]; simp
        omega
  · rintro acc H h0 ⟨ns, c, hacc, hl, hP, hp2, hc, s2⟩
    exact hd acc ns H c (hp.ne h0) h0 hacc hl hP hp2 hc s2
/-- a row that was drawn: short, sorted, new -/
def Lot (H1 : Hp) (pl : Addr) (c : Cell) : Prop := ∃ r xs, c = some (r, xs) ∧ xs.length ≤ 4 ∧ xs.Pairwise (· ≤ ·) ∧ H1 r = none ∧ r ≠ pl
theorem comp_lots {own : List Str} {js : List Nat} {g : TG} {te : TE} {σ : L2.St} {H1 : Hp} {Q : VK} {lo : Int} {n : Nat} {pl : Addr} {c0 : Int} (hp : PotC H1 pl c0) (hn : n ≤ 15000)
    (hs : ∀ (i : Nat) H c, i < n → c ≤ c0 + 5 * i → PotC H pl c → Sm pl H1 H → ∀ R : VK, (∀ l (xs : List Int) H' c', H l = none → H' l = some (.lst (xs.map V.int)) → xs.length ≤ 4 → xs.Pairwise (· ≤ ·) → c' ≤ c + 5 → PotC H' pl c' → Sm pl H H' → R (.ref l) H') → g (.int (lo + (i : Int))) (blkσ own js σ) H fun τ H4 => te τ H4 R)
    (hd : ∀ acc (cs : List Cell) H c, acc ≠ pl → H1 acc = none → tOk H (acc, cs) → cs.length = n → (∀ x ∈ cs, Lot H1 pl x) → PotC H pl c → c ≤ c0 + 5 * n → Sm pl H1 H → Q (.ref acc) H) : tCompW own js g tTrue te σ (Itr lo n) H1 Q := by
  refine comp_range (fun acc i H => ∃ (cs : List Cell) (c : Int), tOk H (acc, cs) ∧ cs.length = i ∧ (∀ x ∈ cs, Lot H1 pl x) ∧ acc ∉ cs.flatMap cA ∧ PotC H pl c ∧ c ≤ c0 + 5 * i ∧ Sm pl H1 H) (fun acc h0 => ⟨[], c0, ⟨upd_same, fun c hc => by simp at hc⟩, rfl, by simp, by simp, hp.put h0, by simp, Sm.new h0⟩) ?_ ?_
  · rintro acc i H h0 hi ⟨cs, c, ⟨hacc, hok⟩, hl, hP, hna, hp2, hc, s2⟩
    have ha : acc ≠ pl := hp.ne h0
    refine (cast ?_ (hs i H c hi hc hp2 s2 (fun y H6 => ∃ zs, H6 acc = some (.lst zs) ∧ zs.length < sizeLine ∧ (i + 1 ≤ n ∧ ∃ (cs : List Cell) (c : Int), tOk (upd H6 acc (.lst (zs ++ [y]))) (acc, cs) ∧ cs.length = i + 1 ∧ (∀ x ∈ cs, Lot H1 pl x) ∧ acc ∉ cs.flatMap cA ∧ PotC (upd H6 acc (.lst (zs ++ [y]))) pl c ∧ c ≤ c0 + 5 * ((i + 1 : Nat) : Int) ∧ Sm pl H1 (upd H6 acc (.lst (zs ++ [y]))))) fun l xs H6 c6 l0 l6 hx4 hxs hc6 hp6 s6 => ?_))
    · unfold tTrue
      simp only [if_true]
    · have h6 := s6 _ _ hacc ha
      have hla : l ≠ acc := fun z => by rw [z] at l0; rw [l0] at hacc; cases hacc
      have hlp : l ≠ pl := hp2.ne l0
      refine ⟨_, h6, small15 (by rw [List.length_map]; show cs.length ≤ 15001; omega), hi, cs ++ [some (l, xs)], c6, ⟨by dsimp only; rw [upd_same, List.map_append]; rfl, fun x hx => ?_⟩, by simp [hl], fun x hx => ?_, ?_, hp6.off ha, by omega, (s2.trans s6).putC h0⟩
      · rcases List.mem_append.mp hx with z | z
        · obtain ⟨r, ys, rfl, _, _, r0, rp⟩ := hP x z
          have hne : r ≠ acc := fun q => hna (List.mem_flatMap.mpr ⟨_, z, by rw [q]; simp [cA]⟩)
          show upd H6 acc _ r = _
          rw [upd_ne hne]
          exact s6 r _ (hok _ z) rp
        · rw [List.mem_singleton.mp z]
          show upd H6 acc _ l = _
          rw [upd_ne hla]
          exact l6
      · rcases List.mem_append.mp hx with z | z
        · exact hP x z
        · rw [List.mem_singleton.mp z]
          exact ⟨l, xs, rfl, hx4, hxs, s2.free hlp l0, hlp⟩
      · rw [List.flatMap_append]
        intro z
        rcases List.mem_append.mp z with z | z
        · exact hna z
        · simp [cA] at z
          exact hla z.symm
  · rintro acc H h0 ⟨cs, c, ht, hl, hP, hna, hp2, hc, s2⟩
    exact hd acc cs H c (hp.ne h0) h0 ht hl hP hp2 hc s2
end Lv

set_option Elab.async false
set_option linter.all false
set_option maxRecDepth 100000
set_option maxHeartbeats 4000000
namespace Fi90
open PySem L2 Lv
section
variable {P : Program} {w : World} {K : PySem.W.Frag} {mg : Str → Option Value} {base : Heap}
theorem scLot : FnScope ["pot"] ["pot"] (defScope sLot) := ⟨rfl, rfl, rfl, by decide +kernel, rfl, by decide +kernel, by decide +kernel⟩
def spLot : Sp := fun vs H Q _ => ∃ (p : Addr) (c : Int), vs = [.ref p] ∧ PotC H p c ∧ c ≤ 900000000 ∧ ∀ l (xs : List Int) H' c', H l = none → H' l = some (.lst (xs.map V.int)) → xs.length ≤ 4 → xs.Pairwise (· ≤ ·) → c' ≤ c + 5 → PotC H' p c' → Sm p H H' → Q (.ref l) H'
theorem ok_lot {f f1 : Addr} {fd d1 : FuncData} (F : Fun K "_law_lot" "_law_lot" sLot f fd) (T : Txt mg) (CK : Cal P w K mg base 1 "_law_take" ["pot", "size"] spTakeC f1 d1) : FnOk P w K mg base CX0 2 f fd ["pot"] spLot := by
  refine F.ok scLot (fun vs H Q E h => ?_) (fun cdv A outer s H vs Q E hr h => ?_)
  · obtain ⟨p, c, rfl, _⟩ := h
    rfl
  · obtain ⟨p, c, rfl, hP, hc, k⟩ := h
    have hr1 : Room 1 _ := hr.mono (by decide)
    refine ⟨_, (pss_one (ps_ret (pe_callB call_sortA rfl T.sorted b_sorted (pa_cons (pe_comp (own := ["one"]) (js := [0]) (CompOk.by (sc := defScope sLot) (N := ["pot"]) rfl rfl (by decide +kernel)) rfl (pi_range1 rfl T.range (pa_cons (pe_cal CK hr1 rfl (pa_cons (pv 0) (pa_cons pe_int pa_nil))) pa_nil)) gkeep_name (fun _ _ _ _ _ => (pg_name (i := 0) (by show (["one", "pot"] : List Str).Nodup; decide +kernel) rfl (Or.inl rfl) (.inr rfl))) (fun _ _ _ _ _ => pts_nil) (fun _ _ _ _ _ => (pe_cal CK hr1 rfl (pa_cons (pv 1) (pa_cons pe_int pa_nil))))) pa_nil)))), ?_⟩
    refine ⟨_, rfl, p, 5, c, rfl, hP, by omega, by decide, by decide, fun d H2 d0 d1 hP2 sm2 => ?_⟩
    obtain ⟨d, rfl⟩ : ∃ m : Nat, d = (m : Int) := ⟨d.toNat, by omega⟩
    refine ⟨_, rfl, by omega, by omega, ?_⟩
    rw [show ((d : Nat) : Int).toNat = d by omega]
    refine comp_potC (M := 50) (per := 1) hP2 (by omega) (fun i Hx cx hi hcx hPx smx R hR => ?_) fun acc ns Hx cx hap h0 hacc hnl hnb hPx hcx smx => ?_
    · exact ⟨_, rfl, p, 50, cx, rfl, hPx, by omega, by decide, by decide, fun x H3 x1 x2 hP3 sm3 => hR x H3 (cx + 1) x1 x2 (by omega) hP3 sm3⟩
    · refine ⟨acc, ns, rfl, SqL.of hacc, fun l ms hl hpm hup => ?_⟩
      have hlp : l ≠ p := hPx.ne hl
      have sm := sm2.trans smx
      exact k l ms _ cx (sm.free hlp hl) upd_same (by rw [hpm.length_eq]; omega) hup (by omega) (hPx.put hl) (sm.trans (Sm.new hl))

theorem scLCo90 : FnScope ["pot", "p", "counts", "at", "turn"] ["pot", "p"] (defScope sLCo90) := ⟨rfl, rfl, rfl, by decide +kernel, rfl, by decide +kernel, by decide +kernel⟩
def spLCo90 : Sp := fun vs H Q _ => ∃ (pl : Addr) (p : Nat) (c : Int), vs = [.ref pl, .int p] ∧ 2 ≤ p ∧ p ≤ 7 ∧ PotC H pl c ∧ c ≤ 900000000 ∧ ∀ l (cs : List Int) H' c', H l = none → H' l = some (.lst (cs.map V.int)) → cs.length = p → (∀ x ∈ cs, 0 ≤ x ∧ x ≤ 102) → 1 ≤ cs.sum → c' ≤ c + 30 → PotC H' pl c' → Sm pl H H' → Q (.ref l) H'
theorem cntS90 {p n : Nat} (h2 : 2 ≤ p) (h7 : p ≤ 7) (hn : n ≤ 6) : ∀ x ∈ cnt p n, 0 ≤ x ∧ x ≤ 100 := (by decide +kernel : ∀ p, p < 8 → 2 ≤ p → ∀ n, n < 7 → ∀ x ∈ cnt p n, 0 ≤ x ∧ x ≤ 100) p (by omega) h2 n (by omega)
theorem sum_nn : ∀ {xs : List Int}, (∀ x ∈ xs, 0 ≤ x) → 0 ≤ xs.sum
  | [], _ => by simp
  | x :: xs, h => by
    have h1 := h x List.mem_cons_self
    have h2 := sum_nn fun y hy => h y (List.mem_cons_of_mem _ hy)
    rw [List.sum_cons]
    omega
theorem cut_takeS (cs : List Int) (m : Nat) : cutV (cs.map V.int) none (some (m : Int)) = (cs.take m).map V.int := by
  unfold cutV
  show ((cs.map V.int).drop 0).take (HT.sIx (cs.map V.int).length (cs.map V.int).length (some ((m : Nat) : Int)) - 0) = _
  rw [HT.sIx_nat, Nat.sub_zero, List.drop_zero, List.map_take]
  rcases Nat.le_total m (cs.map V.int).length with h | h
  · rw [Nat.min_eq_left h]
  · rw [Nat.min_eq_right h, List.take_length, List.take_of_length_le h]
theorem cut_dropS (cs : List Int) (m : Nat) (h : m ≤ cs.length) : cutV (cs.map V.int) (some (m : Int)) none = (cs.drop m).map V.int := by
  unfold cutV
  show ((cs.map V.int).drop (HT.sIx (cs.map V.int).length 0 (some ((m : Nat) : Int)))).take ((cs.map V.int).length - HT.sIx (cs.map V.int).length 0 (some ((m : Nat) : Int))) = _
  rw [HT.sIx_nat, Nat.min_eq_left (by rw [List.length_map]; exact h), List.map_drop, List.take_of_length_le (by rw [List.length_drop]; exact Nat.le_refl _)]
theorem ixN_nat {n j : Nat} (h : j < n) : ixN n (j : Int) = some j := by
  unfold ixN
  rw [if_pos (by omega), if_pos (by omega)]
  simp
theorem tab90 {p : Nat} (h2 : 2 ≤ p) (h7 : p ≤ 7) : ∃ q : Int, atI [V.int 7, .int 6, .int 5, .int 5, .int 4, .int 4] ((p : Int) - 2) = some (.int q) ∧ 0 < q ∧ q ≤ 7 := by
  rcases (show p = 2 ∨ p = 3 ∨ p = 4 ∨ p = 5 ∨ p = 6 ∨ p = 7 by omega) with rfl | rfl | rfl | rfl | rfl | rfl
  · exact ⟨7, rfl, by decide, by decide⟩
  · exact ⟨6, rfl, by decide, by decide⟩
  · exact ⟨5, rfl, by decide, by decide⟩
  · exact ⟨5, rfl, by decide, by decide⟩
  · exact ⟨4, rfl, by decide, by decide⟩
  · exact ⟨4, rfl, by decide, by decide⟩
theorem ok_lco90 {f f1 f2 : Addr} {fd d1 d2 : FuncData} (F : Fun K "_law_counts" "_law_counts" sLCo90 f fd) (T : Txt mg) (CK : Cal P w K mg base 1 "_law_take" ["pot", "size"] spTakeC f1 d1) (CV : Cal P w K mg base 3 "level_counts" ["p", "n"] spCounts f2 d2) : FnOk P w K mg base CX0 4 f fd ["pot", "p"] spLCo90 := by
  refine okW F scLCo90 (fun vs H Q E h => ?_) (fun cdv A outer s H vs Q E hr h => ?_)
  · obtain ⟨pl, p, c, rfl, _⟩ := h
    rfl
  · obtain ⟨pl, p, c, rfl, p2, p7, hP, hc, k⟩ := h
    have hr1 : Room 1 _ := hr.mono (by decide)
    have hr3 : Room 3 _ := hr.mono (by decide)
    refine ⟨_, (wss_cons (ws (ps_comp (i := 2) scLCo90.nd rfl rfl (own := ["number"]) (js := [0]) (CompOk.by (sc := defScope sLCo90) (N := ["pot", "p", "counts", "at", "turn"]) rfl rfl (by decide +kernel)) rfl (pi_range1 rfl T.range (pa_cons (pv 1) pa_nil)) gkeep_name (fun _ _ _ _ _ => (pg_name (i := 0) (by show (["number", "pot"] : List Str).Nodup; decide +kernel) rfl (Or.inl rfl) (.inr rfl))) (fun _ _ _ _ _ => pts_nil) (fun _ _ _ _ _ => (pe_cal CK hr1 rfl (pa_cons (pv 1) (pa_cons (pe_ix (ixK_list K) (pe_lst (pa_cons pe_int (pa_cons pe_int pa_nil))) (pe_cal CK hr1 rfl (pa_cons (pv 1) (pa_cons pe_int pa_nil))) (fun _ _ => rfl)) pa_nil))))))
      (wss_cons (ws_if (pt_cmpR op_eq (pe_cal CK hr1 rfl (pa_cons (pv 0) (pa_cons pe_int pa_nil))) pe_int (nomark _))
      (wss_cons (ws (ps_set (i := 2) scLCo90.nd rfl (Or.inl rfl) (pe_callTy call_list_of rfl T.list b_list (pa_cons (pe_cal CV hr3 rfl (pa_cons (pv 1) (pa_cons (pe_cal CK hr1 rfl (pa_cons (pv 0) (pa_cons (WE.out (we_ix ix_list (we_lst (wa_cons rfl pe_int (wa_cons rfl pe_int (wa_cons rfl pe_int (wa_cons rfl pe_int (wa_cons rfl pe_int (wa_cons rfl pe_int wa_nil))))))) (we (pe_op op_sub (pv 1) pe_int)) (fun _ _ => rfl))) pa_nil))) pa_nil))) pa_nil))))
        (wss_cons (ws (ps_set (i := 3) scLCo90.nd rfl (Or.inl rfl) (pe_cal CK hr1 rfl (pa_cons (pv 0) (pa_cons (pv 1) pa_nil)))))
        (wss_cons (ws (ps_asg (pe_callB (call_max2 rfl) rfl T.max b_max (pa_cons pe_int (pa_cons (pe_op op_sub (pe_op op_add (pe_ix ix_list (pv 2) (pv 3) (fun _ _ => rfl)) (pe_cal CK hr1 rfl (pa_cons (pv 0) (pa_cons pe_int pa_nil)))) pe_int) pa_nil))) (pg_sub (pv 2) (pv 3) set_list)))
        (wss_cons (ws (ps_set (i := 4) scLCo90.nd rfl (Or.inl rfl) (pe_cal CK hr1 rfl (pa_cons (pv 0) (pa_cons (pv 1) pa_nil)))))
        (wss_one (ws (ps_set (i := 2) scLCo90.nd rfl (Or.inl rfl) (pe_op op_cat (pe_slice sl_list (pv 2) (po_some (pv 4)) po_none) (pe_slice sl_list (pv 2) po_none (po_some (pv 4)))))))))))
      wss_nil)
      (wss_cons (ws_if (pt_cmpR op_eq (pe_callB (call_sumI rfl) rfl T.sum b_sum (pa_cons (pv 2) pa_nil)) pe_int (nomark _))
      (wss_one (ws (ps_asg pe_int (pg_sub (pv 2) pe_int set_list))))
      wss_nil)
      (wss_one (ws (ps_ret (pv 2))))))), ?_⟩
    refine cut2 (fun σ' H' => ∃ (l : Addr) (cs : List Int) (c' : Int) (o3 o4 : Option V), σ' = [some (.ref pl), some (.int p), some (.ref l), o3, o4] ∧ H l = none ∧ H' l = some (.lst (cs.map V.int)) ∧ cs.length = p ∧ (∀ x ∈ cs, 0 ≤ x ∧ x ≤ 102) ∧ PotC H' pl c' ∧ c' ≤ c + 30 ∧ Sm pl H H') (fun R hR => ?_) ?_
    · refine ⟨_, rfl, _, rfl, by omega, by omega, ?_⟩
      rw [show ((p : Nat) : Int).toNat = p by omega]
      refine comp_potC (M := 41) (per := 2) hP (by omega) (fun i Hx cx hi hcx hPx smx R' hR' => ?_) fun acc ns Hx cx hap h0 hacc hnl hnb hPx hcx smx => ?_
      · refine ⟨_, rfl, by decide, fun d1 hd1 => ⟨_, rfl, pl, 2, cx, rfl, hPx.put hd1, by omega, by decide, by decide, fun b H3 b0 b1 hP3 sm3 => ?_⟩⟩
        have hb : ∃ q : Int, atI [V.int 5, .int 41] b = some (.int q) ∧ 0 < q ∧ q ≤ 41 := by
          rcases (show b = 0 ∨ b = 1 by omega) with rfl | rfl
          · exact ⟨5, rfl, by decide, by decide⟩
          · exact ⟨41, rfl, by decide, by decide⟩
        obtain ⟨q, hq, q0, q1⟩ := hb
        exact ⟨d1, _, b, .int q, rfl, rfl, SqL.of (sm3 d1 _ upd_same (hPx.ne hd1)), hq, pl, q, cx + 1, rfl, hP3, by omega, q0, bits_small (by omega) (by omega), fun x H4 x0 x1 hP4 sm4 => hR' x H4 (cx + 2) x0 (by omega) (by omega) (hP4.up (by omega)) ((Sm.new hd1).trans (sm3.trans sm4))⟩
      · refine ⟨_, rfl, pl, 2, cx, rfl, hPx, by omega, by decide, by decide, fun b H3 b0 b1 hP3 sm3 => ⟨rfl, _, rfl, ?_⟩⟩
        by_cases hb : b = 0
        · subst hb
          refine iteT ?_
          obtain ⟨q, hq, q0, q1⟩ := tab90 p2 p7
          refine ⟨_, rfl, _, rfl, by decide, fun d1 hd1 => ⟨_, rfl, _, _, rfl, rfl, d1, _, _, .int q, rfl, rfl, SqL.of upd_same, hq, pl, q, cx + 1, rfl, hP3.put hd1, by omega, q0, bits_small (by omega) (by omega), fun n H5 n0 n1 hP5 sm5 => ?_⟩⟩
          obtain ⟨n, rfl⟩ : ∃ m : Nat, n = (m : Int) := ⟨n.toNat, by omega⟩
          refine ⟨p, n, rfl, p2, p7, by omega, fun lv H6 lv0 hlv s6 => ?_⟩
          have hP6 := hP5.same s6
          have sm06 := ((smx.trans sm3).trans (Sm.new hd1)).trans (sm5.trans (Sm.of s6))
          refine ⟨lv, _, rfl, .inr (SqT.of hlv), fun l2 l20 => ?_⟩
          have l2p : l2 ≠ pl := hP6.ne l20
          refine ⟨_, rfl, _, rfl, pl, p, cx + 2, rfl, (hP6.put l20).up (by omega), by omega, by omega, bits_small (by omega) (by omega), fun a H7 a0 a1 hP7 sm7 => ?_⟩
          obtain ⟨a, rfl⟩ : ∃ m : Nat, a = (m : Int) := ⟨a.toNat, by omega⟩
          have hl7 := sm7 l2 _ upd_same l2p
          have hcl : (cnt p n).length = p := cnt_len (by omega) n
          have hal : a < (cnt p n).length := by omega
          have hxa : atI ((cnt p n).map V.int) (a : Int) = some (.int ((cnt p n)[a])) := atI_nat (by rw [List.getElem?_map, List.getElem?_eq_getElem hal]; rfl)
          have hxb := cntS90 p2 p7 (show n ≤ 6 by omega) _ (List.getElem_mem hal)
          refine ⟨_, rfl, _, rfl, l2, _, _, .int ((cnt p n)[a]), rfl, rfl, SqL.of hl7, hxa, _, rfl, pl, 3, cx + 3, rfl, hP7.up (by omega), by omega, by decide, by decide, fun e H8 e0 e1 hP8 sm8 => ⟨_, _, rfl, rfl, _, _, rfl, rfl, _, _, rfl, ?_⟩⟩
          have hl8 := sm8 l2 _ hl7 l2p
          refine ⟨_, rfl, _, rfl, l2, _, _, a, rfl, rfl, hl8, ixN_nat (by rw [List.length_map]; exact hal), ?_⟩
          generalize hw : (if (cnt p n)[a] + e - 1 > 0 then (cnt p n)[a] + e - 1 else 0) = w
          have hw0 : 0 ≤ w ∧ w ≤ 102 := by
            split at hw
            · omega
            · omega
          rw [show ((cnt p n).map V.int).set a (.int w) = ((cnt p n).set a w).map V.int by rw [List.map_set]]
          generalize hds : (cnt p n).set a w = ds
          have hdl : ds.length = p := by rw [← hds, List.length_set]; exact hcl
          have hdb : ∀ x ∈ ds, 0 ≤ x ∧ x ≤ 102 := by
            intro x hx
            rw [← hds] at hx
            rcases List.mem_or_eq_of_mem_set hx with hx | rfl
            · have := cntS90 p2 p7 (show n ≤ 6 by omega) x hx
              omega
            · exact hw0
          refine ⟨_, rfl, _, rfl, pl, p, cx + 4, rfl, (hP8.off l2p).up (by omega), by omega, by omega, bits_small (by omega) (by omega), fun tn H9 t0 t1 hP9 sm9 => ?_⟩
          obtain ⟨tn, rfl⟩ : ∃ m : Nat, tn = (m : Int) := ⟨tn.toNat, by omega⟩
          have hl9 := sm9 l2 _ upd_same l2p
          refine ⟨_, rfl, _, rfl, _, rfl, l2, _, rfl, SqL.of hl9, fun u1 hu1 => ⟨_, rfl, _, rfl, _, rfl, l2, _, rfl, SqL.of ((Same.new hu1) l2 _ hl9), fun u2 hu2 => ?_⟩⟩
          rw [cut_dropS _ _ (by omega), cut_takeS] at *
          have hu12 : u1 ≠ u2 := fun z => by rw [← z, upd_same] at hu2; cases hu2
          refine ⟨u1, u2, _, _, rfl, rfl, by rw [upd_ne hu12]; exact upd_same, upd_same, by rw [sizeLine_eq, List.length_map, List.length_map, List.length_drop, List.length_take]; omega, fun u3 hu3 => ?_⟩
          rw [← List.map_append]
          have sm9' : Sm pl H H9 := fun x o hx hxp => by
            have h6 := sm06 x o hx hxp
            have hxl : x ≠ l2 := fun z => by rw [z, l20] at h6; cases h6
            have h8 := sm8 x o (sm7 x o ((Same.new l20) x o h6) hxp) hxp
            exact sm9 x o (by rw [upd_ne hxl]; exact h8) hxp
          have sF := ((sm9'.trans (Sm.new hu1)).trans (Sm.new hu2)).trans (Sm.new (o := .lst ((ds.drop tn ++ ds.take tn).map V.int)) hu3)
          have pF := ((hP9.put (o := .lst ((ds.drop tn).map V.int)) hu1).put (o := .lst ((ds.take tn).map V.int)) hu2)
          have u3p : u3 ≠ pl := pF.ne hu3
          refine hR _ _ ⟨u3, ds.drop tn ++ ds.take tn, cx + 5, _, _, rfl, ((sm9'.trans (Sm.new hu1)).trans (Sm.new hu2)).free u3p hu3, upd_same, by rw [List.length_append, List.length_drop, List.length_take]; omega, fun x hx => ?_, (pF.put hu3).up (by omega), by omega, sF⟩
          rcases List.mem_append.mp hx with hx | hx
          · exact hdb x (List.drop_subset _ _ hx)
          · exact hdb x (List.take_subset _ _ hx)
        · rw [show decide (V.int b = V.int 0) = false from decide_eq_false fun z => hb (by injection z)]
          refine iteF ?_
          exact hR _ _ ⟨acc, ns, cx + 1, none, none, rfl, h0, sm3 acc _ hacc hap, hnl, fun x hx => by have := hnb x hx; omega, hP3, by omega, smx.trans sm3⟩
    · rintro σ' H' ⟨l, cs, c', o3, o4, rfl, l0, hl, hlen, hb, hP', hc', sm⟩
      have hlp : l ≠ pl := hP.ne l0
      refine ⟨_, rfl, l, cs, rfl, SqL.of hl, rfl, _, rfl, ?_⟩
      by_cases hs : cs.sum = 0
      · rw [hs]
        refine iteT ?_
        refine ⟨_, rfl, l, _, _, 0, rfl, rfl, hl, ixN_nat (j := 0) (by rw [List.length_map]; omega), ?_⟩
        cases cs with
        | nil => simp at hlen; omega
        | cons x xs =>
          refine ⟨_, rfl, ?_⟩
          have hx0 := hb x List.mem_cons_self
          have hxs : 0 ≤ xs.sum := sum_nn fun y hy => (hb y (List.mem_cons_of_mem _ hy)).1
          rw [List.sum_cons] at hs
          refine k l (1 :: xs) _ c' l0 upd_same hlen (fun y hy => ?_) (by rw [List.sum_cons]; omega) hc' (hP'.off hlp) (sm.putC l0)
          rcases List.mem_cons.mp hy with rfl | hy
          · omega
          · exact hb y (List.mem_cons_of_mem _ hy)
      · rw [show decide (V.int cs.sum = V.int 0) = false from decide_eq_false fun z => hs (by injection z)]
        refine iteF ⟨_, rfl, ?_⟩
        have : 0 ≤ cs.sum := sum_nn fun y hy => (hb y hy).1
        exact k l cs H' c' l0 hl hlen hb (by omega) hc' hP' sm

end
end Fi90

set_option Elab.async false
set_option linter.all false
set_option maxRecDepth 100000
set_option maxHeartbeats 4000000
namespace Fi90
open PySem L2 Lv
section
variable {P : Program} {w : World} {K : PySem.W.Frag} {mg : Str → Option Value} {base : Heap}
theorem scWalk : FnScope ["reels", "plan", "standing", "at", "there"] ["reels", "plan"] (defScope sWalk) := ⟨rfl, rfl, rfl, by decide +kernel, rfl, by decide +kernel, by decide +kernel⟩
def spWalk : Sp := fun vs H Q _ => ∃ (l b : Addr) (p N : Nat) (T : List Reel) (rs : List Addr), vs = [.ref l, .ref b] ∧ H l = some (.lst (refT T)) ∧ NRL H T ∧ H b = some (.lst (rs.map V.ref)) ∧ TTs H rs (planF p (lns (datT T)) N) ∧ Stand p (lns (datT T)) ∧ Lvl p (rk (lns (datT T))) N ∧ N ≤ 401 ∧ SzD (datT T) ∧ ∀ H', Same H H' → Q (.bl true) H'
theorem cut_takeV (xs : List V) (m : Nat) : cutV xs none (some (m : Int)) = xs.take m := by
  unfold cutV
  show (xs.drop 0).take (HT.sIx xs.length xs.length (some ((m : Nat) : Int)) - 0) = _
  rw [HT.sIx_nat, Nat.sub_zero, List.drop_zero]
  rcases Nat.le_total m xs.length with h | h
  · rw [Nat.min_eq_left h]
  · rw [Nat.min_eq_right h, List.take_length, List.take_of_length_le h]
theorem lens_at {H : Hp} {T : List Reel} {x y : V} {j : Nat} (hx : (refT T)[j]? = some x) (hy : ((lns (datT T)).map V.int)[j]? = some y) (hN : NRL H T) : ∃ a xs, x = .ref a ∧ H a = some (.lst xs) ∧ y = .int (xs.length : Int) := by
  rw [List.getElem?_map] at hx
  cases e : T[j]? with
  | none => rw [e] at hx; cases hx
  | some t =>
    rw [e] at hx
    refine ⟨t.1, t.2.map cV, (Option.some.inj hx).symm, (hN t (List.mem_of_getElem? e)).1, ?_⟩
    unfold lns datT at hy
    rw [List.map_map, List.map_map, List.getElem?_map, e] at hy
    have := (Option.some.inj hy).symm
    rw [this]
    simp
theorem pls_takeW : ∀ {D : List Rows} {ps : List (Int × Int)}, Pls D ps → ∀ i, Pls D (ps.take i)
  | D, ps, h, 0 => by rw [List.take_zero]; exact trivial
  | D, [], h, i + 1 => trivial
  | D, (a, b) :: ps, h, i + 1 => ⟨h.1, pls_takeW (D := phR D a.toNat b.toNat) h.2 i⟩
theorem _root_.L2.TTs.takeW {H : Hp} {rs : List Addr} {N : List (List Int)} (h : TTs H rs N) (m : Nat) : TTs H (rs.take m) (N.take m) := ⟨by rw [List.length_take, List.length_take, h.1], fun j r xs a b => by
  rw [List.getElem?_take] at a b
  by_cases hj : j < m
  · rw [if_pos hj] at a b
    exact h.2 j r xs a b
  · rw [if_neg hj] at a
    cases a⟩
theorem stand_of {p : Nat} {D : List Rows} {o m : Int} (p2 : 2 ≤ p) (p7 : p ≤ 7) (z : SzD D) (hl : D.length = p + 1) (h : PhOk (lns D) o m) : Stand p (lns D) ∧ o.toNat < (lns D).length ∧ (lns D)[o.toNat]? = some 0 ∧ 1 ≤ m ∧ m ≤ mxl (lns D) := by
  obtain ⟨a, b, rfl, rfl, ha, h0, hb, r, hr, hbr⟩ := phok_nat h
  have hll : (lns D).length = D.length := by unfold lns; rw [List.length_map]
  have e0 : (lns D)[a]? = some 0 := by unfold lns; rw [List.getElem?_map, h0]; rfl
  refine ⟨⟨p2, p7, by omega, fun x hx => ?_, fun x hx => ?_, List.mem_of_getElem? e0, (r.length : Int), List.mem_map.mpr ⟨r, hr, rfl⟩, by omega⟩, by rw [Int.toNat_natCast]; omega, by rw [Int.toNat_natCast]; exact e0, h.2.2.1, h.2.2.2⟩
  · obtain ⟨r, _, rfl⟩ := List.mem_map.mp hx
    omega
  · obtain ⟨r, hr, rfl⟩ := List.mem_map.mp hx
    have := z.2.1 r hr
    have hb : (15000 : Int) ≤ big := by decide +kernel
    exact Int.le_trans (by omega) hb
theorem ok_walk {f f1 f2 f3 : Addr} {fd d1 d2 d3 : FuncData} (F : Fun K "_law_walked" "_law_walked" sWalk f fd) (T : Txt mg) (CD : Cal P w K mg base 4 "phase_done" ["standing", "phase"] spPhDone f1 d1) (CR : Cal P w K mg base 5 "play_rows" ["reels", "phases"] spPlayR f2 d2) (CE : Cal P w K mg base 4 "plan_done" ["standing", "plan"] spPlDoneW f3 d3) : FnOk P w K mg base CX0 6 f fd ["reels", "plan"] spWalk := by
  refine okW F scWalk (fun vs H Q E h => ?_) (fun cdv A outer s H vs Q E hr h => ?_)
  · obtain ⟨l, b, p, N, Tt, rs, rfl, _⟩ := h
    rfl
  · obtain ⟨l, b, p, N, Tt, rs, rfl, hl, hN, hb, hTT, S, hL, hN4, hz, k⟩ := h
    have hr4 : Room 4 _ := hr.mono (by decide)
    have hr5 : Room 5 _ := hr.mono (by decide)
    have hu0 : (A.deeper (PyProof.Rows.envOfC "_law_walked" (defScope sWalk) s.heap.objs.size f cdv)).units < cLine := by have := hr.un; omega
    refine ⟨_, (wss_cons (ws (ps_set (i := 2) scWalk.nd rfl (Or.inl rfl) (pe_callTy call_tuple_of rfl T.tuple b_tuple (pa_cons (pe_comp (own := ["reel"]) (js := []) (CompOk.by (sc := defScope sWalk) (N := ["reels", "plan", "standing", "at", "there"]) rfl rfl (by decide +kernel)) rfl (pi_seqB (pv 0)) gkeep_name (fun _ _ _ _ _ => (pg_name (i := 0) (by show (["reel"] : List Str).Nodup; decide +kernel) rfl (Or.inl rfl) (.inr rfl))) (fun _ _ _ _ _ => pts_nil) (fun _ _ _ _ _ => (pe_callB (callK_len K) rfl T.len PySem.boot_len (pa_cons (pv 0) pa_nil)))) pa_nil))))
      (wss_cons (ws (ps_for PassesOwn.never rfl (pi_range1 rfl T.range (pa_cons (pe_callB call_len_seq rfl T.len PySem.boot_len (pa_cons (pv 1) pa_nil)) pa_nil)) (pg_name (i := 3) scWalk.nd rfl (Or.inl rfl))
      (WSs.out (wss_cons (ws (ps_set (i := 2) scWalk.nd rfl (Or.inl rfl) (pe_cal CD hr4 rfl (pa_cons (pv 2) (pa_cons (pe_ix ix_list (pv 1) (pv 3) (fun _ _ => rfl)) pa_nil)))))
        (wss_cons (ws (ps_set (i := 4) scWalk.nd rfl (Or.inl rfl) (pe_ix ix_tup (pe_cal CR hr5 rfl (pa_cons (pv 0) (pa_cons (pe_slice sl_list (pv 1) po_none (po_some (pe_op op_add (pv 3) pe_int))) pa_nil))) pe_int (fun _ _ => rfl))))
        (wss_one (ws_if (pt_cmpR (op_neT hu0) (pv 2) (pe_callTy call_tuple_of rfl T.tuple b_tuple (pa_cons (pe_comp (own := ["reel"]) (js := []) (CompOk.by (sc := defScope sWalk) (N := ["reels", "plan", "standing", "at", "there"]) rfl rfl (by decide +kernel)) rfl (pi_seqB (pv 4)) gkeep_name (fun _ _ _ _ _ => (pg_name (i := 0) (by show (["reel"] : List Str).Nodup; decide +kernel) rfl (Or.inl rfl) (.inr rfl))) (fun _ _ _ _ _ => pts_nil) (fun _ _ _ _ _ => (pe_callB (callK_len K) rfl T.len PySem.boot_len (pa_cons (pv 0) pa_nil)))) pa_nil)) (nomark _))
        (wss_one (ws (ps_ret pe_bl)))
        wss_nil)))))))
      (wss_one (ws (ps_ret (pe_cmpR (op_eqT hu0) (pv 2) (pe_cal CE hr4 rfl (pa_cons (pe_callTy call_tuple_of rfl T.tuple b_tuple (pa_cons (pe_comp (own := ["reel"]) (js := []) (CompOk.by (sc := defScope sWalk) (N := ["reels", "plan", "standing", "at", "there"]) rfl rfl (by decide +kernel)) rfl (pi_seqB (pv 0)) gkeep_name (fun _ _ _ _ _ => (pg_name (i := 0) (by show (["reel"] : List Str).Nodup; decide +kernel) rfl (Or.inl rfl) (.inr rfl))) (fun _ _ _ _ _ => pts_nil) (fun _ _ _ _ _ => (pe_callB (callK_len K) rfl T.len PySem.boot_len (pa_cons (pv 0) pa_nil)))) pa_nil)) (pa_cons (pv 1) pa_nil))) (nomark _))))))), ?_⟩
    have p2 := S.p2
    have hOn := S.on hL
    obtain ⟨ps, eps, hpl, d, hwk, hd1⟩ := planF_ps p2 N 0 hOn
    have hPls : Pls (datT Tt) ps := pls_of hwk
    have hend := wk_end p2 N 0 hOn eps
    have hend2 := (plR_all hPls hz).2.2.2.2 0
    have hrl : rs.length = N := by rw [hTT.1, planF_len]
    have hTl : Tt.length = (datT Tt).length := by unfold datT; rw [List.length_map]
    have hT20 : Tt.length ≤ 20000 := by have := hz.1; omega
    have hlen := S.len
    have hlnl : ∀ D : List Rows, (lns D).length = D.length := fun D => by unfold lns; rw [List.length_map]
    rw [hlnl] at hlen
    refine ⟨_, rfl, l, true, rfl, ⟨_, SqL.of hl⟩, ?_⟩
    refine comp_mapB ((lns (datT Tt)).map V.int) (show SqB true K H l (refT Tt) from SqL.of hl) (by simp [lns, datT]) (by rw [List.length_map]; exact hT20) (fun j x y hx hy Hy sy R hR => ?_) fun cl H1 cl0 s1 hcl => ?_
    · obtain ⟨ra, xs, rfl, hra, rfl⟩ := lens_at hx hy hN
      exact ⟨_, rfl, ra, _, rfl, .inl (SqL.of (sy _ _ hra)), hR Hy (Same.refl _)⟩
    refine ⟨cl, _, rfl, .inl ⟨SqL.of hcl, fun sa hsa => ?_⟩⟩
    have sA : Same H (upd H1 sa (.tup ((lns (datT Tt)).map V.int))) := s1.trans (Same.new hsa)
    have eA : upd H1 sa (.tup ((lns (datT Tt)).map V.int)) sa = some (.tup ((lns (datT Tt)).map V.int)) := upd_same
    generalize upd H1 sa (.tup ((lns (datT Tt)).map V.int)) = H2 at sA eA ⊢
    refine ⟨_, rfl, b, _, rfl, .inl (SqL.of (sA _ _ hb)), _, rfl, by omega, by rw [List.length_map]; omega, ?_⟩
    rw [Int.toNat_natCast, List.length_map, hrl]
    refine for_range (fun i σ Hx => ∃ (ca : Addr) (o3 o4 : Option V), σ = [some (.ref l), some (.ref b), some (.ref ca), o3, o4] ∧ Hx ca = some (.tup ((lns (plR (datT Tt) (ps.take i))).map V.int)) ∧ Same H Hx)
      ⟨sa, none, none, rfl, eA, sA⟩ ?_ ?_
    · rintro i σ Hx hi ⟨ca, o3, o4, rfl, hca, sx⟩
      obtain ⟨q, hq⟩ : ∃ q, rs[i]? = some q := ⟨_, List.getElem?_eq_getElem (by omega)⟩
      obtain ⟨o, m, hom⟩ : ∃ o m, ps[i]? = some (o, m) := ⟨_, _, List.getElem?_eq_getElem (by omega)⟩
      have hPh := hPls.at hom
      obtain ⟨zz, zl, _⟩ := plR_all (pls_takeW hPls i) hz
      obtain ⟨zz1, zl1, _⟩ := plR_all (pls_takeW hPls (i + 1)) hz
      have etk : ps.take (i + 1) = ps.take i ++ [(o, m)] := by rw [List.take_add_one, hom]; rfl
      obtain ⟨S', h1', h2', h3', h4'⟩ := stand_of p2 S.p7 zz (by rw [zl]; exact hlen) hPh
      obtain ⟨a0, b0, rfl, rfl, ha0, h00, hb1, hb0⟩ := phok_nat hPh
      have hqt := hTT.2 i q (prT ((a0 : Int), (b0 : Int))) hq (by rw [eps, List.getElem?_map, hom]; rfl)
      rw [Int.toNat_natCast] at h1' h2'
      refine ⟨_, rfl, _, rfl, _, rfl, b, _, _, .ref q, rfl, rfl, SqL.of (sx _ _ hb), (by rw [Int.zero_add]; exact atI_nat (by rw [List.getElem?_map, hq]; rfl)), ca, q, p, _, a0, b0, rfl, hca, sx _ _ hqt, S', h1', h2', h3', h4', fun c2 H3 c20 hc2 s3 => ?_⟩
      have sx3 := sx.trans s3
      rw [← lns_ph] at hc2
      have eD : plR (datT Tt) (ps.take (i + 1)) = phR (plR (datT Tt) (ps.take i)) a0 b0 := by rw [etk, plR_snoc, Int.toNat_natCast, Int.toNat_natCast]
      rw [← eD] at hc2
      refine ⟨_, rfl, _, rfl, _, rfl, _, _, rfl, rfl, _, rfl, b, _, rfl, SqL.of (sx3 _ _ hb), fun sl hsl => ?_⟩
      rw [show cutV (rs.map V.ref) none (some ((0 : Int) + (i : Int) + 1)) = (rs.take (i + 1)).map V.ref by rw [show (0 : Int) + (i : Int) + 1 = ((i + 1 : Nat) : Int) by omega, cut_takeV, List.map_take]]
      have s4 : Same H3 (upd H3 sl (.lst ((rs.take (i + 1)).map V.ref))) := Same.new hsl
      have e4 : upd H3 sl (.lst ((rs.take (i + 1)).map V.ref)) sl = some (.lst ((rs.take (i + 1)).map V.ref)) := upd_same
      have sx4 := sx3.trans s4
      generalize upd H3 sl (.lst ((rs.take (i + 1)).map V.ref)) = H4 at s4 e4 sx4 ⊢
      refine ⟨l, sl, Tt, rs.take (i + 1), ps.take (i + 1), rfl, sx4 _ _ hl, hN.same sx4, e4, ?_, ?_, ?_, hz, pls_takeW hPls (i + 1), fun t bl rl T' es H5 ht hbl hN' hD' _ _ _ s5 => ?_⟩
      · rw [List.map_take, ← eps]
        exact (hTT.same sx4).takeW (i + 1)
      · rw [List.length_take]; omega
      · intro z
        have : Tt.length = 0 := by rw [z]; rfl
        omega
      refine ⟨t, _, 0, .ref bl, rfl, rfl, SqT.of ht, rfl, ?_⟩
      refine ⟨_, rfl, _, rfl, bl, true, rfl, ⟨_, SqL.of hbl⟩, ?_⟩
      have hT'l : T'.length = (datT T').length := by unfold datT; rw [List.length_map]
      have hT'20 : T'.length ≤ 20000 := by rw [hT'l, hD', zl1]; have := hz.1; omega
      refine comp_mapB ((lns (datT T')).map V.int) (show SqB true K H5 bl (refT T') from SqL.of hbl) (by simp [lns, datT]) (by rw [List.length_map]; exact hT'20) (fun j x y hx hy Hy sy R hR => ?_) fun c3 H6 c30 s6 hc3 => ?_
      · obtain ⟨ra, xs, rfl, hra, rfl⟩ := lens_at hx hy hN'
        exact ⟨_, rfl, ra, _, rfl, .inl (SqL.of (sy _ _ hra)), hR Hy (Same.refl _)⟩
      refine ⟨c3, _, rfl, .inl ⟨SqL.of hc3, fun c4 hc4 => ?_⟩⟩
      have s7 : Same H6 (upd H6 c4 (.tup ((lns (datT T')).map V.int))) := Same.new hc4
      have e7 : upd H6 c4 (.tup ((lns (datT T')).map V.int)) c4 = some (.tup ((lns (datT T')).map V.int)) := upd_same
      generalize upd H6 c4 (.tup ((lns (datT T')).map V.int)) = H7 at s7 e7 ⊢
      have s37 := ((s4.trans s5).trans s6).trans s7
      refine ⟨c2, c4, _, _, rfl, rfl, SqT.of (s37 _ _ hc2), SqT.of e7, _, rfl, ?_⟩
      rw [hD', decide_eq_true rfl]
      exact iteF ⟨c2, _, _, rfl, s37 _ _ hc2, sx3.trans s37⟩
    · rintro σ Hx ⟨ca, o3, o4, rfl, hca, sx⟩
      rw [List.take_of_length_le (by omega)] at hca
      refine ⟨_, rfl, _, rfl, l, true, rfl, ⟨_, SqL.of (sx _ _ hl)⟩, ?_⟩
      refine comp_mapB ((lns (datT Tt)).map V.int) (show SqB true K Hx l (refT Tt) from SqL.of (sx _ _ hl)) (by simp [lns, datT]) (by rw [List.length_map]; exact hT20) (fun j x y hx hy Hy sy R hR => ?_) fun c3 H6 c30 s6 hc3 => ?_
      · obtain ⟨ra, xs, rfl, hra, rfl⟩ := lens_at hx hy (hN.same sx)
        exact ⟨_, rfl, ra, _, rfl, .inl (SqL.of (sy _ _ hra)), hR Hy (Same.refl _)⟩
      refine ⟨c3, _, rfl, .inl ⟨SqL.of hc3, fun c4 hc4 => ?_⟩⟩
      have s7 : Same H6 (upd H6 c4 (.tup ((lns (datT Tt)).map V.int))) := Same.new hc4
      have e7 : upd H6 c4 (.tup ((lns (datT Tt)).map V.int)) c4 = some (.tup ((lns (datT Tt)).map V.int)) := upd_same
      generalize upd H6 c4 (.tup ((lns (datT Tt)).map V.int)) = H7 at s7 e7 ⊢
      have sx7 := (sx.trans s6).trans s7
      refine ⟨_, rfl, c4, b, p, N, _, rs, rfl, e7, sx7 _ _ hb, hTT.same sx7, S, hL, hN4, fun dn cc H8 hdn _ hcc s8 => ?_⟩
      have e8 : lns (plR (datT Tt) ps) = cc := by
        rw [hend] at hend2
        injection hend2 with e
        rw [← e, hcc]
      refine ⟨ca, dn, _, _, rfl, rfl, SqT.of (s8 _ _ (s7 _ _ (s6 _ _ hca))), SqT.of hdn, ?_⟩
      rw [decide_eq_true e8]
      exact k H8 (sx7.trans s8)

end
end Fi90

set_option Elab.async false
set_option linter.all false
set_option maxRecDepth 100000
set_option maxHeartbeats 4000000
namespace Fi90
open PySem L2 Lv
section
variable {P : Program} {w : World} {K : PySem.W.Frag} {mg : Str → Option Value} {base : Heap}
theorem scBarr : FnScope ["p", "counts", "n", "bar", "falling"] ["p", "counts", "n", "bar"] (defScope sBarr) := ⟨rfl, rfl, rfl, by decide +kernel, rfl, by decide +kernel, by decide +kernel⟩
theorem b_any : bootBuiltins "any" = some (.builtin "any") := by decide +kernel
def spBarr : Sp := fun vs H Q _ => ∃ (p : Nat) (a : Addr) (N : Nat) (cs st : List Int), vs = [.int p, .ref a, .int N, ovV (barF p st N)] ∧ 2 ≤ p ∧ p ≤ 7 ∧ H a = some (.lst (cs.map V.int)) ∧ cs.length = p ∧ (∀ x ∈ cs, 0 ≤ x ∧ x ≤ 102) ∧ st.Perm (0 :: cs) ∧ Lvl p (rk st) N ∧ ∀ H', Same H H' → Q (.bl true) H'
theorem cnt30 {p : Nat} (h2 : 2 ≤ p) (h7 : p ≤ 7) : ∀ x ∈ cnt p 30, (102 : Int) ≤ x := (by decide +kernel : ∀ p, p < 8 → 2 ≤ p → ∀ x ∈ cnt p 30, (102 : Int) ≤ x) p (by omega) h2
theorem lvl30 {p N : Nat} {cs st : List Int} (p2 : 2 ≤ p) (p7 : p ≤ 7) (hst : st.Perm (0 :: cs)) (hb : ∀ x ∈ cs, 0 ≤ x ∧ x ≤ 102) (h : Lvl p (rk st) N) : N ≤ 30 := by
  refine Nat.le_of_not_lt fun z => h.2 30 z fun j hj => ?_
  have h1 : (102 : Int) ≤ (cnt p 30).getD j 0 := by
    rw [List.getD_eq_getElem?_getD, List.getElem?_eq_getElem hj]
    exact cnt30 p2 p7 _ (List.getElem_mem hj)
  have h2 : (rk st).getD j 0 ≤ 102 := by
    rw [List.getD_eq_getElem?_getD]
    cases e : (rk st)[j]? with
    | none => decide
    | some x =>
      have hx := (rk_perm st).subset (List.mem_of_getElem? e)
      rcases List.mem_cons.mp (hst.subset hx) with y | y
      · rw [y]; decide
      · exact (hb x y).2
  exact Int.le_trans h2 h1
theorem rk_rev {cs st ms : List Int} (hst : st.Perm (0 :: cs)) (h0 : ∀ x ∈ cs, 0 ≤ x) (hp : ms.Perm cs) (hu : ms.Pairwise (· ≤ ·)) : rk st = ms.reverse ++ [0] := by
  refine (rk_uniq ?_ ?_).symm
  · refine List.Perm.trans ?_ hst.symm
    exact (List.perm_append_singleton 0 ms.reverse).trans (List.Perm.cons 0 ((List.reverse_perm ms).trans hp))
  · rw [List.pairwise_append]
    refine ⟨?_, List.pairwise_singleton _ _, fun x hx y hy => ?_⟩
    · rw [List.pairwise_reverse]
      exact hu.imp fun h => h
    · rw [List.mem_singleton.mp hy]
      exact h0 x (hp.subset (List.mem_reverse.mp hx))
theorem ok_barr {f f1 : Addr} {fd d1 : FuncData} (F : Fun K "_law_barred" "_law_barred" sBarr f fd) (T : Txt mg) (Ta : mg "any" = none) (CV : Cal P w K mg base 3 "level_counts" ["p", "n"] spCounts f1 d1) : FnOk P w K mg base CX0 4 f fd ["p", "counts", "n", "bar"] spBarr := by
  refine okW F scBarr (fun vs H Q E h => ?_) (fun cdv A outer s H vs Q E hr h => ?_)
  · obtain ⟨p, a, N, cs, st, rfl, _⟩ := h
    rfl
  · obtain ⟨p, a, N, cs, st, rfl, p2, p7, hA, hlen, hb, hst, hL, k⟩ := h
    have hr3 : Room 3 _ := hr.mono (by decide)
    refine ⟨_, (wss_cons (ws (ps_set (i := 4) scBarr.nd rfl (Or.inl rfl) (pe_rev (pe_callB call_sortA rfl T.sorted b_sorted (pa_cons (pv 1) pa_nil)) (po_some (pe_un un_neg pe_int)))))
      (wss_cons (ws_if (pt_val (pe_callB (call_any rfl) rfl Ta b_any (pa_cons (pe_comp (own := ["count", "most"]) (js := []) (CompOk.by (sc := defScope sBarr) (N := ["p", "counts", "n", "bar", "falling"]) rfl rfl (by decide +kernel)) rfl (pi_zipB rfl T.zip (pa_cons (pv 4) (pa_cons (pe_cal CV hr3 rfl (pa_cons (pv 0) (pa_cons (pv 2) pa_nil))) pa_nil))) (gkeep_two (i := 0) (k := 1) (K := K)) (fun _ _ _ _ _ => (pgK_tup K rfl (pgs_cons (pg_name (i := 0) (by show (["count", "most"] : List Str).Nodup; decide +kernel) rfl (Or.inl rfl) (.inr rfl)) (pgs_cons (pg_name (i := 1) (by show (["count", "most"] : List Str).Nodup; decide +kernel) rfl (Or.inl rfl) (.inr rfl)) pgs_nil)))) (fun _ _ _ _ _ => pts_nil) (fun _ _ _ _ _ => (pe_cmpR op_gt (pv 0) (pv 1) (nomark _)))) pa_nil)))
      (wss_one (ws (ps_ret pe_bl)))
      wss_nil)
      (wss_cons (ws_if (pt_cmpR op_eq (pv 2) pe_int (nomark _))
      (wss_one (ws (ps_ret (pe_cmp (pc_isN (pv 3))))))
      wss_nil)
      (wss_one (ws (ps_ret (pe_cmpR op_gt (pe_ix ix_list (pv 4) (pv 3) (fun _ _ => rfl)) (pe_ix ix_tup (pe_cal CV hr3 rfl (pa_cons (pv 0) (pa_cons (pe_op op_sub (pv 2) pe_int) pa_nil))) (pv 3) (fun _ _ => rfl)) (nomark _)))))))), ?_⟩
    have hN30 := lvl30 p2 p7 hst hb hL
    refine ⟨_, rfl, a, cs, rfl, SqL.of hA, fun l1 ms hl1 hpm hup => ⟨_, rfl, _, rfl, rfl, l1, _, rfl, SqL.of upd_same, fun l2 hl2 => ?_⟩⟩
    have s2 : Same H (upd (upd H l1 (.lst (ms.map V.int))) l2 (.lst (ms.map V.int).reverse)) := (Same.new hl1).trans (Same.new hl2)
    have e2 : upd (upd H l1 (.lst (ms.map V.int))) l2 (.lst (ms.map V.int).reverse) l2 = some (.lst (ms.reverse.map V.int)) := by rw [upd_same, List.map_reverse]
    generalize upd (upd H l1 (.lst (ms.map V.int))) l2 (.lst (ms.map V.int).reverse) = H2 at s2 e2 ⊢
    have erk := rk_rev hst (fun x hx => (hb x hx).1) hpm hup
    generalize hfs : ms.reverse = fs at erk e2
    have hfl : fs.length = p := by rw [← hfs, List.length_reverse, hpm.length_eq, hlen]
    have hget : ∀ j, j < p → (rk st).getD j 0 = fs.getD j 0 := fun j hj => by
      rw [erk, List.getD_eq_getElem?_getD, List.getD_eq_getElem?_getD, List.getElem?_append_left (by omega)]
    have hcl : ∀ n, (cnt p n).length = p := fun n => cnt_len (by omega) n
    refine ⟨_, rfl, _, rfl, _, rfl, p, N, rfl, p2, p7, by omega, fun lv H3 lv0 hlv s3 => ?_⟩
    have hcov : ∀ j, j < p → ¬ (cnt p N).getD j 0 < fs.getD j 0 := fun j hj z => by
      have h1 := hL.1 j (by rw [hcl]; exact hj)
      rw [hget j hj] at h1
      omega
    have hf3 := s3 _ _ e2
    refine ⟨true, false, l2, lv, rfl, ⟨_, SqL.of hf3⟩, ⟨_, SqT.of hlv⟩, ?_⟩
    refine comp_zip (xs := fs.map V.int) (ys := (cnt p N).map V.int) (by rw [List.length_map, List.length_map, hcl, hfl]; exact Nat.le_refl _) (fun acc i H4 => Same H3 H4 ∧ H4 acc = some (.lst ((List.replicate i false).map V.bl))) (fun acc h0 => ⟨Same.new h0, upd_same⟩) (fun acc i H4 h0 _ p => ⟨p.1.seq (SqL.of hf3), p.1.tup (SqT.of hlv)⟩) ?_ ?_
    · rintro acc i x y q H4 h0 hx hy ⟨s4, hacc⟩ hq
      rw [List.getElem?_map] at hx hy
      obtain ⟨x', hx1, rfl⟩ := Option.map_eq_some_iff.mp hx
      obtain ⟨y', hy1, rfl⟩ := Option.map_eq_some_iff.mp hy
      clear hx hy
      have hi : i < p := by have := (List.getElem?_eq_some_iff.mp hx1).1; omega
      have hxy := hcov i hi
      rw [List.getD_eq_getElem?_getD, List.getD_eq_getElem?_getD, hx1, hy1] at hxy
      have hxy' : ¬ y' < x' := hxy
      have hqa : acc ≠ q := fun z => by rw [← z, hacc] at hq; cases hq
      refine ⟨q, _, rfl, SqT.of upd_same, rfl, _, _, rfl, _, _, rfl, rfl, _, rfl, _, rfl, x', y', rfl, rfl, _, by rw [upd_ne hqa]; exact hacc, small1000 (by rw [List.length_map, List.length_replicate]; omega), by rw [List.length_map]; omega, ?_⟩
      refine ⟨(s4.trans (Same.new hq)).put h0, ?_⟩
      rw [upd_same]
      dsimp only
      rw [decide_eq_false hxy', List.replicate_succ', List.map_append]
      rfl
    rintro acc H4 h0 ⟨s4, hacc⟩
    have s04 := (s2.trans s3).trans s4
    have hf4 := s4 _ _ hf3
    refine ⟨acc, _, rfl, SqL.of hacc, _, rfl, ?_⟩
    rw [show (List.replicate (fs.map V.int).length false).any id = false from by rw [List.any_eq_false]; intro x hx; rw [List.eq_of_mem_replicate hx]; exact Bool.false_ne_true]
    refine iteF ⟨_, rfl, rfl, _, rfl, ?_⟩
    by_cases h0N : N = 0
    · subst h0N
      refine iteT ⟨_, rfl, ?_⟩
      exact k H4 s04
    · rw [show decide (V.int (N : Int) = V.int 0) = false from decide_eq_false fun z => h0N (by injection z with z; omega)]
      refine iteF ?_
      have hbar : barF p st N = some (fb (cnt p (N - 1)) (rk st) : Int) := by unfold barF; rw [if_neg h0N]
      have hnc := hL.2 (N - 1) (by omega)
      obtain ⟨_, _, hb1, hb2⟩ := fb_ok hnc
      generalize hj : fb (cnt p (N - 1)) (rk st) = j at hbar hb1 hb2
      have hjp : j < p := by rw [hcl] at hb1; exact hb1
      rw [hget j hjp] at hb2
      obtain ⟨n, rfl⟩ : ∃ n, N = n + 1 := ⟨N - 1, by omega⟩
      rw [Nat.add_sub_cancel] at hb1 hb2
      rw [hbar]
      have hjf : j < fs.length := by omega
      refine ⟨_, rfl, _, rfl, l2, _, (j : Int), .int (fs.getD j 0), rfl, rfl, SqL.of hf4, atI_nat (by rw [List.getElem?_map, List.getD_eq_getElem?_getD, List.getElem?_eq_getElem hjf]; rfl), ?_⟩
      refine ⟨_, rfl, _, rfl, _, _, rfl, rfl, p, n, by show [V.int (p : Int), V.int (((n + 1 : Nat) : Int) - 1)] = _; rw [show ((n + 1 : Nat) : Int) - 1 = (n : Int) by omega], p2, p7, by omega, fun lw H5 lw0 hlw s5 => ?_⟩
      refine ⟨_, rfl, lw, _, (j : Int), .int ((cnt p n).getD j 0), rfl, rfl, SqT.of hlw, atI_nat (by rw [List.getElem?_map, List.getD_eq_getElem?_getD, List.getElem?_eq_getElem hb1]; rfl), _, _, rfl, rfl, ?_⟩
      dsimp only
      rw [decide_eq_true (show (cnt p n).getD j 0 < fs.getD j 0 from hb2)]
      exact k H5 (s04.trans s5)

end
end Fi90

set_option Elab.async false
set_option linter.all false
set_option maxRecDepth 100000
set_option maxHeartbeats 4000000
namespace Lv
open PySem L2
theorem one_row {D : List Rows} (h : (lns D).sum = 1) (hs : AllS D) : ∃ xs : List Int, D.flatten = [some xs] ∧ xs.Pairwise (· ≤ ·) ∧ allT D = xs := by
  rw [lns_sum] at h
  have h1 : D.flatten.length = 1 := by omega
  obtain ⟨c, hc⟩ := List.length_eq_one_iff.mp h1
  have hm : c ∈ D.flatten := by rw [hc]; exact List.mem_singleton.mpr rfl
  obtain ⟨r, hr, hcr⟩ := List.mem_flatten.mp hm
  obtain ⟨xs, rfl, hx⟩ := hs r hr c hcr
  refine ⟨xs, hc, hx, ?_⟩
  unfold allT
  rw [hc]
  simp [rl90]
theorem datT_flat : ∀ T : List Reel, (datT T).flatten = (T.flatMap (·.2)).map cD
  | [] => rfl
  | t :: T => by
    rw [List.flatMap_cons, List.map_append, ← datT_flat T]
    rfl
/-- reels that are being laid: the folded cells, the pot, the counts, the reels, the things -/
structure Bl (H : Hp) (l pl cl rl tg : Addr) (fs cs : List Int) (T : List Reel) (ts : List Int) : Prop where
  hl : H l = some (.lst (fs.map V.int))
  hc : H cl = some (.lst (cs.map V.int))
  hr : H rl = some (.lst (refT T))
  ht : H tg = some (.lst (ts.map V.int))
  hN : NRL H T
  hA : ∀ x ∈ adr T, x ≠ pl ∧ x ≠ rl ∧ x ≠ tg
structure Dst (l pl cl rl tg : Addr) : Prop where
  lp : l ≠ pl
  lr : l ≠ rl
  lt : l ≠ tg
  cp : cl ≠ pl
  cr : cl ≠ rl
  ct : cl ≠ tg
  rp : rl ≠ pl
  rt : rl ≠ tg
  tp : tg ≠ pl
variable {H H' : Hp} {l pl cl rl tg : Addr} {fs cs : List Int} {T : List Reel} {ts : List Int}
theorem Bl.sm (h : Bl H l pl cl rl tg fs cs T ts) (d : Dst l pl cl rl tg) (s : Sm pl H H') : Bl H' l pl cl rl tg fs cs T ts :=
  ⟨s _ _ h.hl d.lp, s _ _ h.hc d.cp, s _ _ h.hr d.rp, s _ _ h.ht d.tp, h.hN.frame fun x hx o e => s x o e (h.hA x hx).1, h.hA⟩
theorem Bl.same (h : Bl H l pl cl rl tg fs cs T ts) (s : Same H H') : Bl H' l pl cl rl tg fs cs T ts :=
  ⟨s _ _ h.hl, s _ _ h.hc, s _ _ h.hr, s _ _ h.ht, h.hN.same s, h.hA⟩
theorem Bl.reels (h : Bl H l pl cl rl tg fs cs T ts) (d : Dst l pl cl rl tg) {T' : List Reel} (hN : NRL H T') (hA : ∀ x ∈ adr T', x ≠ pl ∧ x ≠ rl ∧ x ≠ tg) : Bl (upd H rl (.lst (refT T'))) l pl cl rl tg fs cs T' ts :=
  ⟨by rw [upd_ne d.lr]; exact h.hl, by rw [upd_ne d.cr]; exact h.hc, upd_same, by rw [upd_ne d.rt.symm]; exact h.ht, hN.off fun z => (hA rl z).2.1 rfl, hA⟩
theorem Bl.things (h : Bl H l pl cl rl tg fs cs T ts) (d : Dst l pl cl rl tg) (ts' : List Int) : Bl (upd H tg (.lst (ts'.map V.int))) l pl cl rl tg fs cs T ts' :=
  ⟨by rw [upd_ne d.lt]; exact h.hl, by rw [upd_ne d.ct]; exact h.hc, by rw [upd_ne d.rt]; exact h.hr, upd_same, h.hN.off fun z => (h.hA tg z).2.2 rfl, h.hA⟩
theorem allT_snoc (D : List Rows) (r : Rows) : allT (D ++ [r]) = allT D ++ (rl90 r).flatten := by
  unfold allT
  rw [List.flatten_append, rl_app, List.flatten_append]
  simp
theorem allT_ins (A B : List Rows) : allT (A ++ [] :: B) = allT (A ++ B) := by
  unfold allT
  rw [List.flatten_append, List.flatten_cons, List.nil_append, ← List.flatten_append]
/-- the rows of a reel that was drawn -/
def Drw (cs : List Cell) : Prop := ∀ x ∈ cs, ∃ r xs, x = some (r, xs) ∧ xs.length ≤ 4 ∧ xs.Pairwise (· ≤ ·)
theorem drw_len : ∀ {cs : List Cell}, Drw cs → ((rl90 (cs.map cD)).flatten).length ≤ 4 * cs.length
  | [], _ => by simp [rl90]
  | x :: cs, h => by
    obtain ⟨r, xs, rfl, h4, _⟩ := h x List.mem_cons_self
    have := drw_len (cs := cs) fun y hy => h y (List.mem_cons_of_mem _ hy)
    show ((rl90 (some xs :: cs.map cD)).flatten).length ≤ _
    have e : rl90 (some xs :: cs.map cD) = xs :: rl90 (cs.map cD) := rfl
    rw [e, List.flatten_cons, List.length_append, List.length_cons]
    omega
theorem drw_all {T : List Reel} (h : ∀ t ∈ T, Drw t.2) : AllS (datT T) := fun r hr c hc => by
  obtain ⟨t, ht, rfl⟩ := List.mem_map.mp hr
  obtain ⟨x, hx, rfl⟩ := List.mem_map.mp hc
  obtain ⟨q, xs, rfl, _, hp⟩ := h t ht x hx
  exact ⟨xs, rfl, hp⟩
theorem drw_szd : ∀ {T : List Reel}, (∀ t ∈ T, Drw t.2) → (∀ t ∈ T, t.2.length ≤ 102) → (allT (datT T)).length ≤ 408 * T.length
  | [], _, _ => by simp [allT, datT, rl90]
  | t :: T, h, g => by
    have i := drw_szd (T := T) (fun q hq => h q (List.mem_cons_of_mem _ hq)) fun q hq => g q (List.mem_cons_of_mem _ hq)
    have h1 := drw_len (h t List.mem_cons_self)
    have h2 := g t List.mem_cons_self
    have e : datT (t :: T) = t.2.map cD :: datT T := rfl
    rw [e, allT_cons, List.length_append, List.length_cons]
    omega
theorem adr_snoc (T : List Reel) (t : Reel) (x : Addr) : x ∈ adr (T ++ [t]) ↔ x ∈ adr T ∨ x ∈ tA t := by
  unfold adr
  rw [List.flatMap_append, List.mem_append]
  simp
/-- an empty reel put in -/
def insT (T : List Reel) (k : Nat) (e : Addr) : List Reel := T.take k ++ (e, []) :: T.drop k
theorem insT_dat (T : List Reel) (k : Nat) (e : Addr) : datT (insT T k e) = (datT T).take k ++ [] :: (datT T).drop k := by
  unfold insT datT
  rw [List.map_append, List.map_cons, List.map_take, List.map_drop]
  rfl
theorem insT_mem {T : List Reel} {k : Nat} {e : Addr} {t : Reel} (h : t ∈ insT T k e) : t ∈ T ∨ t = (e, []) := by
  rcases List.mem_append.mp h with h | h
  · exact .inl (List.take_subset _ _ h)
  · rcases List.mem_cons.mp h with h | h
    · exact .inr h
    · exact .inl (List.drop_subset _ _ h)
theorem insT_len (T : List Reel) (k : Nat) (e : Addr) : (insT T k e).length = T.length + 1 := by
  unfold insT
  rw [List.length_append, List.length_cons, List.length_take, List.length_drop]
  omega
theorem insT_perm (T : List Reel) (k : Nat) (e : Addr) : (lns (datT (insT T k e))).Perm (0 :: lns (datT T)) := by
  rw [insT_dat]
  unfold lns
  rw [List.map_append, List.map_cons]
  refine List.perm_middle.trans (List.Perm.cons _ ?_)
  rw [← List.map_append, List.take_append_drop]
theorem insT_all (T : List Reel) (k : Nat) (e : Addr) : allT (datT (insT T k e)) = allT (datT T) := by
  rw [insT_dat, allT_ins, List.take_append_drop]
theorem refT_snoc (T : List Reel) (t : Reel) : refT (T ++ [t]) = refT T ++ [V.ref t.1] := by unfold refT; rw [List.map_append]; rfl
theorem insT_ref (T : List Reel) (k : Nat) (e : Addr) : refT (insT T k e) = (refT T).take k ++ .ref e :: (refT T).drop k := by
  unfold insT refT
  rw [List.map_append, List.map_cons, List.map_take, List.map_drop]
end Lv

set_option Elab.async false
set_option linter.all false
set_option maxRecDepth 100000
set_option maxHeartbeats 4000000
namespace Fi90
open PySem L2 Lv
section
variable {P : Program} {w : World} {K : PySem.W.Frag} {mg : Str → Option Value} {base : Heap}
theorem scLaw : FnScope ["script", "cell", "pot", "p", "counts", "reels", "things", "count", "row", "standing", "n", "plan", "bar", "left", "reel"] ["script"] (defScope sLaw) := ⟨rfl, rfl, rfl, by decide +kernel, rfl, by decide +kernel, by decide +kernel⟩
theorem sum_np : ∀ {xs : List Int}, (∀ x ∈ xs, x ≤ 0) → xs.sum ≤ 0
  | [], _ => by simp
  | x :: xs, h => by
    have h1 := h x List.mem_cons_self
    have h2 := sum_np fun y hy => h y (List.mem_cons_of_mem _ hy)
    rw [List.sum_cons]
    omega
theorem ok_law90 {f f1 f2 f3 f4 f5 f6 f7 f8 f9 f10 : Addr} {fd d1 d2 d3 d4 d5 d6 d7 d8 d9 d10 : FuncData} (F : Fun K "law" "law" sLaw f fd) (T : Txt mg) (CL : Cal P w K mg base 1 "_law_folded" ["cells", "many"] (spFold K) f1 d1) (CB : Cal P w K mg base 1 "_law_begun" ["cell"] spBegun f2 d2) (CK : Cal P w K mg base 1 "_law_take" ["pot", "size"] spTakeC f3 d3) (CC : Cal P w K mg base 4 "_law_counts" ["pot", "p"] spLCo90 f4 d4) (CO : Cal P w K mg base 2 "_law_lot" ["pot"] spLot f5 d5) (CW : Cal P w K mg base 5 "fewest_phases" ["standing"] spFew f6 d6) (CH : Cal P w K mg base 6 "phases_right" ["standing", "told"] spPhR f7 d7) (CR : Cal P w K mg base 5 "play_rows" ["reels", "phases"] spPlayR f8 d8) (CX : Cal P w K mg base 6 "_law_walked" ["reels", "plan"] spWalk f9 d9) (CZ : Cal P w K mg base 4 "_law_barred" ["p", "counts", "n", "bar"] spBarr f10 d10) : FnOk P w K mg base CX0 7 f fd ["script"] (spLaw K) := by
  refine okW F scLaw (fun vs H Q E h => ?_) (fun cdv A outer s H vs Q E hr h => ?_)
  · obtain ⟨a, ns, rfl, _⟩ := h
    rfl
  · obtain ⟨a, ns, rfl, hS, hns, k⟩ := h
    have hr1 : Room 1 _ := hr.mono (by decide)
    have hr2 : Room 2 _ := hr.mono (by decide)
    have hr4 : Room 4 _ := hr.mono (by decide)
    have hr5 : Room 5 _ := hr.mono (by decide)
    have hr6 : Room 6 _ := hr.mono (by decide)
    have hu1 : (A.deeper (PyProof.Rows.envOfC "law" (defScope sLaw) s.heap.objs.size f cdv)).units + 12 < cLine := by have := hr.un; omega
    refine ⟨_, (wss_cons (ws (ps_for PassesOwn.never rfl (pi_seqB (pe_cal CL hr1 rfl (pa_cons (pv 0) (pa_cons pe_int pa_nil)))) (pg_name (i := 1) scLaw.nd rfl (Or.inl rfl))
      (WSs.out (wss_cons (ws (ps_set (i := 2) scLaw.nd rfl (Or.inr rfl) (pe_cal CB hr1 rfl (pa_cons (pv 1) pa_nil))))
        (wss_cons (ws (ps_set (i := 3) scLaw.nd rfl (Or.inl rfl) (pe_op op_add pe_int (pe_cal CK hr1 rfl (pa_cons (pv 2) (pa_cons pe_int pa_nil))))))
        (wss_cons (ws (ps_set (i := 4) scLaw.nd rfl (Or.inl rfl) (pe_cal CC hr4 rfl (pa_cons (pv 2) (pa_cons (pv 3) pa_nil)))))
        (wss_cons (ws (ps_set (i := 5) scLaw.nd rfl (Or.inl rfl) (pe_lst pa_nil)))
        (wss_cons (ws (ps_set (i := 6) scLaw.nd rfl (Or.inl rfl) (pe_lst pa_nil)))
        (wss_cons (ws (ps_for PassesOwn.never rfl (pi_seqB (pv 4)) (pg_name (i := 7) scLaw.nd rfl (Or.inl rfl))
        (WSs.out (wss_cons (ws (ps_expr (pe_bm PySem.F.plainAttrs_list PySem.F.slot_list_append PySem.F.type_list_append mt_append (pv 5) (pa_cons (pe_comp (own := ["row"]) (js := [2]) (CompOk.by (sc := defScope sLaw) (N := ["script", "cell", "pot", "p", "counts", "reels", "things", "count", "row", "standing", "n", "plan", "bar", "left", "reel"]) rfl rfl (by decide +kernel)) rfl (pi_range1 rfl T.range (pa_cons (pv 7) pa_nil)) gkeep_name (fun _ _ _ _ _ => (pg_name (i := 0) (by show (["row", "pot"] : List Str).Nodup; decide +kernel) rfl (Or.inl rfl) (.inr rfl))) (fun _ _ _ _ _ => pts_nil) (fun _ _ _ _ _ => (pe_cal CO hr2 rfl (pa_cons (pv 1) pa_nil)))) pa_nil))))
          (wss_one (ws (ps_for PassesOwn.never rfl (pi_seqB (pe_ix ix_list (pv 5) (pe_un un_neg pe_int) (fun _ _ => rfl))) (pg_name (i := 8) scLaw.nd rfl (Or.inl rfl))
          (WSs.out (wss_one (ws (ps_expr (pe_bm PySem.F.plainAttrs_list PySem.F.slot_list_extend PySem.F.type_list_extend mt_extend (pv 6) (pa_cons (pv 8) pa_nil)))))))))))))
        (wss_cons (ws (ps_expr (pe_bm PySem.F.plainAttrs_list PySem.F.slot_list_insert PySem.F.type_list_insert mt_insert (pv 5) (pa_cons (pe_cal CK hr1 rfl (pa_cons (pv 2) (pa_cons (pe_op op_add (pv 3) pe_int) pa_nil))) (pa_cons (pe_lst pa_nil) pa_nil)))))
        (wss_cons (ws (ps_set (i := 9) scLaw.nd rfl (Or.inl rfl) (pe_callTy call_tuple_of rfl T.tuple b_tuple (pa_cons (pe_comp (own := ["reel"]) (js := []) (CompOk.by (sc := defScope sLaw) (N := ["script", "cell", "pot", "p", "counts", "reels", "things", "count", "row", "standing", "n", "plan", "bar", "left", "reel"]) rfl rfl (by decide +kernel)) rfl (pi_seqB (pv 5)) gkeep_name (fun _ _ _ _ _ => (pg_name (i := 0) (by show (["reel"] : List Str).Nodup; decide +kernel) rfl (Or.inl rfl) (.inr rfl))) (fun _ _ _ _ _ => pts_nil) (fun _ _ _ _ _ => (pe_callB (callK_len K) rfl T.len PySem.boot_len (pa_cons (pv 0) pa_nil)))) pa_nil))))
        (wss_cons (ws (ps_asg (pe_cal CW hr5 rfl (pa_cons (pv 9) pa_nil)) (pg_tup rfl (pgs_cons (pg_name (i := 10) scLaw.nd rfl (Or.inl rfl)) (pgs_cons (pg_name (i := 11) scLaw.nd rfl (Or.inl rfl)) (pgs_cons (pg_name (i := 12) scLaw.nd rfl (Or.inl rfl)) pgs_nil))))))
        (wss_cons (ws_if (PW.pt (pw_or (pt_cmpR op_ne (pe_callB call_len_seq rfl T.len PySem.boot_len (pa_cons (pv 11) pa_nil)) (pv 10) (nomark _)) (pw_or1 (pt_cmpR op_isnotB (pe_cal CH hr6 rfl (pa_cons (pv 9) (pa_cons (WE.out (we_tup (wa_cons rfl (pv 10) (wa_cons rfl (pv 11) (wa_cons rfl (pv 12) wa_nil))))) pa_nil))) pe_bl (nomark _)))))
        (wss pss_never)
        wss_nil)
        (wss_cons (ws (ps_set (i := 13) scLaw.nd rfl (Or.inl rfl) (pe_lst pa_nil)))
        (wss_cons (ws (ps_for PassesOwn.never rfl (pi_seqB (pe_ix ix_tup (pe_cal CR hr5 rfl (pa_cons (pv 5) (pa_cons (pv 11) pa_nil))) pe_int (fun _ _ => rfl))) (pg_name (i := 14) scLaw.nd rfl (Or.inl rfl))
        (WSs.out (wss_one (ws (ps_expr (pe_bm PySem.F.plainAttrs_list PySem.F.slot_list_extend PySem.F.type_list_extend mt_extend (pv 13) (pa_cons (pv 14) pa_nil))))))))
        (wss_one (ws_if (PW.pt (pw_or (pt_cmpR (op_neR hu1) (pv 13) (pe_lst (pa_cons (pe_callB call_sortA rfl T.sorted b_sorted (pa_cons (pv 6) pa_nil)) pa_nil)) (nomark _)) (pw_or (pt_not (pt_val (pe_cal CX hr6 rfl (pa_cons (pv 5) (pa_cons (pv 11) pa_nil))))) (pw_or1 (pt_not (pt_val (pe_cal CZ hr4 rfl (pa_cons (pv 3) (pa_cons (pv 4) (pa_cons (pv 10) (pa_cons (pv 12) pa_nil)))))))))))
        (wss pss_never)
        wss_nil)))))))))))))))))
      (wss_one (ws (ps_ret pe_bl)))), ?_⟩
    refine ⟨_, rfl, a, ns, 4, rfl, hS, hns, by decide, by decide, fun l fs H1 nl hl hfl s1 => ?_⟩
    refine ⟨l, true, rfl, ⟨_, SqL.of hl⟩, ?_⟩
    refine for_seqB (b := true) (xs := fs.map V.int) (fun i σ Hx => ∃ o1 o2 o3 o4 o5 o6 o7 o8 o9 o10 o11 o12 o13 o14 : Option V, σ = [some (.ref a), o1, o2, o3, o4, o5, o6, o7, o8, o9, o10, o11, o12, o13, o14] ∧ Hx l = some (.lst (fs.map V.int))) ⟨_, _, _, _, _, _, _, _, _, _, _, _, _, _, rfl, hl⟩ (fun i σ Hx _ ⟨_, _, _, _, _, _, _, _, _, _, _, _, _, _, _, h⟩ => SqL.of h) ?_ ?_
    · rintro i x σ Hx hx ⟨o1, o2, o3, o4, o5, o6, o7, o8, o9, o10, o11, o12, o13, o14, rfl, hlx⟩
      rw [List.getElem?_map] at hx
      obtain ⟨z, hz1, rfl⟩ := Option.map_eq_some_iff.mp hx
      clear hx hz1
      refine ⟨_, rfl, z, rfl, fun pl H2 npl hP2 s2 => ?_⟩
      have lp : l ≠ pl := ne_of_none hlx npl
      have hl2 := s2 _ _ hlx
      refine ⟨_, rfl, pl, 6, 0, rfl, hP2, by decide, by decide, by decide, fun d H3 d0 d1 hP3 sm3 => ⟨_, _, rfl, rfl, ?_⟩⟩
      obtain ⟨d, rfl⟩ : ∃ m : Nat, d = (m : Int) := ⟨d.toNat, by omega⟩
      have hl3 := sm3 _ _ hl2 lp
      refine ⟨_, rfl, _, rfl, pl, 2 + d, 0 + 1, by rw [Int.natCast_add]; rfl, by omega, by omega, hP3, by decide, fun cl cs H4 c4 ncl hcl hcsl hcsb hcs1 hc4 hP4 sm4 => ?_⟩
      have cp : cl ≠ pl := hP3.ne ncl
      have hl4 := sm4 _ _ hl3 lp
      refine ⟨Nat.zero_le _, fun rl nrl => ?_⟩
      have rp : rl ≠ pl := hP4.ne nrl
      have cr : cl ≠ rl := ne_of_none hcl nrl
      have lr : l ≠ rl := ne_of_none hl4 nrl
      refine ⟨Nat.zero_le _, fun tg ntg => ?_⟩
      have tr : rl ≠ tg := fun z => by rw [← z, upd_same] at ntg; cases ntg
      have ntg4 : H4 tg = none := by rw [upd_ne tr.symm] at ntg; exact ntg
      have tp : tg ≠ pl := hP4.ne ntg4
      have ct : cl ≠ tg := ne_of_none hcl ntg4
      have lt : l ≠ tg := ne_of_none hl4 ntg4
      have D : Dst l pl cl rl tg := ⟨lp, lr, lt, cp, cr, ct, rp, tr, tp⟩
      have hB0 : Bl (upd (upd H4 rl (.lst [])) tg (.lst [])) l pl cl rl tg fs cs [] [] := ⟨by rw [upd_ne lt, upd_ne lr]; exact hl4, by rw [upd_ne ct, upd_ne cr]; exact hcl, by rw [upd_ne tr]; exact upd_same, upd_same, (fun t ht => nomatch ht), (fun x hx => nomatch hx)⟩
      have hP0 : PotC (upd (upd H4 rl (.lst [])) tg (.lst [])) pl c4 := (hP4.off rp).off tp
      generalize upd (upd H4 rl (.lst [])) tg (.lst []) = H5 at hB0 hP0 ⊢
      refine ⟨_, rfl, cl, true, rfl, ⟨_, SqL.of hB0.hc⟩, ?_⟩
      refine for_seqB (b := true) (xs := cs.map V.int) (fun i σ Hx => ∃ (T : List Reel) (o7 o8 : Option V), σ = [some (.ref a), some (.int z), some (.ref pl), some (.int (2 + (d : Int))), some (.ref cl), some (.ref rl), some (.ref tg), o7, o8, o9, o10, o11, o12, o13, o14] ∧ Bl Hx l pl cl rl tg fs cs T (allT (datT T)) ∧ PotC Hx pl (1000 + 600 * i) ∧ T.length = i ∧ lns (datT T) = cs.take i ∧ (∀ t ∈ T, Drw t.2))
        ⟨[], _, _, rfl, hB0, hP0.up (by omega), rfl, rfl, fun t ht => nomatch ht⟩ (fun i σ Hx _ ⟨_, _, _, _, h, _⟩ => SqL.of h.hc) ?_ ?_
      · rintro i x σ Hx hx ⟨T0, o7, o8, rfl, hB, hP, hTl, hTs, hTd⟩
        rw [List.getElem?_map] at hx
        obtain ⟨m, hm1, rfl⟩ := Option.map_eq_some_iff.mp hx
        clear hx
        have hmb := hcsb m (List.mem_of_getElem? hm1)
        have hi : i < cs.length := (List.getElem?_eq_some_iff.mp hm1).1
        obtain ⟨m, rfl⟩ : ∃ n : Nat, m = (n : Int) := ⟨m.toNat, by omega⟩
        have hTb : ∀ t ∈ T0, t.2.length ≤ 102 := fun t ht => by
          have h1 : ((t.2.map cD).length : Int) ∈ lns (datT T0) := List.mem_map.mpr ⟨_, List.mem_map.mpr ⟨t, ht, rfl⟩, rfl⟩
          rw [hTs] at h1
          have := hcsb _ (List.take_subset _ _ h1)
          rw [List.length_map] at this
          omega
        have hTz := drw_szd hTd hTb
        refine ⟨_, rfl, .inl ⟨rfl, _, SqL.of hB.hr⟩, _, rfl, _, rfl, by omega, by omega, ?_⟩
        rw [Int.toNat_natCast]
        refine comp_lots hP (by omega) (fun j Hy cy hj hcy hPy smy R hR => ?_) fun acc ds Hy cy hap h0 hok hdl hlot hPy hcy smy => ?_
        · exact ⟨_, rfl, pl, cy, rfl, hPy, by omega, fun l' xs H' c' e1 e2 e3 e4 e5 e6 e7 => hR l' xs H' c' e1 e2 e3 e4 e5 e6 e7⟩
        have hBy := hB.sm D smy
        have hdrw : Drw ds := fun x hx => by
          obtain ⟨r, xs, e, h4, hpw, _⟩ := hlot x hx
          exact ⟨r, xs, e, h4, hpw⟩
        refine ⟨rl, _, _, rfl, rfl, hBy.hr, small15 (by rw [List.length_map]; omega), ?_⟩
        rw [show refT T0 ++ [V.ref acc] = refT (T0 ++ [(acc, ds)]) from (refT_snoc T0 (acc, ds)).symm]
        have hB1 : Bl (upd Hy rl (.lst (refT (T0 ++ [(acc, ds)])))) l pl cl rl tg fs cs (T0 ++ [(acc, ds)]) (allT (datT T0)) := hBy.reels D (fun t ht => by
          rcases List.mem_append.mp ht with ht | ht
          · exact hBy.hN t ht
          · rw [List.mem_singleton.mp ht]
            exact hok) (fun x hx => by
          rcases (adr_snoc _ _ _).mp hx with hx | hx
          · exact hBy.hA x hx
          · have hxn : Hx x = none ∧ x ≠ pl := by
              rcases List.mem_cons.mp hx with e | hx
              · have e' : x = acc := e
                rw [e']
                exact ⟨h0, hap⟩
              · obtain ⟨y, hy, hyx⟩ := List.mem_flatMap.mp hx
                obtain ⟨r, xs, rfl, _, _, r0, rp'⟩ := hlot y hy
                have e' : x = r := by simpa [cA] using hyx
                rw [e']
                exact ⟨r0, rp'⟩
            exact ⟨hxn.2, (fun z => by rw [z, hB.hr] at hxn; cases hxn.1), (fun z => by rw [z, hB.ht] at hxn; cases hxn.1)⟩)
        have hP1 : PotC (upd Hy rl (.lst (refT (T0 ++ [(acc, ds)])))) pl cy := hPy.off rp
        generalize upd Hy rl (.lst (refT (T0 ++ [(acc, ds)]))) = H6 at hB1 hP1 ⊢
        generalize hT1 : T0 ++ [(acc, ds)] = T1 at hB1
        have hmem : (acc, ds) ∈ T1 := by rw [← hT1]; exact List.mem_append_right _ (List.mem_singleton.mpr rfl)
        have hds := hB1.hN _ hmem
        refine ⟨_, rfl, 1, rfl, rl, _, _, .ref acc, rfl, rfl, SqL.of hB1.hr, (by rw [← hT1, refT_snoc]; exact atI_last _ _), acc, true, rfl, ⟨_, SqL.of hds.1⟩, ?_⟩
        refine for_seqB (b := true) (xs := ds.map cV) (fun j σ Hz => ∃ o8 : Option V, σ = [some (.ref a), some (.int z), some (.ref pl), some (.int (2 + (d : Int))), some (.ref cl), some (.ref rl), some (.ref tg), some (.int (m : Int)), o8, o9, o10, o11, o12, o13, o14] ∧ Bl Hz l pl cl rl tg fs cs T1 (allT (datT T0) ++ (rl90 ((ds.take j).map cD)).flatten) ∧ PotC Hz pl cy)
          ⟨_, rfl, by rw [List.take_zero]; simpa [rl90] using hB1, hP1⟩ (fun j σ Hz _ ⟨_, _, h, _⟩ => SqL.of (h.hN _ hmem).1) ?_ ?_
        · rintro j x σ Hz hx ⟨o8, rfl, hBz, hPz⟩
          rw [List.getElem?_map] at hx
          obtain ⟨y, hy1, rfl⟩ := Option.map_eq_some_iff.mp hx
          obtain ⟨r, xs, rfl, h4, _⟩ := hdrw y (List.mem_of_getElem? hy1)
          have hrz : Hz r = some (.lst (xs.map V.int)) := (hBz.hN _ hmem).2 _ (List.mem_of_getElem? hy1)
          have hj : j < ds.length := (List.getElem?_eq_some_iff.mp hy1).1
          have hl2 : ((rl90 ((ds.take j).map cD)).flatten).length ≤ 408 := by
            have := drw_len (cs := ds.take j) fun x hx => hdrw x (List.take_subset _ _ hx)
            rw [List.length_take] at this
            omega
          refine ⟨_, rfl, .inl ⟨rfl, _, SqL.of hBz.ht⟩, _, rfl, tg, r, _, _, rfl, rfl, hBz.ht, hrz, by rw [List.length_map, List.length_append, List.length_map, sizeLine_eq]; omega, ?_⟩
          rw [← List.map_append]
          refine ⟨_, rfl, ?_, hPz.off tp⟩
          have e : allT (datT T0) ++ (rl90 ((ds.take (j + 1)).map cD)).flatten = allT (datT T0) ++ (rl90 ((ds.take j).map cD)).flatten ++ xs := by
            rw [List.take_add_one, hy1, List.map_append, rl_app, List.flatten_append, List.append_assoc]
            simp [rl90, cD]
          rw [e]
          exact hBz.things D _
        · rintro σ Hz ⟨o8, rfl, hBz, hPz⟩
          rw [List.length_map, List.take_length] at hBz
          have eD : datT T1 = datT T0 ++ [ds.map cD] := by rw [← hT1]; unfold datT; rw [List.map_append]; rfl
          refine ⟨T1, _, _, rfl, by rw [eD, allT_snoc]; exact hBz, hPz.up (by omega), by rw [← hT1, List.length_append, hTl]; rfl, ?_, fun t ht => ?_⟩
          · rw [eD, List.take_add_one, hm1, ← hTs]
            unfold lns
            rw [List.map_append]
            simp [hdl]
          · rw [← hT1] at ht
            rcases List.mem_append.mp ht with ht | ht
            · exact hTd t ht
            · rw [List.mem_singleton.mp ht]
              exact hdrw
      · rintro σ Hx ⟨T0, o7, o8, rfl, hB, hP, hTl, hTs, hTd⟩
        rw [List.length_map] at hTl hTs
        rw [List.take_length] at hTs
        have hTb : ∀ t ∈ T0, t.2.length ≤ 102 := fun t ht => by
          have h1 : ((t.2.map cD).length : Int) ∈ lns (datT T0) := List.mem_map.mpr ⟨_, List.mem_map.mpr ⟨t, ht, rfl⟩, rfl⟩
          rw [hTs] at h1
          have := hcsb _ h1
          rw [List.length_map] at this
          omega
        have hTz := drw_szd hTd hTb
        have hp1 : cs.length = 2 + d := hcsl
        refine ⟨_, rfl, .inl ⟨rfl, _, SqL.of hB.hr⟩, _, rfl, _, rfl, _, _, rfl, rfl, pl, 2 + (d : Int) + 1, _, rfl, hP, by rw [List.length_map]; omega, by omega, bits_small (by omega) (by omega), fun kk H6 k0 k1 hP6 sm6 => ?_⟩
        obtain ⟨kk, rfl⟩ : ∃ m : Nat, kk = (m : Int) := ⟨kk.toNat, by omega⟩
        have hB6 := hB.sm D sm6
        refine ⟨Nat.zero_le _, fun e ne => ?_⟩
        have hB7 : Bl (upd H6 e (.lst [])) l pl cl rl tg fs cs T0 (allT (datT T0)) := hB6.same (Same.new ne)
        refine ⟨rl, _, _, _, rfl, rfl, hB7.hr, by omega, by omega, small15 (by rw [List.length_map]; omega), ?_⟩
        rw [if_neg (show ¬ (kk : Int) < 0 by omega), Int.toNat_natCast, Nat.min_eq_left (show kk ≤ (refT T0).length by rw [List.length_map]; omega), ← insT_ref]
        have hB8 : Bl (upd (upd H6 e (.lst [])) rl (.lst (refT (insT T0 kk e)))) l pl cl rl tg fs cs (insT T0 kk e) (allT (datT T0)) := hB7.reels D (fun t ht => by
          rcases insT_mem ht with ht | rfl
          · exact hB7.hN t ht
          · exact ⟨upd_same, fun c hc => nomatch hc⟩) (fun x hx => by
          obtain ⟨t, ht, hxt⟩ := List.mem_flatMap.mp hx
          rcases insT_mem ht with ht | rfl
          · exact hB7.hA x (List.mem_flatMap.mpr ⟨t, ht, hxt⟩)
          · have e' : x = e := by simpa [tA] using hxt
            rw [e']
            exact ⟨hP6.ne ne, (ne_of_none hB6.hr ne).symm, (ne_of_none hB6.ht ne).symm⟩)
        have hL2 := insT_len T0 kk e
        have hD2 : ∀ t ∈ insT T0 kk e, Drw t.2 := fun t ht => by
          rcases insT_mem ht with ht | rfl
          · exact hTd t ht
          · exact fun x hx => nomatch hx
        have hb2 : ∀ t ∈ insT T0 kk e, t.2.length ≤ 102 := fun t ht => by
          rcases insT_mem ht with ht | rfl
          · exact hTb t ht
          · exact Nat.zero_le _
        have hper : (lns (datT (insT T0 kk e))).Perm (0 :: cs) := by rw [← hTs]; exact insT_perm T0 kk e
        have hall := insT_all T0 kk e
        rw [← hall] at hB8
        generalize upd (upd H6 e (.lst [])) rl (.lst (refT (insT T0 kk e))) = H8 at hB8 ⊢
        generalize hT2 : insT T0 kk e = T2 at hB8 hL2 hD2 hb2 hper hall ⊢
        have hdl : (datT T2).length = T2.length := by unfold datT; rw [List.length_map]
        have hAS := drw_all hD2
        have hSz : SzD (datT T2) := ⟨by omega, fun r hr => by
          obtain ⟨t, ht, rfl⟩ := List.mem_map.mp hr
          have := hb2 t ht
          rw [List.length_map]
          omega, by have := drw_szd hD2 hb2; omega⟩
        have hS2 : Stand (2 + d) (lns (datT T2)) := by
          refine ⟨by omega, by omega, by rw [hper.length_eq, List.length_cons]; omega, fun x hx => ?_, fun x hx => ?_, hper.symm.subset List.mem_cons_self, ?_⟩
          · rcases List.mem_cons.mp (hper.subset hx) with rfl | hx
            · decide
            · exact (hcsb x hx).1
          · have hb : (102 : Int) ≤ big := by decide +kernel
            refine Int.le_trans ?_ hb
            rcases List.mem_cons.mp (hper.subset hx) with rfl | hx
            · decide
            · exact (hcsb x hx).2
          · refine Classical.byContradiction fun z => ?_
            have h0 : cs.sum ≤ 0 := sum_np fun x hx => by
              have : ¬ 1 ≤ x := fun y => z ⟨x, hper.symm.subset (List.mem_cons_of_mem _ hx), y⟩
              omega
            omega
        refine ⟨_, rfl, rl, true, rfl, ⟨_, SqL.of hB8.hr⟩, ?_⟩
        refine comp_mapB ((lns (datT T2)).map V.int) (show SqB true K H8 rl (refT T2) from SqL.of hB8.hr) (by simp [lns, datT]) (by rw [List.length_map]; exact (by omega : T2.length ≤ 20000)) (fun j x y hx hy Hy sy R hR => ?_) fun ca H9 ca0 s9 hca => ?_
        · obtain ⟨ra, xs, rfl, hra, rfl⟩ := lens_at hx hy hB8.hN
          exact ⟨_, rfl, ra, _, rfl, .inl (SqL.of (sy _ _ hra)), hR Hy (Same.refl _)⟩
        refine ⟨ca, _, rfl, .inl ⟨SqL.of hca, fun sa nsa => ?_⟩⟩
        have s10 : Same H8 (upd H9 sa (.tup ((lns (datT T2)).map V.int))) := s9.trans (Same.new nsa)
        have e10 : upd H9 sa (.tup ((lns (datT T2)).map V.int)) sa = some (.tup ((lns (datT T2)).map V.int)) := upd_same
        generalize upd H9 sa (.tup ((lns (datT T2)).map V.int)) = H10 at s10 e10 ⊢
        refine ⟨_, rfl, sa, 2 + d, _, rfl, e10, hS2, fun N t l2 rs H11 hLv hN4 t0 l20 htl ht hl2 hTT s11 => ?_⟩
        refine ⟨t, _, rfl, SqT.of ht, rfl, _, _, rfl, _, _, rfl, _, _, rfl, rfl, ?_⟩
        have hrl : rs.length = N := by rw [hTT.1, planF_len]
        refine ⟨_, rfl, l2, _, rfl, .inl (SqL.of hl2), _, rfl, rfl, _, rfl, ?_⟩
        rw [show (!decide (V.int (((rs.map V.ref).length : Nat) : Int) = V.int (N : Int))) = false from by rw [List.length_map, hrl, decide_eq_true rfl]; rfl]
        refine iteF ?_
        refine ⟨_, rfl, _, rfl, _, rfl, _, rfl, (by show 3 ≤ sizeLine; decide), fun tt ntt => ?_⟩
        have s12 : Same H11 (upd H11 tt (.tup [.int N, .ref l2, ovV (barF (2 + d) (lns (datT T2)) N)])) := Same.new ntt
        have e12 : upd H11 tt (.tup [.int N, .ref l2, ovV (barF (2 + d) (lns (datT T2)) N)]) tt = some (.tup [.int N, .ref l2, ovV (barF (2 + d) (lns (datT T2)) N)]) := upd_same
        generalize upd H11 tt (.tup [.int N, .ref l2, ovV (barF (2 + d) (lns (datT T2)) N)]) = H12 at s12 e12 ⊢
        have s812 := (s10.trans s11).trans s12
        refine ⟨sa, tt, l2, 2 + d, N, _, rs, rfl, s12 _ _ (s11 _ _ e10), hS2, hLv, hN4, e12, s12 _ _ hl2, hTT.same s12, fun H13 s13 => ⟨true, true, rfl, rfl, _, rfl, iteF ?_⟩⟩
        have s813 := s812.trans s13
        have hB13 := hB8.same s813
        have hl13 := s13 _ _ (s12 _ _ hl2)
        have hTT13 := (hTT.same s12).same s13
        refine ⟨Nat.zero_le _, fun lf nlf => ?_⟩
        have s14 : Same H13 (upd H13 lf (.lst [])) := Same.new nlf
        have e14 : upd H13 lf (.lst []) lf = some (.lst []) := upd_same
        have lfl : l ≠ lf := ne_of_none hB13.hl nlf
        have lfc : cl ≠ lf := ne_of_none hB13.hc nlf
        have lfr : rl ≠ lf := ne_of_none hB13.hr nlf
        have lft : tg ≠ lf := ne_of_none hB13.ht nlf
        have hB14 := hB13.same s14
        have hl14 := s14 _ _ hl13
        have hTT14 := hTT13.same s14
        have lf2 : l2 ≠ lf := ne_of_none hl13 nlf
        generalize upd H13 lf (.lst []) = H14 at s14 e14 hB14 hl14 hTT14 ⊢
        have hOn := hS2.on hLv
        obtain ⟨ps, eps, hpsl, dd, hwk, hd1'⟩ := planF_ps hS2.p2 N 0 hOn
        have hPls : Pls (datT T2) ps := pls_of hwk
        obtain ⟨q1, q2, q3, q4, q5⟩ := plR_all hPls hSz
        have hsum : (lns (plR (datT T2) ps)).sum = 1 := by
          have := q5 0
          rw [hwk] at this
          injection this with e
          rw [← e]
          exact hd1'
        obtain ⟨xs, hflat, hxs, hxa⟩ := one_row hsum (q4 hAS)
        refine ⟨_, rfl, _, rfl, rl, l2, T2, rs, ps, rfl, hB14.hr, hB14.hN, hl14, by rw [← eps]; exact hTT14, by omega, ?_, hSz, hPls, fun tp2 bl rl2 T' es H15 htp hbl hN' hD' _ _ hnew s15 => ?_⟩
        · intro z
          rw [z] at hL2
          cases hL2
        refine ⟨tp2, _, 0, .ref bl, rfl, rfl, SqT.of htp, rfl, bl, true, rfl, ⟨_, SqL.of hbl⟩, ?_⟩
        have hB15 := hB14.same s15
        have hT'l : T'.length = (2 + d) + 1 := by
          have h1 : (datT T').length = T'.length := by unfold datT; rw [List.length_map]
          rw [← h1, hD', q2, hdl, hL2]
          omega
        have hflf : (T'.flatMap (·.2)).map cD = [some xs] := by rw [← datT_flat, hD']; exact hflat
        have hfl1 : (T'.flatMap (·.2)).length = 1 := by have := congrArg List.length hflf; rwa [List.length_map] at this
        have hsplit : ∀ j, ((T'.take j).flatMap (·.2)).length ≤ 1 := fun j => by
          have h1 : T'.flatMap (·.2) = (T'.take j).flatMap (·.2) ++ (T'.drop j).flatMap (·.2) := by rw [← List.flatMap_append, List.take_append_drop]
          rw [h1, List.length_append] at hfl1
          omega
        have lfT : lf ∉ adr T' := fun z => by rw [hnew lf z] at e14; cases e14
        have e15 := s15 _ _ e14
        have lfb : bl ≠ lf := fun z => by
          rw [z, e15] at hbl
          injection hbl with h1
          injection h1 with h2
          have := congrArg List.length h2
          rw [List.length_map, hT'l] at this
          cases this
        refine for_seqB (b := true) (xs := refT T') (fun j σ Hy => ∃ o14 : Option V, σ = [some (.ref a), some (.int z), some (.ref pl), some (.int (2 + (d : Int))), some (.ref cl), some (.ref rl), some (.ref tg), o7, o8, some (.ref sa), some (.int (N : Int)), some (.ref l2), some (ovV (barF (2 + d) (lns (datT T2)) N)), some (.ref lf), o14] ∧ Hy lf = some (.lst (((T'.take j).flatMap (·.2)).map cV)) ∧ Sm lf H15 Hy)
          ⟨_, rfl, by rw [List.take_zero]; exact e15, Sm.refl _ _⟩ (fun j σ Hy _ ⟨_, _, _, sy⟩ => SqL.of (sy _ _ hbl lfb)) ?_ ?_
        · rintro j x σ Hy hx ⟨o14, rfl, hlf, smy⟩
          rw [List.getElem?_map] at hx
          obtain ⟨t', ht', rfl⟩ := Option.map_eq_some_iff.mp hx
          have htm := List.mem_of_getElem? ht'
          have hts := smy _ _ (hN' t' htm).1 (fun z => lfT (List.mem_flatMap.mpr ⟨t', htm, by rw [← z]; exact List.mem_cons_self⟩))
          have etk : (T'.take (j + 1)).flatMap (·.2) = (T'.take j).flatMap (·.2) ++ t'.2 := by
            rw [List.take_add_one, ht', List.flatMap_append]
            simp
          have hle := hsplit (j + 1)
          rw [etk, List.length_append] at hle
          refine ⟨_, rfl, .inl ⟨rfl, _, SqL.of hlf⟩, _, rfl, lf, t'.1, _, _, rfl, rfl, hlf, hts, by rw [List.length_map, List.length_map, sizeLine_eq]; omega, ?_⟩
          exact ⟨_, rfl, by rw [upd_same, etk, List.map_append], fun x o hx hn => by rw [upd_ne hn]; exact smy x o hx hn⟩
        rintro σ Hy ⟨o14, rfl, hlf, smy⟩
        rw [List.length_map, List.take_length] at hlf
        obtain ⟨cc, hcc⟩ := List.length_eq_one_iff.mp hfl1
        rw [hcc] at hlf hflf
        have hcD : cD cc = some xs := by injection hflf
        have hcm : cc ∈ T'.flatMap (·.2) := by rw [hcc]; exact List.mem_singleton.mpr rfl
        obtain ⟨t', ht', hct⟩ := List.mem_flatMap.mp hcm
        have hcok := (hN' t' ht').2 cc hct
        obtain ⟨r, rfl⟩ : ∃ r, cc = some (r, xs) := by
          cases cc with
          | none => cases hcD
          | some q => obtain ⟨r, ys⟩ := q; injection hcD with h; exact ⟨r, by rw [← h]⟩
        have hrf : r ≠ lf := fun z => lfT (List.mem_flatMap.mpr ⟨t', ht', by rw [← z]; exact List.mem_cons_of_mem _ (List.mem_flatMap.mpr ⟨_, hct, by simp [cA]⟩)⟩)
        have hry : Hy r = some (.lst (xs.map V.int)) := smy _ _ hcok hrf
        have hty := smy _ _ hB15.ht lft
        refine ⟨_, rfl, _, rfl, tg, _, rfl, SqL.of hty, fun l5 ms nl5 hpm hup => ⟨(by show 1 ≤ sizeLine; decide), fun l6 nl6 => ?_⟩⟩
        have ems : ms = xs := (srt_of hpm hup).trans (srt_of (by rw [← hxa]; exact q3) hxs).symm
        subst ems
        have s17 : Same Hy (upd (upd Hy l5 (.lst (ms.map V.int))) l6 (.lst [.ref l5])) := (Same.new nl5).trans (Same.new nl6)
        have e17 : upd (upd Hy l5 (.lst (ms.map V.int))) l6 (.lst [.ref l5]) l6 = some (.lst [.ref l5]) := upd_same
        have e18 : upd (upd Hy l5 (.lst (ms.map V.int))) l6 (.lst [.ref l5]) l5 = some (.lst (ms.map V.int)) := (Same.new nl6) _ _ upd_same
        generalize upd (upd Hy l5 (.lst (ms.map V.int))) l6 (.lst [.ref l5]) = H17 at s17 e17 e18 ⊢
        refine ⟨lf, l6, reelD [some ms], rfl, rfl, .lst (s17 _ _ hlf) (cells_rd (cs := [some (r, ms)]) fun c hc => ?_), .lst e17 (cells_rd (cs := [some (l5, ms)]) fun c hc => ?_), Nat.le_trans (reel_depth _) (by decide), _, rfl, iteF ?_⟩
        · rw [List.mem_singleton.mp hc]
          exact s17 _ _ hry
        · rw [List.mem_singleton.mp hc]
          exact e18
        have hNy : NRL H17 T2 := (hB15.hN.frame fun x hx o e => smy x o e (fun z => by
          obtain ⟨t, ht, hxt⟩ := List.mem_flatMap.mp hx
          exact (hB13.hN t ht).has x hxt (by rw [z]; exact nlf))).same s17
        have hTT17 : TTs H17 rs (planF (2 + d) (lns (datT T2)) N) := ⟨hTT13.1, fun j r xs a b => s17 _ _ (smy _ _ (s15 _ _ (hTT14.2 j r xs a b)) (fun z => by
          have := hTT13.2 j r xs a b
          rw [z, nlf] at this
          cases this))⟩
        have hr17 := s17 _ _ (smy _ _ hB15.hr lfr)
        have hc17 := s17 _ _ (smy _ _ hB15.hc lfc)
        have hl17 := s17 _ _ (smy _ _ hB15.hl lfl)
        have hl217 := s17 _ _ (smy _ _ (s15 _ _ hl14) lf2)
        refine ⟨_, rfl, _, rfl, rl, l2, 2 + d, N, T2, rs, rfl, hr17, hNy, hl217, hTT17, hS2, hLv, hN4, hSz, fun H18 s18 => ⟨true, rfl, iteF ?_⟩⟩
        refine ⟨_, rfl, _, rfl, _, rfl, _, rfl, 2 + d, cl, N, cs, lns (datT T2), by rw [Int.natCast_add]; rfl, by omega, by omega, s18 _ _ hc17, hcsl, hcsb, hper, hLv, fun H19 s19 => ⟨true, rfl, iteF ?_⟩⟩
        exact ⟨_, _, _, _, _, _, _, _, _, _, _, _, _, _, rfl, s19 _ _ (s18 _ _ hl17)⟩
    · rintro σ Hx ⟨o1, o2, o3, o4, o5, o6, o7, o8, o9, o10, o11, o12, o13, o14, rfl, hlx⟩
      exact k Hx

end
end Fi90

set_option Elab.async false
set_option linter.all false
set_option maxRecDepth 100000
set_option maxHeartbeats 4000000
namespace Fi90
open PySem L2 Lv
section
variable {P : Program} {w : World} {K : PySem.W.Frag} {mg : Str → Option Value} {base : Heap}
theorem scMerged : FnScope ["rows"] ["rows"] (defScope sMerged) := ⟨rfl, rfl, rfl, by decide +kernel, rfl, by decide +kernel, by decide +kernel⟩
theorem ok_mergeB {f : Addr} {fd : FuncData} (F : Fun K "merged_row" "merged_row" sMerged f fd) (T : Txt mg) : FnOk P w K mg base CX0 1 f fd ["rows"] spMergeB := by
  refine F.ok scMerged (fun vs H Q E h => ?_) (fun cdv A outer s H vs Q E hr h => ?_)
  · obtain ⟨a, rs, N, rfl, _⟩ := h
    rfl
  · obtain ⟨a, rs, N, rfl, hR, hT, k⟩ := h
    refine ⟨_, pss_one (ps_ret (pe_callB call_sortA rfl T.sorted b_sorted (pa_cons (pe_comp2 (own := ["row", "thing"]) (js := []) (fr := [1]) (CompOk.bare (by decide +kernel)) rfl (pi_seqB (pv 0)) (gkeepF_name (i := 0)) gkeepT_name
        (fun _ _ _ _ _ => pg_name (i := 0) (by show (["row", "thing"] : List Str).Nodup; decide +kernel) rfl (Or.inl rfl) (.inr rfl)) (fun _ _ _ _ _ => pts_nil) (fun _ _ _ _ _ => piK_seqB K (pv 0))
        (fun _ _ _ _ _ => pg_name (i := 1) (by show (["row", "thing"] : List Str).Nodup; decide +kernel) rfl (Or.inl rfl) (.inr rfl)) (fun _ _ _ _ _ => pts_nil) (fun _ _ _ _ _ => pv 1)) pa_nil))), ?_⟩
    obtain ⟨b, hb⟩ := hR.top.both
    refine ⟨_, rfl, a, b, rfl, ⟨_, hb K H (Same.refl _)⟩, ?_⟩
    refine comp2_seqB (xs := rs.map V.ref) (fun acc i H2 => Same H H2 ∧ H2 acc = some (.lst (((N.take i).flatten).map V.int))) (fun acc h0 => ⟨Same.new h0, upd_same⟩) (fun acc i H2 h0 _ p => hb K H2 p.1) ?_ ?_
    · rintro acc i x H2 h0 hx ⟨s2, hacc⟩
      have hi := (List.getElem?_eq_some_iff.mp hx).1
      obtain ⟨r, xs, rfl, e1, e2, hrow⟩ := hR.get hx
      obtain ⟨b2, hb2⟩ := hrow.both
      refine ⟨_, rfl, r, b2, rfl, ⟨_, hb2 K H2 s2⟩, ?_⟩
      refine in_seqB (xs := xs.map V.int) (fun j H3 => Same H H3 ∧ H3 acc = some (.lst (((N.take i).flatten ++ xs.take j).map V.int))) ⟨s2, by simpa using hacc⟩ (fun j H3 _ p => hb2 K H3 p.1) ?_ ?_
      · rintro j y H3 hy ⟨s3, hac3⟩
        obtain ⟨z, hz, rfl⟩ := map_get hy
        have hj := (List.getElem?_eq_some_iff.mp hz).1
        have hle := flat_le1 e2 (Nat.le_of_lt hj)
        refine ⟨_, rfl, _, hac3, small15 (by rw [List.length_map, List.length_append, List.length_take]; omega), by rw [List.length_map]; exact hj, s3.put h0, ?_⟩
        rw [upd_same, List.take_add_one, hz]
        simp
      · rintro H3 ⟨s3, hac3⟩
        refine ⟨hi, s3, ?_⟩
        rw [hac3, flat_take e2, List.length_map, List.take_length]
    · rintro acc H2 h0 ⟨s2, hacc⟩
      rw [List.length_map, hR.len, List.take_length] at hacc
      refine ⟨acc, _, rfl, SqL.of hacc, fun l ms nl pm up => ?_⟩
      have := ne_of_none hacc nl
      exact k l ms _ (s2.free nl) upd_same pm up (s2.trans (Same.new nl))

theorem scCopy : FnScope ["row"] ["row"] (defScope sCopy) := ⟨rfl, rfl, rfl, by decide +kernel, rfl, by decide +kernel, by decide +kernel⟩
theorem ok_copyR {f : Addr} {fd : FuncData} (F : Fun K "copied_row" "copied_row" sCopy f fd) (T : Txt mg) : FnOk P w K mg base CX0 1 f fd ["row"] spCopyR := by
  refine F.ok scCopy (fun vs H Q E h => ?_) (fun cdv A outer s H vs Q E hr h => ?_)
  · obtain ⟨c, rfl, _⟩ := h
    rfl
  · obtain ⟨c, rfl, hc, k⟩ := h
    refine ⟨_, (pss_one (ps_ret (pe_ifExp (pt_cmpR op_isN (pv 0) pe_non (nomark _)) pe_non (pe_callTy call_list_of rfl T.list b_list (pa_cons (pv 0) pa_nil))))), ?_⟩
    refine ⟨_, rfl, rfl, _, rfl, ?_⟩
    cases c with
    | none => exact iteT (k none H rfl trivial (fun r hr => by simp [cA] at hr) (Same.refl _))
    | some q =>
      have h' : H q.1 = some (.lst (q.2.map V.int)) := hc
      exact iteF ⟨_, rfl, q.1, _, rfl, .inl (SqL.of h'), fun l nl => k (some (l, q.2)) _ rfl upd_same (fun r hr => by
        have : r = l := by simpa [cA] using hr
        rw [this]; exact nl) (Same.new nl)⟩

theorem scThin : FnScope ["rows"] ["rows"] (defScope sThin) := ⟨rfl, rfl, rfl, by decide +kernel, rfl, by decide +kernel, by decide +kernel⟩
theorem ok_thinR {f : Addr} {fd : FuncData} (F : Fun K "things_in" "things_in" sThin f fd) (T : Txt mg) : FnOk P w K mg base CX0 1 f fd ["rows"] spThinR := by
  refine F.ok scThin (fun vs H Q E h => ?_) (fun cdv A outer s H vs Q E hr h => ?_)
  · obtain ⟨l, cs, rfl, _⟩ := h
    rfl
  · obtain ⟨l, cs, rfl, hT, hl, k⟩ := h
    refine ⟨_, (pss_one (ps_ret (pe_callB (call_sumI rfl) rfl T.sum b_sum (pa_cons (pe_comp (own := ["row"]) (js := []) (CompOk.by (sc := defScope sThin) (N := ["rows"]) rfl rfl (by decide +kernel)) rfl (pi_seqB (pv 0)) gkeep_name (fun _ _ _ _ _ => (pg_name (i := 0) (by show (["row"] : List Str).Nodup; decide +kernel) rfl (Or.inl rfl) (.inr rfl))) (fun _ _ _ _ _ => (pts_one (pt_cmpR op_notN (pv 0) pe_non (nomark _)))) (fun _ _ _ _ _ => (pe_callB (callK_len K) rfl T.len PySem.boot_len (pa_cons (pv 0) pa_nil)))) pa_nil)))), ?_⟩
    refine ⟨_, rfl, l, true, rfl, ⟨_, SqL.of hT.1⟩, ?_⟩
    refine comp_seqB (b := true) (xs := cs.map cV) (fun acc i H2 => Same H H2 ∧ H2 acc = some (.lst (((rl90 ((cs.take i).map cD)).map fun xs => (xs.length : Int)).map V.int))) (fun acc h0 => ⟨Same.new h0, upd_same⟩) (fun acc i H2 h0 _ p => SqL.of (p.1 _ _ hT.1)) ?_ ?_
    · rintro acc i x H2 h0 hx ⟨s2, hacc⟩
      rw [List.getElem?_map] at hx
      obtain ⟨c, hc, rfl⟩ : ∃ c, cs[i]? = some c ∧ x = cV c := by
        cases e : cs[i]? with
        | none => rw [e] at hx; cases hx
        | some c => rw [e] at hx; exact ⟨c, rfl, (Option.some.inj hx).symm⟩
      have hi := (List.getElem?_eq_some_iff.mp hc).1
      have ok := hT.2 c (List.mem_of_getElem? hc)
      have et : (cs.take (i + 1)).map cD = (cs.take i).map cD ++ [cD c] := by rw [List.take_add_one, hc, List.map_append]; rfl
      refine ⟨_, rfl, rfl, _, rfl, ?_⟩
      cases c with
      | none =>
        refine iteF ⟨by rw [List.length_map]; exact hi, s2, ?_⟩
        rw [hacc, et, rl_app]
        simp [rl90, cD]
      | some q =>
        have h' : H q.1 = some (.lst (q.2.map V.int)) := ok
        refine iteT ⟨_, rfl, q.1, _, rfl, .inl (SqL.of (s2 _ _ h')), _, hacc, ?_, by rw [List.length_map]; exact hi, s2.put h0, ?_⟩
        · refine small15 ?_
          rw [List.length_map, List.length_map]
          refine Nat.le_trans (List.length_filterMap_le _ _) ?_
          rw [List.length_map, List.length_take]
          omega
        · rw [upd_same, et, rl_app]
          simp [rl90, cD]
    · rintro acc H2 h0 ⟨s2, hacc⟩
      rw [List.length_map, List.take_length] at hacc
      exact ⟨acc, _, rfl, SqL.of hacc, k H2 s2⟩

theorem scIdle : FnScope ["rows", "real"] ["rows"] (defScope sIdle) := ⟨rfl, rfl, rfl, by decide +kernel, rfl, by decide +kernel, by decide +kernel⟩
theorem ok_idleR {f f1 : Addr} {fd d1 : FuncData} (F : Fun K "merged_or_idle" "merged_or_idle" sIdle f fd) (T : Txt mg) (CM : Cal P w K mg base 1 "merged_row" ["rows"] spMergeB f1 d1) : FnOk P w K mg base CX0 2 f fd ["rows"] spIdleR := by
  refine F.ok scIdle (fun vs H Q E h => ?_) (fun cdv A outer s H vs Q E hr h => ?_)
  · obtain ⟨l, cs, rfl, _⟩ := h
    rfl
  · obtain ⟨l, cs, rfl, hT, hl, hf, k⟩ := h
    have hr1 : Room 1 _ := hr.mono (by decide)
    refine ⟨_, (pss_cons (ps_comp (i := 1) scIdle.nd rfl rfl (own := ["row"]) (js := []) (CompOk.by (sc := defScope sIdle) (N := ["rows", "real"]) rfl rfl (by decide +kernel)) rfl (pi_seqB (pv 0)) gkeep_name (fun _ _ _ _ _ => (pg_name (i := 0) (by show (["row"] : List Str).Nodup; decide +kernel) rfl (Or.inl rfl) (.inr rfl))) (fun _ _ _ _ _ => (pts_one (pt_cmpR op_notN (pv 0) pe_non (nomark _)))) (fun _ _ _ _ _ => (pv 0)))
      (pss_one (ps_ret (pe_ifExp (pt_truth (pv 1) (fun _ => rfl)) (pe_cal CM hr1 rfl (pa_cons (pv 1) pa_nil)) pe_non)))), ?_⟩
    refine ⟨_, rfl, l, true, rfl, ⟨_, SqL.of hT.1⟩, ?_⟩
    refine comp_seqB (b := true) (xs := cs.map cV) (fun acc i H2 => Same H H2 ∧ ∃ rs : List Addr, H2 acc = some (.lst (rs.map V.ref)) ∧ LLs H2 rs (rl90 ((cs.take i).map cD)) ∧ acc ∉ rs) (fun acc h0 => ⟨Same.new h0, [], upd_same, ⟨rfl, fun j r xs a _ => by simp at a⟩, by simp⟩) (fun acc i H2 h0 _ p => SqL.of (p.1 _ _ hT.1)) ?_ ?_
    · rintro acc i x H2 h0 hx ⟨s2, rs, hacc, hL, hn⟩
      rw [List.getElem?_map] at hx
      obtain ⟨c, hc, rfl⟩ : ∃ c, cs[i]? = some c ∧ x = cV c := by
        cases e : cs[i]? with
        | none => rw [e] at hx; cases hx
        | some c => rw [e] at hx; exact ⟨c, rfl, (Option.some.inj hx).symm⟩
      have hi := (List.getElem?_eq_some_iff.mp hc).1
      have ok := hT.2 c (List.mem_of_getElem? hc)
      have et : (cs.take (i + 1)).map cD = (cs.take i).map cD ++ [cD c] := by rw [List.take_add_one, hc, List.map_append]; rfl
      refine ⟨_, rfl, rfl, _, rfl, ?_⟩
      cases c with
      | none =>
        refine iteF ⟨by rw [List.length_map]; exact hi, s2, rs, hacc, ?_, hn⟩
        rw [et, rl_app]
        simpa [rl90, cD] using hL
      | some q =>
        have h' : H q.1 = some (.lst (q.2.map V.int)) := ok
        have hne : q.1 ≠ acc := fun z => by rw [z, h0] at h'; cases h'
        have hrl : rs.length ≤ 15000 := by
          rw [hL.1]
          refine Nat.le_trans (List.length_filterMap_le _ _) ?_
          rw [List.length_map, List.length_take]
          omega
        refine iteT ⟨_, rfl, _, hacc, small15 (by rw [List.length_map]; omega), by rw [List.length_map]; exact hi, s2.put h0, rs ++ [q.1], by rw [upd_same]; simp [cV], ?_, ?_⟩
        · rw [et, rl_app]
          have hL2 := hL.lst (ys := rs.map V.ref ++ [cV (some q)]) hn
          refine hL2.snoc ?_
          rw [upd_ne hne]
          exact s2 _ _ h'
        · simp [hn, hne.symm]
    · rintro acc H2 h0 ⟨s2, rs, hacc, hL, hn⟩
      rw [List.length_map, List.take_length] at hL
      refine ⟨_, rfl, !(rs.map V.ref).isEmpty, .inl ⟨_, SqL.of hacc, rfl⟩, ?_⟩
      by_cases hz : rl90 (cs.map cD) = []
      · have hrs : rs = [] := by have := hL.1; rw [hz] at this; exact List.eq_nil_of_length_eq_zero this
        subst hrs
        refine iteF ?_
        refine k none H2 ?_ trivial (fun r hr => by simp [cA] at hr) s2
        unfold mrg
        rw [if_pos hz]
        rfl
      · have hrs : (!(rs.map V.ref).isEmpty) = true := by
          cases rs with
          | nil => exact absurd (List.eq_nil_of_length_eq_zero (by have := hL.1; simpa using this.symm)) hz
          | cons a b => rfl
        rw [hrs]
        refine iteT ⟨_, rfl, acc, rs, rl90 (cs.map cD), rfl, RwS.of hacc hL, ?_, fun l2 ms H3 hl0 hl2 hp hs s3 => ?_⟩
        · have : (lenN (rl90 (cs.map cD))).sum = ((rl90 (cs.map cD)).flatten).length := by unfold lenN; rw [List.length_flatten]
          omega
        · refine k (some (l2, ms)) H3 ?_ hl2 (fun r hr => ?_) (s2.trans s3)
          · unfold mrg
            rw [if_neg hz, ← srt_of hp hs]
            rfl
          · have : r = l2 := by simpa [cA] using hr
            rw [this]
            exact s2.free hl0

theorem scTkAt : FnScope ["taken", "at"] ["taken", "at"] (defScope sTkAt) := ⟨rfl, rfl, rfl, by decide +kernel, rfl, by decide +kernel, by decide +kernel⟩
theorem ok_tkAtR {f : Addr} {fd : FuncData} (F : Fun K "taken_at" "taken_at" sTkAt f fd) (T : Txt mg) : FnOk P w K mg base CX0 1 f fd ["taken", "at"] spTkAtR := by
  refine F.ok scTkAt (fun vs H Q E h => ?_) (fun cdv A outer s H vs Q E hr h => ?_)
  · obtain ⟨l, T0, i0, rfl, _⟩ := h
    rfl
  · obtain ⟨l, T0, i0, rfl, hl, hN, h20, k⟩ := h
    refine ⟨_, (pss_one (ps_ret (pe_comp (own := ["rows"]) (js := [1]) (CompOk.by (sc := defScope sTkAt) (N := ["taken", "at"]) rfl rfl (by decide +kernel)) rfl (pi_seqB (pv 0)) gkeep_name (fun _ _ _ _ _ => (pg_name (i := 0) (by show (["rows", "at"] : List Str).Nodup; decide +kernel) rfl (Or.inl rfl) (.inr rfl))) (fun _ _ _ _ _ => (pts_one (pt_cmpR op_lt (pv 1) (pe_callB (callK_len K) rfl T.len PySem.boot_len (pa_cons (pv 0) pa_nil)) (nomark _)))) (fun _ _ _ _ _ => (pe_ix (ixK_list K) (pv 0) (pv 1) (fun _ _ => rfl)))))), ?_⟩
    refine ⟨_, rfl, l, true, rfl, ⟨_, SqL.of hl⟩, ?_⟩
    refine comp_seqB (b := true) (xs := refT T0) (fun acc i H2 => Same H H2 ∧ ∃ cs : List Cell, H2 acc = some (.lst (cs.map cV)) ∧ (∀ c ∈ cs, cOk H2 c) ∧ cs.map cD = (datT (T0.take i)).filterMap (·[i0]?) ∧ acc ∉ cs.flatMap cA ∧ cs.length ≤ i) (fun acc h0 => ⟨Same.new h0, [], upd_same, fun c hc => by simp at hc, rfl, by simp, Nat.le_refl _⟩) (fun acc i H2 h0 _ p => SqL.of (p.1 _ _ hl)) ?_ ?_
    · rintro acc i x H2 h0 hx ⟨s2, cs, hacc, hok, hD, hn, hcl⟩
      rw [List.getElem?_map] at hx
      obtain ⟨t, ht, rfl⟩ : ∃ t, T0[i]? = some t ∧ x = .ref t.1 := by
        cases e : T0[i]? with
        | none => rw [e] at hx; cases hx
        | some c => rw [e] at hx; exact ⟨c, rfl, (Option.some.inj hx).symm⟩
      have hi := (List.getElem?_eq_some_iff.mp ht).1
      have ok := hN t (List.mem_of_getElem? ht)
      have et : datT (T0.take (i + 1)) = datT (T0.take i) ++ [t.2.map cD] := by unfold datT; rw [List.take_add_one, ht, List.map_append]; rfl
      refine ⟨_, rfl, _, rfl, t.1, _, rfl, .inl (SqL.of (s2 _ _ ok.1)), _, _, rfl, rfl, _, rfl, ?_⟩
      by_cases hc : (i0 : Int) < (t.2.length : Int)
      · rw [show decide ((i0 : Int) < ((t.2.map cV).length : Int)) = true from decide_eq_true (by rw [List.length_map]; exact hc)]
        have hc' : i0 < t.2.length := by omega
        have okc := ok.2 t.2[i0] (List.getElem_mem hc')
        have hne : acc ∉ cA t.2[i0] := fun z => okc.has acc z h0
        refine iteT ⟨_, rfl, _, rfl, t.1, _, _, cV t.2[i0], rfl, rfl, SqL.of (s2 _ _ ok.1), ?_, _, hacc, small15 (by rw [List.length_map]; omega), by rw [List.length_map]; exact hi, s2.put h0, cs ++ [t.2[i0]], by rw [upd_same]; simp, fun d hd => ?_, ?_, ?_, by simp; omega⟩
        · refine atI_nat ?_
          rw [List.getElem?_map, List.getElem?_eq_getElem hc']
          rfl
        · rcases List.mem_append.mp hd with hd | hd
          · exact (hok d hd).off fun z => hn (List.mem_flatMap.mpr ⟨d, hd, z⟩)
          · rw [List.mem_singleton.mp hd]
            exact (okc.same s2).off hne
        · rw [List.map_append, hD, et, List.filterMap_append]
          simp [List.getElem?_eq_getElem hc']
        · rw [List.flatMap_append]
          intro z
          rcases List.mem_append.mp z with z | z
          · exact hn z
          · exact hne (by simpa using z)
      · rw [show decide ((i0 : Int) < ((t.2.map cV).length : Int)) = false from decide_eq_false (by rw [List.length_map]; exact hc)]
        refine iteF ⟨by rw [List.length_map]; exact hi, s2, cs, hacc, hok, ?_, hn, by omega⟩
        rw [hD, et, List.filterMap_append]
        have : (t.2.map cD)[i0]? = none := List.getElem?_eq_none (by rw [List.length_map]; omega)
        simp [this]
    · rintro acc H2 h0 ⟨s2, cs, hacc, hok, hD, hn, hcl⟩
      rw [List.length_map, List.take_length] at hD
      exact k acc cs H2 h0 ⟨hacc, hok⟩ hD s2

end
end Fi90

set_option Elab.async false
set_option linter.all false
set_option maxRecDepth 100000
set_option maxHeartbeats 4000000
namespace Fi90
open PySem L2 Lv
section
variable {P : Program} {w : World} {K : PySem.W.Frag} {mg : Str → Option Value} {base : Heap}
theorem scPhPl : FnScope ["reels", "phase", "out", "many", "taken", "behind"] ["reels", "phase"] (defScope sPhPl) := ⟨rfl, rfl, rfl, by decide +kernel, rfl, by decide +kernel, by decide +kernel⟩
theorem slK_list (K : PySem.W.Frag) {X : Cx} (hK : X.K = K := by rfl) : SlR X (rSlL K) := by subst hK; exact sl_list
theorem cutC_take (cs : List Cell) (m : Nat) : cutV (cs.map cV) none (some (m : Int)) = (cs.take m).map cV := by
  unfold cutV
  show ((cs.map cV).drop 0).take (HT.sIx (cs.map cV).length (cs.map cV).length (some ((m : Nat) : Int)) - 0) = _
  rw [HT.sIx_nat, Nat.sub_zero, List.drop_zero, List.map_take]
  rcases Nat.le_total m (cs.map cV).length with h | h
  · rw [Nat.min_eq_left h]
  · rw [Nat.min_eq_right h, List.take_length, List.take_of_length_le h]
theorem cutC_drop (cs : List Cell) (m : Nat) : cutV (cs.map cV) (some (m : Int)) none = (cs.drop m).map cV := by
  unfold cutV
  show ((cs.map cV).drop (HT.sIx (cs.map cV).length 0 (some ((m : Nat) : Int)))).take ((cs.map cV).length - HT.sIx (cs.map cV).length 0 (some ((m : Nat) : Int))) = _
  rw [HT.sIx_nat, List.map_drop]
  rcases Nat.le_total m (cs.map cV).length with h | h
  · rw [Nat.min_eq_left h, List.take_of_length_le (by rw [List.length_drop]; exact Nat.le_refl _)]
  · rw [Nat.min_eq_right h, Nat.sub_self, List.take_zero, List.drop_of_length_le h]
theorem dat_at {T : List Reel} {i : Nat} {x : V} (h : (refT T)[i]? = some x) : ∃ t, T[i]? = some t ∧ x = .ref t.1 ∧ t ∈ T ∧ (datT T)[i]? = some (t.2.map cD) := by
  rw [List.getElem?_map] at h
  cases e : T[i]? with
  | none => rw [e] at h; cases h
  | some t => rw [e] at h; exact ⟨t, rfl, (Option.some.inj h).symm, List.mem_of_getElem? e, by unfold datT; rw [List.getElem?_map, e]; rfl⟩
theorem len_le_flat {L : List (List Int)} {x : List Int} (h : x ∈ L) : x.length ≤ L.flatten.length := by
  rw [List.length_flatten]
  have : ∀ {M : List (List Int)}, x ∈ M → x.length ≤ (M.map List.length).sum := by
    intro M
    induction M with
    | nil => intro z; simp at z
    | cons y M ih =>
      intro z
      rw [List.map_cons, List.sum_cons]
      rcases List.mem_cons.mp z with rfl | z
      · omega
      · have := ih z; omega
  exact this h
theorem range_map {α β : Type} (D : List α) (d : α) (F : α → β) : (List.range D.length).map (fun i => F (D.getD i d)) = D.map F := by
  refine List.ext_getElem (by simp) fun i h1 h2 => ?_
  simp at h1
  simp [h1]
theorem ok_phPlR {f f1 f2 f3 : Addr} {fd d1 d2 d3 : FuncData} (F : Fun K "phase_played" "phase_played" sPhPl f fd) (T : Txt mg) (CI : Cal P w K mg base 2 "merged_or_idle" ["rows"] spIdleR f1 d1) (CA : Cal P w K mg base 1 "taken_at" ["taken", "at"] spTkAtR f2 d2) (CT : Cal P w K mg base 1 "things_in" ["rows"] spThinR f3 d3) : FnOk P w K mg base CX0 3 f fd ["reels", "phase"] spPhPlR := by
  refine okW F scPhPl (fun vs H Q E h => ?_) (fun cdv A outer s H vs Q E hr h => ?_)
  · obtain ⟨l, q, T0, o, m, rfl, _⟩ := h
    rfl
  · obtain ⟨l, q, T0, o, m, rfl, hl, hN, hq, ho, hm, ⟨z20, zr, zt⟩, k⟩ := h
    have hr1 : Room 1 _ := hr.mono (by decide)
    have hr2 : Room 2 _ := hr.mono (by decide)
    refine ⟨_, (wss_cons (ws (ps_asg (pv 1) (pg_tup rfl (pgs_cons (pg_name (i := 2) scPhPl.nd rfl (Or.inl rfl)) (pgs_cons (pg_name (i := 3) scPhPl.nd rfl (Or.inr rfl)) pgs_nil)))))
      (wss_cons (ws (ps_set (i := 4) scPhPl.nd rfl (Or.inr rfl) (pe_comp (own := ["reel"]) (js := [3]) (CompOk.by (sc := defScope sPhPl) (N := ["reels", "phase", "out", "many", "taken", "behind"]) rfl rfl (by decide +kernel)) rfl (pi_seqB (pv 0)) gkeep_name (fun _ _ _ _ _ => (pg_name (i := 0) (by show (["reel", "many"] : List Str).Nodup; decide +kernel) rfl (Or.inl rfl) (.inr rfl))) (fun _ _ _ _ _ => pts_nil) (fun _ _ _ _ _ => (pe_slice (slK_list K) (pv 0) po_none (po_some (pv 1)))))))
      (wss_cons (ws (ps_comp (i := 5) scPhPl.nd rfl rfl (own := ["reel"]) (js := [3]) (CompOk.by (sc := defScope sPhPl) (N := ["reels", "phase", "out", "many", "taken", "behind"]) rfl rfl (by decide +kernel)) rfl (pi_seqB (pv 0)) gkeep_name (fun _ _ _ _ _ => (pg_name (i := 0) (by show (["reel", "many"] : List Str).Nodup; decide +kernel) rfl (Or.inl rfl) (.inr rfl))) (fun _ _ _ _ _ => pts_nil) (fun _ _ _ _ _ => (pe_slice (slK_list K) (pv 0) (po_some (pv 1)) po_none))))
      (wss_cons (ws (ps_asg (pe_comp (own := ["at"]) (js := [4]) (CompOk.by (sc := defScope sPhPl) (N := ["reels", "phase", "out", "many", "taken", "behind"]) rfl rfl (by decide +kernel)) rfl (pi_range1 rfl T.range (pa_cons (pv 3) pa_nil)) gkeep_name (fun _ _ _ _ _ => (pg_name (i := 0) (by show (["at", "taken"] : List Str).Nodup; decide +kernel) rfl (Or.inl rfl) (.inr rfl))) (fun _ _ _ _ _ => pts_nil) (fun _ _ _ _ _ => (pe_cal CI hr2 rfl (pa_cons (pe_cal CA hr1 rfl (pa_cons (pv 1) (pa_cons (pv 0) pa_nil))) pa_nil)))) (pg_sub (pv 5) (pv 2) set_list)))
      (wss_one (ws (ps_ret (pe_tup (pa_cons (pv 5) (pa_cons (pe_comp (own := ["rows"]) (js := []) (CompOk.by (sc := defScope sPhPl) (N := ["reels", "phase", "out", "many", "taken", "behind"]) rfl rfl (by decide +kernel)) rfl (pi_seqB (pv 4)) gkeep_name (fun _ _ _ _ _ => (pg_name (i := 0) (by show (["rows"] : List Str).Nodup; decide +kernel) rfl (Or.inl rfl) (.inr rfl))) (fun _ _ _ _ _ => pts_nil) (fun _ _ _ _ _ => (pe_cal CT hr1 rfl (pa_cons (pv 0) pa_nil)))) pa_nil)))))))))), ?_⟩
    have hTl : T0.length = (datT T0).length := by unfold datT; rw [List.length_map]
    refine ⟨_, rfl, q, _, rfl, SqT.of hq, rfl, _, _, rfl, _, _, rfl, rfl, ?_⟩
    refine ⟨_, rfl, l, true, rfl, ⟨_, SqL.of hl⟩, ?_⟩
    refine comp_reels (b := true) (fun i => ((datT T0).getD i []).take m) (fun x => x ∈ adr T0) (fun x hx => by obtain ⟨t, ht, hz⟩ := List.mem_flatMap.mp hx; exact (hN t ht).has x hz) (show SqB true K H l (refT T0) from SqL.of hl) (by rw [List.length_map]; omega) (fun i x hx H1 s1 R hR => ?_) fun tk T1 H1 htk0 htk hN1 hD1 hnt hO1 s1 => ?_
    · obtain ⟨t, ht, rfl, htm, hd⟩ := dat_at hx
      have ok := (hN t htm).same s1
      refine ⟨_, rfl, _, rfl, _, rfl, t.1, _, rfl, SqL.of ok.1, fun p np => ?_⟩
      rw [cutC_take]
      refine hR (p, t.2.take m) _ ⟨upd_same, fun c hc => (ok.2 c (List.mem_of_mem_take hc)).same (Same.new np)⟩ ?_ (fun r hr => ?_) (Same.new np)
      · rw [List.getD_eq_getElem?_getD, hd, List.map_take]
        rfl
      · rcases List.mem_cons.mp hr with rfl | hr
        · exact .inl np
        · obtain ⟨c, hc, hrc⟩ := List.mem_flatMap.mp hr
          exact .inr (List.mem_flatMap.mpr ⟨t, htm, List.mem_cons_of_mem _ (List.mem_flatMap.mpr ⟨c, List.mem_of_mem_take hc, hrc⟩)⟩)
    have hD1' : datT T1 = (datT T0).map (·.take m) := by rw [hD1, List.length_map, hTl]; exact range_map (datT T0) [] (·.take m)
    have hl1 := s1 _ _ hl
    have hN01 : NRL H1 T0 := hN.same s1
    refine ⟨_, rfl, l, true, rfl, ⟨_, SqL.of hl1⟩, ?_⟩
    refine comp_reels (b := true) (fun i => ((datT T0).getD i []).drop m) (fun x => x ∈ adr T0) (fun x hx => by obtain ⟨t, ht, hz⟩ := List.mem_flatMap.mp hx; exact (hN01 t ht).has x hz) (show SqB true K H1 l (refT T0) from SqL.of hl1) (by rw [List.length_map]; omega) (fun i x hx H2 s2 R hR => ?_) fun bh T2 H2 hbh0 hbh hN2 hD2 hnb hO2 s2 => ?_
    · obtain ⟨t, ht, rfl, htm, hd⟩ := dat_at hx
      have ok := (hN01 t htm).same s2
      refine ⟨_, rfl, _, rfl, _, rfl, t.1, _, rfl, SqL.of ok.1, fun p np => ?_⟩
      rw [cutC_drop]
      refine hR (p, t.2.drop m) _ ⟨upd_same, fun c hc => (ok.2 c (List.mem_of_mem_drop hc)).same (Same.new np)⟩ ?_ (fun r hr => ?_) (Same.new np)
      · rw [List.getD_eq_getElem?_getD, hd, List.map_drop]
        rfl
      · rcases List.mem_cons.mp hr with rfl | hr
        · exact .inl np
        · obtain ⟨c, hc, hrc⟩ := List.mem_flatMap.mp hr
          exact .inr (List.mem_flatMap.mpr ⟨t, htm, List.mem_cons_of_mem _ (List.mem_flatMap.mpr ⟨c, List.mem_of_mem_drop hc, hrc⟩)⟩)
    have hD2' : datT T2 = (datT T0).map (·.drop m) := by rw [hD2, List.length_map, hTl]; exact range_map (datT T0) [] (·.drop m)
    have hT2l : T2.length = T0.length := by have := congrArg List.length hD2'; simpa [datT] using this
    have hT1l : T1.length = T0.length := by have := congrArg List.length hD1'; simpa [datT] using this
    have htk2 := s2 _ _ htk
    have hN12 : NRL H2 T1 := hN1.same s2
    have tkeq : ∀ i, (datT T1).filterMap (·[i]?) = tkA (datT T0) m i := fun i => by
      rw [hD1', List.filterMap_map]
      rfl
    have few : ∀ i, (tkA (datT T0) m i).length ≤ 20 := fun i => Nat.le_trans (List.length_filterMap_le _ _) z20
    have tot : ∀ i, i < m → ((rl90 (tkA (datT T0) m i)).flatten).length ≤ 15000 := fun i hi => by
      have h1 := (tk_perm m (datT T0)).flatten.length_eq
      have h2 := (split_perm m (datT T0)).length_eq
      have h3 : ((rl90 (tkA (datT T0) m i)).flatten).length ≤ ((((List.range m).map fun i => rl90 (tkA (datT T0) m i)).flatten).flatten).length := by
        rw [List.flatten_flatten, List.map_map]
        exact len_le_flat (List.mem_map.mpr ⟨i, List.mem_range.mpr hi, rfl⟩)
      rw [List.length_append] at h2
      omega
    refine ⟨_, rfl, _, rfl, by omega, by omega, ?_⟩
    rw [Int.toNat_natCast]
    refine comp_cellsR (fun i => mrg (tkA (datT T0) m i)) (fun _ => False) (fun _ z => z.elim) hm (fun i hi H3 s3 R hR => ?_) fun ml cs H3 hml0 hml hDm hnm hO3 s3 => ?_
    · refine ⟨_, rfl, _, rfl, tk, T1, i, (by rw [Int.zero_add]; rfl), s3 _ _ htk2, hN12.same s3, by omega, fun a cs H4 ha hok hDc s4 => ?_⟩
      have hcl : cs.length ≤ 20 := by
        have := congrArg List.length hDc
        rw [List.length_map, tkeq] at this
        have := few i
        omega
      refine ⟨a, cs, rfl, hok, by omega, by rw [hDc, tkeq]; exact tot i hi, fun c' H5 hc' okc' hn' s5 => ?_⟩
      refine hR c' H5 okc' ?_ (fun r hr => .inl (s4.free (hn' r hr))) (s4.trans s5)
      rw [hc', hDc, tkeq]
    have hbh3 := s3 _ _ hbh
    refine ⟨_, rfl, _, rfl, bh, _, _, o, rfl, rfl, hbh3, ixN_of (by omega) (by rw [List.length_map]; omega), ?_⟩
    have hN3 : NRL H3 T2 := hN2.same s3
    have nbm : bh ∉ tA (ml, cs) := fun z => by
      rcases List.mem_cons.mp z with z | z
      · have z' : bh = ml := z
        rw [z'] at hbh
        rw [hbh] at hml0
        cases hml0
      · obtain ⟨c, hc, hrc⟩ := List.mem_flatMap.mp z
        cases c with
        | none => simp [cA] at hrc
        | some qq =>
          have e1 : H3 qq.1 = some (.lst (qq.2.map V.int)) := hml.2 _ hc
          have e2 : bh = qq.1 := by simpa [cA] using hrc
          rw [← e2, hbh3] at e1
          have e3 : refT T2 = qq.2.map V.int := by injection Option.some.inj e1
          cases T2 with
          | nil => simp at hT2l; omega
          | cons t0 T2 =>
            cases h2 : qq.2 with
            | nil => rw [h2] at e3; simp at e3
            | cons z0 zs => rw [h2] at e3; simp at e3
    have n0 : H bh = none := s1.free hbh0
    have hbt : bh ∉ adr T1 := fun z => by
      obtain ⟨t, ht, htz⟩ := List.mem_flatMap.mp z
      exact (hN1 t ht).has bh htz hbh0
    have ntk : tk ≠ bh := fun z => by rw [z, hbh0] at htk; cases htk
    have eset : (refT T2).set o (V.ref ml) = refT (T2.set o (ml, cs)) := by
      show _ = (T2.set o (ml, cs)).map _
      rw [List.map_set]
    rw [eset]
    have e4 : upd H3 bh (.lst (refT (T2.set o (ml, cs)))) bh = some (.lst (refT (T2.set o (ml, cs)))) := upd_same
    have hN4 : NRL (upd H3 bh (.lst (refT (T2.set o (ml, cs))))) (T2.set o (ml, cs)) := fun t ht => by
      rcases List.mem_or_eq_of_mem_set ht with ht | rfl
      · exact (hN3 t ht).off fun z => hnb (List.mem_flatMap.mpr ⟨t, ht, z⟩)
      · exact hml.off nbm
    have hD4 : datT (T2.set o (ml, cs)) = phR (datT T0) o m := by
      unfold phR
      rw [← hD2', ← hDm]
      unfold datT
      rw [List.map_set]
    have hb4 : bh ∉ adr (T2.set o (ml, cs)) := fun z => by
      obtain ⟨t, ht, htz⟩ := List.mem_flatMap.mp z
      rcases List.mem_or_eq_of_mem_set ht with ht | rfl
      · exact hnb (List.mem_flatMap.mpr ⟨t, ht, htz⟩)
      · exact nbm htz
    have hO4 : ∀ x ∈ adr (T2.set o (ml, cs)), H x = none ∨ x ∈ adr T0 := fun x z => by
      obtain ⟨t, ht, htz⟩ := List.mem_flatMap.mp z
      rcases List.mem_or_eq_of_mem_set ht with ht | rfl
      · rcases hO2 x (List.mem_flatMap.mpr ⟨t, ht, htz⟩) with y | y
        · exact .inl (s1.free y)
        · exact .inr y
      · rcases List.mem_cons.mp htz with y | y
        · have y' : x = ml := y
          rw [y']
          exact .inl ((s1.trans s2).free hml0)
        · rcases hO3 x y with u | u
          · exact .inl ((s1.trans s2).free u)
          · exact u.elim
    have htk4 : upd H3 bh (.lst (refT (T2.set o (ml, cs)))) tk = some (.lst (refT T1)) := by rw [upd_ne ntk]; exact s3 _ _ htk2
    have hN14 : NRL (upd H3 bh (.lst (refT (T2.set o (ml, cs))))) T1 := (hN12.same s3).off hbt
    have s04 : Same H (upd H3 bh (.lst (refT (T2.set o (ml, cs))))) := ((s1.trans s2).trans s3).put n0
    generalize upd H3 bh (.lst (refT (T2.set o (ml, cs)))) = H4 at e4 hN4 htk4 hN14 s04 ⊢
    refine ⟨_, rfl, _, rfl, tk, true, rfl, ⟨_, SqL.of htk4⟩, ?_⟩
    refine comp_mapB ((((datT T0).map fun r => thg (r.take m))).map V.int) (show SqB true K H4 tk (refT T1) from SqL.of htk4) (by simp [datT, hT1l]) (by rw [List.length_map]; omega) (fun i x y hx hy H5 s5 R hR => ?_) fun acc H5 h0 s5 hacc => ?_
    · obtain ⟨t, ht, rfl, htm, hd⟩ := dat_at hx
      have ey : y = .int (thg (t.2.map cD)) := by
        have : (datT T0).map (fun r => thg (r.take m)) = (datT T1).map thg := by rw [hD1', List.map_map]; rfl
        rw [this, List.map_map, List.getElem?_map, hd] at hy
        exact (Option.some.inj hy).symm
      subst ey
      have hlen : t.2.length ≤ 15000 := by
        have h1 : t.2.map cD ∈ datT T1 := List.mem_of_getElem? hd
        rw [hD1'] at h1
        obtain ⟨r, hr', er⟩ := List.mem_map.mp h1
        have h2 := congrArg List.length er
        rw [List.length_take, List.length_map] at h2
        have := zr r hr'
        omega
      exact ⟨_, rfl, t.1, t.2, rfl, (hN14 t htm).same s5, hlen, fun H6 s6 => hR H6 s6⟩
    · refine ⟨(by show 2 ≤ sizeLine; decide), fun t nt => ?_⟩
      have s6 : Same H5 (upd H5 t (.tup [.ref bh, .ref acc])) := Same.new nt
      exact k t bh acc (T2.set o (ml, cs)) _ upd_same (s6 _ _ (s5 _ _ e4)) ((hN4.same s5).same s6) hD4 (s6 _ _ hacc) (s04.free h0) n0 hb4 hO4 ((s04.trans s5).trans s6)

end
end Fi90

set_option Elab.async false
set_option linter.all false
set_option maxRecDepth 100000
set_option maxHeartbeats 4000000
namespace Fi90
open PySem L2 Lv
section
variable {P : Program} {w : World} {K : PySem.W.Frag} {mg : Str → Option Value} {base : Heap}
theorem scPlay : FnScope ["reels", "phases", "behind", "read", "at", "phase", "of_each"] ["reels", "phases"] (defScope sPlay) := ⟨rfl, rfl, rfl, by decide +kernel, rfl, by decide +kernel, by decide +kernel⟩
theorem pls_take : ∀ {D : List Rows} {ps : List (Int × Int)}, Pls D ps → ∀ i, Pls D (ps.take i)
  | D, ps, h, 0 => by rw [List.take_zero]; exact trivial
  | D, [], h, i + 1 => trivial
  | D, (a, b) :: ps, h, i + 1 => ⟨h.1, pls_take (D := phR D a.toNat b.toNat) h.2 i⟩
theorem map_ref_get {rs : List Addr} {i : Nat} {x : V} (h : (rs.map V.ref)[i]? = some x) : ∃ r, rs[i]? = some r ∧ x = .ref r := by
  rw [List.getElem?_map] at h
  cases e : rs[i]? with
  | none => rw [e] at h; cases h
  | some r => rw [e] at h; exact ⟨r, rfl, (Option.some.inj h).symm⟩
theorem ok_playR {f f1 f2 f3 : Addr} {fd d1 d2 d3 : FuncData} (F : Fun K "play_rows" "play_rows" sPlay f fd) (T : Txt mg) (Te : mg "enumerate" = none) (CY : Cal P w K mg base 1 "copied_row" ["row"] spCopyR f1 d1) (CF : Cal P w K mg base 3 "is_phase" ["counts", "phase"] spIsPhL f2 d2) (CP : Cal P w K mg base 3 "phase_played" ["reels", "phase"] spPhPlR f3 d3) : FnOk P w K mg base CX0 4 f fd ["reels", "phases"] spPlayR := by
  refine okW F scPlay (fun vs H Q E h => ?_) (fun cdv A outer s H vs Q E hr h => ?_)
  · obtain ⟨l, b, T0, rs, ps, rfl, _⟩ := h
    rfl
  · obtain ⟨l, b, T0, rs, ps, rfl, hl, hN, hb, hps, h1000, hne, hz, hpl, k⟩ := h
    have hr1 : Room 1 _ := hr.mono (by decide)
    have hr3 : Room 3 _ := hr.mono (by decide)
    refine ⟨_, (wss_cons (ws (ps_comp (i := 2) scPlay.nd rfl rfl (own := ["reel"]) (js := []) (CompOk.by (sc := defScope sPlay) (N := ["reels", "phases", "behind", "read", "at", "phase", "of_each"]) rfl rfl (by decide +kernel)) rfl (pi_seqB (pv 0)) gkeep_name (fun _ _ _ _ _ => (pg_name (i := 0) (by show (["reel"] : List Str).Nodup; decide +kernel) rfl (Or.inl rfl) (.inr rfl))) (fun _ _ _ _ _ => pts_nil) (fun _ _ _ _ _ => (pe_comp (own := ["row"]) (js := []) (CompOk.bare (by decide +kernel)) rfl (piK_seqB K (pv 0)) gkeep_name (fun _ _ _ _ _ => (pg_name (i := 0) (by show (["row"] : List Str).Nodup; decide +kernel) rfl (Or.inl rfl) (.inr rfl))) (fun _ _ _ _ _ => pts_nil) (fun _ _ _ _ _ => (pe_cal CY hr1 rfl (pa_cons (pv 0) pa_nil)))))))
      (wss_cons (ws (ps_set (i := 3) scPlay.nd rfl (Or.inl rfl) (pe_lst pa_nil)))
      (wss_cons (ws (ps_for PassesOwn.never rfl (pi_enumB rfl Te (pa_cons (pv 1) pa_nil)) (pg_tup rfl (pgs_cons (pg_name (i := 4) scPlay.nd rfl (Or.inl rfl)) (pgs_cons (pg_name (i := 5) scPlay.nd rfl (Or.inl rfl)) pgs_nil)))
      (WSs.out (wss_cons (ws_if (pt_not (pt_val (pe_cal CF hr3 rfl (pa_cons (pe_comp (own := ["reel"]) (js := []) (CompOk.by (sc := defScope sPlay) (N := ["reels", "phases", "behind", "read", "at", "phase", "of_each"]) rfl rfl (by decide +kernel)) rfl (pi_seqB (pv 2)) gkeep_name (fun _ _ _ _ _ => (pg_name (i := 0) (by show (["reel"] : List Str).Nodup; decide +kernel) rfl (Or.inl rfl) (.inr rfl))) (fun _ _ _ _ _ => pts_nil) (fun _ _ _ _ _ => (pe_callB (callK_len K) rfl T.len PySem.boot_len (pa_cons (pv 0) pa_nil)))) (pa_cons (pv 5) pa_nil)))))
        (wss pss_never)
        wss_nil)
        (wss_cons (ws (ps_asg (pe_cal CP hr3 rfl (pa_cons (pv 2) (pa_cons (pv 5) pa_nil))) (pg_tup rfl (pgs_cons (pg_name (i := 2) scPlay.nd rfl (Or.inl rfl)) (pgs_cons (pg_name (i := 6) scPlay.nd rfl (Or.inl rfl)) pgs_nil)))))
        (wss_one (ws (ps_expr (pe_bm PySem.F.plainAttrs_list PySem.F.slot_list_append PySem.F.type_list_append mt_append (pv 3) (pa_cons (pv 6) pa_nil))))))))))
      (wss_one (ws (ps_ret (pe_tup (pa_cons (pv 2) (pa_cons (pv 3) pa_nil))))))))), ?_⟩
    have hTl : T0.length = (datT T0).length := by unfold datT; rw [List.length_map]
    have hpsl : rs.length = ps.length := by have := hps.1; rwa [List.length_map] at this
    refine ⟨_, rfl, l, true, rfl, ⟨_, SqL.of hl⟩, ?_⟩
    refine comp_reels (b := true) (fun i => (datT T0).getD i []) (fun _ => False) (fun _ z => z.elim) (show SqB true K H l (refT T0) from SqL.of hl) (by rw [List.length_map]; have := hz.1; omega) (fun i x hx H1 s1 R hR => ?_) fun bh T1 H1 hbh0 hbh hN1 hD1 hnb hO1 s1 => ?_
    · obtain ⟨t, ht, rfl, htm, hd⟩ := dat_at hx
      have ok := (hN t htm).same s1
      have h15 := hz.2.1 _ (List.mem_of_getElem? hd)
      rw [List.length_map] at h15
      refine ⟨_, rfl, t.1, true, rfl, ⟨_, SqL.of ok.1⟩, ?_⟩
      refine comp_cells (b := true) (fun j => (t.2.map cD).getD j none) (fun _ => False) (fun _ z => z.elim) (show SqB true K H1 t.1 (t.2.map cV) from SqL.of ok.1) (by rw [List.length_map]; exact h15) (fun j x hx H2 s2 R2 hR2 => ?_) fun acc cs H2 hacc0 hacc hDc hna hOc s2 => ?_
      · rw [List.getElem?_map] at hx
        obtain ⟨c, hc, rfl⟩ : ∃ c, t.2[j]? = some c ∧ x = cV c := by
          cases e : t.2[j]? with
          | none => rw [e] at hx; cases hx
          | some c => rw [e] at hx; exact ⟨c, rfl, (Option.some.inj hx).symm⟩
        refine ⟨_, rfl, c, rfl, (ok.2 c (List.mem_of_getElem? hc)).same s2, fun c' H3 hc' okc hnc s3 => hR2 c' H3 okc ?_ (fun r hr => .inl (hnc r hr)) s3⟩
        rw [hc', List.getD_eq_getElem?_getD, List.getElem?_map, hc]
        rfl
      · refine hR (acc, cs) H2 hacc ?_ (fun r hr => ?_) s2
        · rw [hDc, List.length_map, List.getD_eq_getElem?_getD, hd, ← List.length_map (f := cD)]
          show _ = t.2.map cD
          have := range_map (t.2.map cD) none id
          simpa using this
        · rcases List.mem_cons.mp hr with y | y
          · have y' : r = acc := y
            rw [y']
            exact .inl hacc0
          · rcases hOc r y with u | u
            · exact .inl u
            · exact u.elim
    have hD1' : datT T1 = datT T0 := by
      rw [hD1, List.length_map, hTl]
      have := range_map (datT T0) [] id
      simpa using this
    have hOn : ∀ x ∈ adr T1, H x = none := fun x hx => by
      rcases hO1 x hx with u | u
      · exact u
      · exact u.elim
    refine ⟨Nat.zero_le _, fun rd nrd => ?_⟩
    have s2 : Same H1 (upd H1 rd (.lst [])) := Same.new nrd
    have e2 : upd H1 rd (.lst []) rd = some (.lst []) := upd_same
    have nb : rd ≠ bh := fun z => by rw [z, hbh] at nrd; cases nrd
    have nT : rd ∉ adr T1 := fun z => by
      obtain ⟨t, ht, htz⟩ := List.mem_flatMap.mp z
      exact (hN1 t ht).has rd htz nrd
    have n0 : H rd = none := s1.free nrd
    have hbh2 := s2 _ _ hbh
    have hN2 := hN1.same s2
    have s02 := s1.trans s2
    generalize upd H1 rd (.lst []) = H2 at s2 e2 hbh2 hN2 s02 ⊢
    refine ⟨_, rfl, b, true, rfl, ⟨_, SqL.of (s02 _ _ hb)⟩, ?_⟩
    refine for_enumB (b := true) (xs := rs.map V.ref) (fun i σ Hx => ∃ (bl : Addr) (T' : List Reel) (es : List Addr) (o4 o5 o6 : Option V), σ = [some (.ref l), some (.ref b), some (.ref bl), some (.ref rd), o4, o5, o6] ∧ Hx bl = some (.lst (refT T')) ∧ NRL Hx T' ∧ datT T' = plR (datT T0) (ps.take i) ∧ Hx rd = some (.lst (es.map V.ref)) ∧ LLs Hx es (rdR (datT T0) (ps.take i)) ∧ rd ∉ es ∧ rd ≠ bl ∧ rd ∉ adr T' ∧ (∀ x ∈ adr T', H x = none) ∧ Same H Hx ∧ es.length = i)
      ⟨bh, T1, [], none, none, none, rfl, hbh2, hN2, by rw [hD1']; rfl, e2, ⟨rfl, fun j r xs a _ => by simp at a⟩, by simp, nb, nT, hOn, s02, rfl⟩ (fun i σ Hx _ z => by obtain ⟨_, _, _, _, _, _, _, _, _, _, _, _, _, _, _, _, sz, _⟩ := z; exact SqL.of (sz _ _ hb)) ?_ ?_
    · rintro i x pq σ Hx hx ⟨bl, T', es, o4, o5, o6, rfl, hbl, hN', hD', hrd, hLe, hne', hnbl, hnT', hnew, sx, hel⟩ hpq
      obtain ⟨q, hq, rfl⟩ := map_ref_get hx
      have hi : i < rs.length := (List.getElem?_eq_some_iff.mp hq).1
      obtain ⟨o, m, hom⟩ : ∃ o m, ps[i]? = some (o, m) := ⟨_, _, List.getElem?_eq_getElem (by omega)⟩
      have hqt := sx _ _ (hps.2 i q (prT (o, m)) hq (by rw [List.getElem?_map, hom]; rfl))
      have hPh := hpl.at hom
      rw [← hD'] at hPh
      have etk : ps.take (i + 1) = ps.take i ++ [(o, m)] := by rw [List.take_add_one, hom]; rfl
      have hplt : Pls (datT T0) (ps.take i) := pls_take hpl i
      obtain ⟨zz, zl, _⟩ := plR_all hplt hz
      rw [← hD'] at zz zl
      have s3 : Same Hx (upd Hx pq (.tup [.int i, .ref q])) := Same.new hpq
      have e3 : upd Hx pq (.tup [.int i, .ref q]) pq = some (.tup [.int i, .ref q]) := upd_same
      generalize upd Hx pq (.tup [.int i, .ref q]) = H3 at s3 e3 ⊢
      refine ⟨pq, _, rfl, SqT.of e3, rfl, _, _, rfl, _, _, rfl, rfl, ?_⟩
      have hbl3 := s3 _ _ hbl
      have hN3 := hN'.same s3
      refine ⟨_, rfl, bl, true, rfl, ⟨_, SqL.of hbl3⟩, ?_⟩
      refine comp_mapB ((lns (datT T')).map V.int) (show SqB true K H3 bl (refT T') from SqL.of hbl3) (by simp [lns, datT]) (by rw [List.length_map]; have := zz.1; unfold datT at this; rw [List.length_map] at this; omega) (fun j x y hx hy H4 s4 R hR => ?_) fun cl H4 hcl0 s4 hcl => ?_
      · obtain ⟨t, ht, rfl, htm, hd⟩ := dat_at hx
        have ey : y = .int (((t.2.map cV).length : Nat) : Int) := by
          unfold lns at hy
          rw [List.map_map, List.getElem?_map, hd] at hy
          have := (Option.some.inj hy).symm
          rw [this]
          simp
        subst ey
        exact ⟨_, rfl, t.1, _, rfl, .inl (SqL.of (s4 _ _ (hN3 t htm).1)), hR H4 (Same.refl _)⟩
      obtain ⟨a0, b0, rfl, rfl, ha0, h00, hb1, hb0⟩ := phok_nat hPh
      have hq4 := s4 _ _ (s3 _ _ hqt)
      refine ⟨_, rfl, cl, q, lns (datT T'), _, _, rfl, hcl, hq4, ?_, fun x hx => by obtain ⟨r, _, rfl⟩ := List.mem_map.mp hx; omega, ?_⟩
      · intro z
        have h1 : (lns (datT T')).length = (datT T').length := by unfold lns; rw [List.length_map]
        rw [z] at h1
        have h2 : (datT T').length = 0 := h1.symm
        omega
      rw [decide_eq_true hPh]
      refine ⟨true, rfl, iteF ?_⟩
      have hT'l : T'.length = (datT T').length := by unfold datT; rw [List.length_map]
      have hb15 : b0 ≤ 15000 := by
        obtain ⟨r, hr, hl'⟩ := hb0
        have := zz.2.1 r hr
        omega
      refine ⟨_, rfl, _, rfl, bl, q, T', a0, b0, rfl, s4 _ _ hbl3, hN3.same s4, hq4, by omega, hb15, zz, fun t b2 e2' T2 H5 ht hb2 hN5 hD5 he he0 hb20 hb2T hO5 s5 => ?_⟩
      refine ⟨t, _, rfl, SqT.of ht, rfl, _, _, rfl, _, _, rfl, rfl, ?_⟩
      have sx4 := s3.trans s4
      have sx5 := sx4.trans s5
      have hrd5 := sx5 _ _ hrd
      have hrd4 := sx4 _ _ hrd
      refine ⟨_, rfl, .inl ⟨rfl, _, SqL.of hrd5⟩, _, rfl, rd, _, _, rfl, rfl, hrd5, small15 (by rw [List.length_map]; omega), ?_⟩
      have nr2 : rd ≠ b2 := fun z => by rw [z, hb20] at hrd4; cases hrd4
      have nrT : rd ∉ adr T2 := fun z => by
        rcases hO5 rd z with u | u
        · rw [u] at hrd4; cases hrd4
        · exact hnT' u
      have nre : rd ≠ e2' := fun z => by rw [z, he0] at hrd4; cases hrd4
      have eD : plR (datT T0) (ps.take (i + 1)) = phR (datT T') a0 b0 := by rw [etk, plR_snoc, ← hD', Int.toNat_natCast, Int.toNat_natCast]
      refine ⟨b2, T2, es ++ [e2'], _, _, _, rfl, ?_, hN5.off nrT, by rw [hD5, eD], by rw [upd_same]; simp, ?_, by simp [hne', nre], nr2, nrT, fun x hx => ?_, (sx.trans sx5).put n0, by simp [hel]⟩
      · rw [upd_ne nr2.symm]
        exact hb2
      · rw [etk, rdR_snoc, ← hD', Int.toNat_natCast]
        have hL5 : LLs H5 es (rdR (datT T0) (ps.take i)) := hLe.same sx5
        refine (hL5.lst hne').snoc ?_
        rw [upd_ne nre.symm]
        exact he
      · rcases hO5 x hx with u | u
        · exact (sx.trans sx4).free u
        · exact hnew x u
    · rintro σ Hx ⟨bl, T', es, o4, o5, o6, rfl, hbl, hN', hD', hrd, hLe, hne', hnbl, hnT', hnew, sx, hel⟩
      rw [List.length_map, hpsl, List.take_length] at hD' hLe
      refine ⟨_, rfl, _, rfl, (by show 2 ≤ sizeLine; decide), fun t nt => ?_⟩
      have s3 : Same Hx (upd Hx t (.tup [.ref bl, .ref rd])) := Same.new nt
      exact k t bl rd T' es _ upd_same (s3 _ _ hbl) (hN'.same s3) hD' (s3 _ _ hrd) (hLe.same s3) hnew (sx.trans s3)

end
end Fi90

set_option Elab.async false
set_option linter.all false
set_option maxRecDepth 100000
set_option maxHeartbeats 4000000
namespace Fi90
open PySem L2 Lv
section
variable {P : Program} {w : World} {K : PySem.W.Frag} {mg : Str → Option Value} {base : Heap}
/-! ### foldedC -/
theorem scFoldC : FnScope ["cells", "many", "found", "k", "cell"] ["cells", "many"] (defScope sFoldC) := ⟨rfl, rfl, rfl, by decide +kernel, rfl, by decide +kernel, by decide +kernel⟩
theorem ok_foldC {f : Addr} {fd : FuncData} (F : Fun K "_law_folded" "_law_folded" sFoldC f fd) (T : Txt mg) (Te : mg "enumerate" = none) : FnOk P w K mg base CX0 1 f fd ["cells", "many"] (spFold K) := by
  refine F.ok scFoldC (fun vs H Q E h => ?_) (fun cdv A outer s H vs Q E hr h => ?_)
  · obtain ⟨a, ns, m, rfl, _⟩ := h
    rfl
  · obtain ⟨a, ns, m, rfl, hS, hl, m1, m2, k⟩ := h
    refine ⟨_, pss_cons (ps_set (i := 2) scFoldC.nd rfl (Or.inl rfl) (pe_op op_rep (pe_lst (pa_cons pe_int pa_nil)) (pe_callB (call_min2 rfl) rfl T.min b_min (pa_cons (pv 1) (pa_cons (pe_callB (call_max2 rfl) rfl T.max b_max (pa_cons pe_int (pa_cons (pe_callB call_len_seq rfl T.len PySem.boot_len (pa_cons (pv 0) pa_nil)) pa_nil))) pa_nil)))))
      (pss_cons (ps_for PassesOwn.never rfl (pi_enumB rfl Te (pa_cons (pv 0) pa_nil)) (pg_tup rfl (pgs_cons (pg_name (i := 3) scFoldC.nd rfl (Or.inl rfl)) (pgs_cons (pg_name (i := 4) scFoldC.nd rfl (Or.inl rfl)) pgs_nil)))
        (pss_one (ps_asg (pe_op op_add (pe_op op_mul (pe_ix ix_list (pv 2) (pe_op op_mod (pv 3) (pe_callB call_len_seq rfl T.len PySem.boot_len (pa_cons (pv 2) pa_nil))) (fun _ _ => rfl)) pe_int) (pv 4)) (pg_sub (pv 2) (pe_op op_mod (pv 3) (pe_callB call_len_seq rfl T.len PySem.boot_len (pa_cons (pv 2) pa_nil))) set_list))))
      (pss_one (ps_ret (pv 2)))), ?_⟩
    refine ⟨(by show 1 ≤ sizeLine; decide), fun l1 e1 => ?_⟩
    refine ⟨_, rfl, _, rfl, a, _, rfl, .inl ((Same.new e1).seq hS), _, _, rfl, _, _, rfl, ?_⟩
    obtain ⟨n, en, n1, n2⟩ : ∃ n : Nat, (if (if ((ns.map V.int).length : Int) > 1 then ((ns.map V.int).length : Int) else 1) < (m : Int) then (if ((ns.map V.int).length : Int) > 1 then ((ns.map V.int).length : Int) else 1) else (m : Int)) = (n : Int) ∧ 1 ≤ n ∧ n ≤ 50 := by
      rw [List.length_map]
      refine ⟨(if (if (ns.length : Int) > 1 then (ns.length : Int) else 1) < (m : Int) then (if (ns.length : Int) > 1 then (ns.length : Int) else 1) else (m : Int)).toNat, ?_, ?_, ?_⟩
      · split <;> split <;> omega
      · split <;> split <;> omega
      · split <;> split <;> omega
    rw [en]
    refine ⟨l1, (n : Int), _, rfl, rfl, upd_same, by omega, by omega, ?_, fun l2 e2 => ?_⟩
    · exact Nat.le_of_lt (small1000 (by show 1 * ((n : Nat) : Int).toNat ≤ 1000; omega))
    have ez : (List.replicate ((n : Nat) : Int).toNat [V.int 0]).flatten = (List.replicate n (0 : Int)).map V.int := by
      rw [show ((n : Nat) : Int).toNat = n by omega, List.map_replicate]
      exact List.flatten_replicate_singleton
    rw [ez]
    have s2 := (Same.new (o := .lst [.int 0]) e1).trans (Same.new (o := .lst ((List.replicate n (0 : Int)).map V.int)) e2)
    have hl2 : (upd (upd H l1 (.lst [.int 0])) l2 (.lst ((List.replicate n (0 : Int)).map V.int))) l2 = some (.lst ((List.replicate n (0 : Int)).map V.int)) := upd_same
    have hl20 : H l2 = none := (Same.new (o := .lst [.int 0]) e1).free e2
    generalize (upd (upd H l1 (.lst [.int 0])) l2 (.lst ((List.replicate n (0 : Int)).map V.int))) = H2 at s2 hl2 ⊢
    refine ⟨_, rfl, a, true, rfl, ⟨_, s2.seq hS⟩, ?_⟩
    refine for_enumB (b := true) (xs := ns.map V.int) (fun i σ Hx => ∃ (fs : List Int) (o3 o4 : Option V), σ = [some (.ref a), some (.int m), some (.ref l2), o3, o4] ∧ fs.length = n ∧ Hx l2 = some (.lst (fs.map V.int)) ∧ Same H Hx)
      ⟨List.replicate n 0, none, none, rfl, by simp, hl2, s2⟩ (fun i σ Hx _ ⟨_, _, _, _, _, _, sx⟩ => sx.seq hS) ?_ ?_
    · rintro i x q σ Hx hx ⟨fs, o3, o4, rfl, hfl, hlx, sx⟩ hq
      obtain ⟨z, hz, rfl⟩ := map_get hx
      have s3 : Same Hx (upd Hx q (.tup [.int i, .int z])) := Same.new hq
      have hl3 := s3 l2 _ hlx
      have hq3 : (upd Hx q (.tup [.int i, .int z])) q = some (.tup [.int i, .int z]) := upd_same
      generalize (upd Hx q (.tup [.int i, .int z])) = H3 at s3 hl3 hq3 ⊢
      have m0 := Int.emod_nonneg (i : Int) (show ((n : Nat) : Int) ≠ 0 by omega)
      have m1 := Int.emod_lt_of_pos (i : Int) (show (0 : Int) < ((n : Nat) : Int) by omega)
      have elen : ((fs.map V.int).length : Int) = ((n : Nat) : Int) := by rw [List.length_map, hfl]
      refine ⟨q, _, rfl, SqT.of hq3, rfl, _, _, rfl, _, _, rfl, rfl, ?_⟩
      refine ⟨_, rfl, _, rfl, _, rfl, l2, _, rfl, .inl (SqL.of hl3), _, _, rfl, rfl, by rw [elen]; omega, l2, _, _, .int (fs.getD ((i : Int) % ((n : Nat) : Int)).toNat 0), rfl, rfl, SqL.of hl3, ?_, ?_⟩
      · rw [elen]
        exact atI_int m0 (by rw [hfl]; exact m1)
      refine ⟨_, 7, rfl, rfl, .inr ⟨by decide, by decide⟩, _, rfl, _, _, rfl, rfl, ?_⟩
      refine ⟨_, rfl, _, rfl, _, rfl, l2, _, rfl, .inl (SqL.of hl3), _, _, rfl, rfl, by rw [elen]; omega, l2, _, _, ((i : Int) % ((n : Nat) : Int)).toNat, rfl, rfl, hl3, ?_, ?_⟩
      · rw [elen, List.length_map, hfl]
        exact ixN_of m0 m1
      refine ⟨fs.set ((i : Int) % ((n : Nat) : Int)).toNat (fs.getD ((i : Int) % ((n : Nat) : Int)).toNat 0 * 7 + z), _, _, rfl, by simp [hfl], ?_, (sx.trans s3).put hl20⟩
      rw [upd_same, List.map_set]
    · rintro σ Hx ⟨fs, o3, o4, rfl, hfl, hlx, sx⟩
      exact ⟨_, rfl, k l2 fs Hx hl20 hlx (by omega) sx⟩
/-! ### begunC -/
theorem b_abs : bootBuiltins "abs" = some (.builtin "abs") := by decide +kernel
theorem scBegunC : FnScope ["cell", "rest"] ["cell"] (defScope sBegunC) := ⟨rfl, rfl, rfl, by decide +kernel, rfl, by decide +kernel, by decide +kernel⟩
theorem ok_begunC {f : Addr} {fd : FuncData} (F : Fun K "_law_begun" "_law_begun" sBegunC f fd) (T : Txt mg) (Ta : mg "abs" = none) : FnOk P w K mg base CX0 1 f fd ["cell"] spBegun := by
  refine F.ok scBegunC (fun vs H Q E h => ?_) (fun cdv A outer s H vs Q E hr h => ?_)
  · obtain ⟨z, rfl, _⟩ := h
    rfl
  · obtain ⟨z, rfl, k⟩ := h
    refine ⟨_, pss_cons (ps_set (i := 1) scBegunC.nd rfl (Or.inl rfl) pe_int)
      (pss_cons (ps_if (pt_cmpR op_ge (pe_callB call_abs rfl Ta b_abs (pa_cons (pv 0) pa_nil)) (pe_op op_pow pe_int pe_int) (nomark _)) (pss_one (ps_set (i := 1) scBegunC.nd rfl (Or.inl rfl) (pe_op op_add (pe_op op_sub (pe_callB call_abs rfl Ta b_abs (pa_cons (pv 0) pa_nil)) (pe_op op_pow pe_int pe_int)) pe_int))) pss_nil)
      (pss_one (ps_ret (pe_lst (pa_cons (pv 1) (pa_cons pe_int (pa_cons (pe_op op_mod (pv 0) pe_int) pa_nil))))))), ?_⟩
    refine cut2 (fun σ' H' => ∃ r : Int, σ' = [some (.int z), some (.int r)] ∧ H' = H) (fun R hR => ?_) ?_
    · refine ⟨_, rfl, z, rfl, 10, 18, rfl, rfl, ⟨by decide, by decide, by decide⟩, _, _, rfl, rfl, _, rfl, ?_⟩
      refine ite2 (fun hc => ?_) (fun hc => hR _ _ ⟨_, rfl, rfl⟩)
      exact ⟨_, rfl, z, rfl, 10, 18, rfl, rfl, ⟨by decide, by decide, by decide⟩, _, _, rfl, rfl, _, _, rfl, rfl, hR _ _ ⟨_, rfl, rfl⟩⟩
    · rintro σ' H' ⟨r, rfl, rfl⟩
      refine ⟨_, rfl, _, rfl, z, 2147483647, rfl, rfl, (by show (0 : Int) < 2147483647; decide), (by show 3 ≤ sizeLine; decide), fun l hl => ?_⟩
      exact k l _ hl ⟨_, _, _, upd_same, Int.le_refl _, Int.le_refl _, Int.emod_nonneg _ (by decide), Int.emod_lt_of_pos _ (by decide)⟩ (Same.new hl)
/-! ### takeC3 -/
theorem scTakeC : FnScope ["pot", "size", "digit", "mixed"] ["pot", "size"] (defScope sTakeC) := ⟨rfl, rfl, rfl, by decide +kernel, rfl, by decide +kernel, by decide +kernel⟩
theorem ok_takeC {f : Addr} {fd : FuncData} (F : Fun K "_law_take" "_law_take" sTakeC f fd) (T : Txt mg) : FnOk P w K mg base CX0 1 f fd ["pot", "size"] spTakeC := by
  refine F.ok scTakeC (fun vs H Q E h => ?_) (fun cdv A outer s H vs Q E hr h => ?_)
  · obtain ⟨p, m, c, rfl, _⟩ := h
    rfl
  · obtain ⟨p, m, c, rfl, ⟨a, b, g, hp, b0, b1, g0, g1⟩, hc, h0, h1, k⟩ := h
    refine ⟨_, pss_cons (ps_if (pt_cmpR op_gt (pe_ix ix_list (pv 0) pe_int (fun _ _ => rfl)) pe_int (nomark _))
        (pss_cons (ps_set (i := 2) scTakeC.nd rfl (Or.inl rfl) (pe_op op_mod (pe_ix ix_list (pv 0) pe_int (fun _ _ => rfl)) (pv 1)))
        (pss_cons (ps_asg (pe_op op_fdivB (pe_ix ix_list (pv 0) pe_int (fun _ _ => rfl)) (pv 1)) (pg_sub (pv 0) pe_int set_list))
        (pss_one (ps_ret (pv 2))))) pss_nil)
      (pss_cons (ps_asg (pe_op op_add (pe_ix ix_list (pv 0) pe_int (fun _ _ => rfl)) pe_int) (pg_sub (pv 0) pe_int set_list))
      (pss_cons (ps_set (i := 3) scTakeC.nd rfl (Or.inl rfl) (pe_op op_mod (pe_op op_add (pe_op op_add (pe_op op_add (pe_ix ix_list (pv 0) pe_int (fun _ _ => rfl)) (pe_op op_mul (pe_op op_mul pe_int (pe_ix ix_list (pv 0) pe_int (fun _ _ => rfl))) (pe_ix ix_list (pv 0) pe_int (fun _ _ => rfl)))) (pe_op op_mul pe_int (pe_ix ix_list (pv 0) pe_int (fun _ _ => rfl)))) pe_int) pe_int))
      (pss_cons (ps_set (i := 3) scTakeC.nd rfl (Or.inl rfl) (pe_op op_mod (pe_op op_mul (pe_op op_mod (pe_op op_mul (pv 3) (pv 3)) pe_int) pe_int) pe_int))
      (pss_one (ps_ret (pe_op op_mod (pe_op op_fdiv (pv 3) pe_int) (pv 1))))))), ?_⟩
    refine ⟨_, rfl, p, _, 0, .int a, rfl, rfl, SqL.of hp, rfl, _, _, rfl, rfl, _, rfl, ?_⟩
    refine ite2 (fun _ => ?_) (fun _ => ?_)
    · refine ⟨_, rfl, p, _, 0, .int a, rfl, rfl, SqL.of hp, rfl, _, rfl, a, m, rfl, rfl, h0, ?_⟩
      refine ⟨_, rfl, p, _, 0, .int a, rfl, rfl, SqL.of hp, rfl, _, rfl, a, m, rfl, rfl, ⟨h0, h1⟩, _, rfl, p, _, 0, 0, rfl, rfl, hp, rfl, _, rfl, ?_⟩
      exact k _ _ (Int.emod_nonneg _ (by omega)) (Int.emod_lt_of_pos _ h0) ⟨_, b, g, upd_same, b0, by omega, g0, g1⟩ Sm.put
    · refine ⟨_, rfl, p, _, 1, .int b, rfl, rfl, SqL.of hp, rfl, b, 1, rfl, rfl, _, rfl, p, _, 1, 1, rfl, rfl, hp, rfl, ?_⟩
      have hp1 : (upd H p (.lst ([V.int a, .int b, .int g].set 1 (.int (b + 1))))) p = some (.lst [.int a, .int (b + 1), .int g]) := by rw [upd_same]; rfl
      have sm1 : Sm p H (upd H p (.lst ([V.int a, .int b, .int g].set 1 (.int (b + 1))))) := Sm.put
      generalize (upd H p (.lst ([V.int a, .int b, .int g].set 1 (.int (b + 1))))) = H1 at hp1 sm1 ⊢
      refine ⟨_, rfl, p, _, 2, .int g, rfl, rfl, SqL.of hp1, rfl, ?_⟩
      refine ⟨_, rfl, p, _, 1, .int (b + 1), rfl, rfl, SqL.of hp1, rfl, 977, _, rfl, rfl, .inl ⟨by decide, by decide⟩, ?_⟩
      refine ⟨_, rfl, p, _, 1, .int (b + 1), rfl, rfl, SqL.of hp1, rfl, _, _, rfl, rfl, .inr ⟨by omega, by omega⟩, _, _, rfl, rfl, ?_⟩
      refine ⟨_, rfl, p, _, 1, .int (b + 1), rfl, rfl, SqL.of hp1, rfl, 40693, _, rfl, rfl, .inl ⟨by decide, by decide⟩, _, _, rfl, rfl, _, 1, rfl, rfl, _, 2147483647, rfl, rfl, (by show (0 : Int) < 2147483647; decide), ?_⟩
      dsimp only
      have x0 := Int.emod_nonneg (g + 977 * (b + 1) * (b + 1) + 40693 * (b + 1) + 1) (show (2147483647 : Int) ≠ 0 by decide)
      have x1 := Int.emod_lt_of_pos (g + 977 * (b + 1) * (b + 1) + 40693 * (b + 1) + 1) (show (0 : Int) < 2147483647 by decide)
      generalize (g + 977 * (b + 1) * (b + 1) + 40693 * (b + 1) + 1) % 2147483647 = x at x0 x1 ⊢
      refine ⟨_, rfl, _, rfl, x, x, rfl, rfl, .inl ⟨by omega, by omega⟩, _, 1000000007, rfl, rfl, (by show (0 : Int) < 1000000007; decide), _, 48271, rfl, rfl, .inr ⟨by decide, by decide⟩, _, 998244353, rfl, rfl, (by show (0 : Int) < 998244353; decide), ?_⟩
      refine ⟨_, rfl, _, 8, rfl, rfl, ⟨by decide, by decide⟩, _, rfl, _, m, rfl, rfl, h0, ?_⟩
      exact k _ _ (Int.emod_nonneg _ (by omega)) (Int.emod_lt_of_pos _ h0) ⟨_, _, _, hp1, by omega, by omega, g0, g1⟩ sm1
end
end Fi90

set_option Elab.async false
set_option linter.all false
set_option maxRecDepth 100000
set_option maxHeartbeats 4000000
namespace Fi90
open PySem L2 Lv

theorem len1 {P : List Value → Prop} (us : List Value) (hl : us.length = 1) (h : ∀ a0 : Value, P [a0]) : P us := by
  match us, hl with
  | [a0], _ => exact h a0
theorem len2 {P : List Value → Prop} (us : List Value) (hl : us.length = 2) (h : ∀ a0 a1 : Value, P [a0, a1]) : P us := by
  match us, hl with
  | [a0, a1], _ => exact h a0 a1
theorem len3 {P : List Value → Prop} (us : List Value) (hl : us.length = 3) (h : ∀ a0 a1 a2 : Value, P [a0, a1, a2]) : P us := by
  match us, hl with
  | [a0, a1, a2], _ => exact h a0 a1 a2
theorem len4 {P : List Value → Prop} (us : List Value) (hl : us.length = 4) (h : ∀ a0 a1 a2 a3 : Value, P [a0, a1, a2, a3]) : P us := by
  match us, hl with
  | [a0, a1, a2, a3], _ => exact h a0 a1 a2 a3
theorem all_mk {l : PySem.W.OpenLaw} {w : World} {K : PySem.W.Frag} {h : Heap} {mg : Str → Option Value} {fa f0 f1 f2 f3 f4 f5 f6 f7 f8 f9 f10 f11 f12 f13 f14 f15 f16 f17 f18 f19 f20 f21 f22 f23 f24 f25 f26 f27 f28 f29 f30 f31 f32 f33 f34 f35 f36 f37 f38 : Addr} {tk0 tk1 tk2 : Tok} (X : K.In h) (G : h.Ns mainGlobals mg) (hfa : mg "law" = some (.ref fa))
    {od0 an0 od1 an1 od2 an2 od3 an3 od4 an4 od5 an5 od6 an6 od7 an7 od8 an8 od9 an9 od10 an10 od11 an11 od12 an12 od13 an13 od14 an14 od15 an15 od16 an16 od17 an17 od18 an18 od19 an19 od20 an20 od21 an21 od22 an22 od23 an23 od24 an24 od25 an25 od26 an26 od27 an27 od28 an28 od29 an29 od30 an30 od31 an31 od32 an32 od33 an33 od34 an34 od35 an35 od36 an36 od37 an37 od38 an38 : Option Addr} {sl0 sl1 sl2 sl3 sl4 sl5 sl6 sl7 sl8 sl9 sl10 sl11 sl12 sl13 sl14 sl15 sl16 sl17 sl18 sl19 sl20 sl21 sl22 sl23 sl24 sl25 sl26 sl27 sl28 sl29 sl30 sl31 sl32 sl33 sl34 sl35 sl36 sl37 sl38 : Array (Option Value)} {oc0 kV0 dc0 pm0 cd0 ct0 oc1 kV1 dc1 pm1 cd1 ct1 oc2 kV2 dc2 pm2 cd2 ct2 oc3 kV3 dc3 pm3 cd3 ct3 oc4 kV4 dc4 pm4 cd4 ct4 oc5 kV5 dc5 pm5 cd5 ct5 oc6 kV6 dc6 pm6 cd6 ct6 oc7 kV7 dc7 pm7 cd7 ct7 oc8 kV8 dc8 pm8 cd8 ct8 oc9 kV9 dc9 pm9 cd9 ct9 oc10 kV10 dc10 pm10 cd10 ct10 oc11 kV11 dc11 pm11 cd11 ct11 oc12 kV12 dc12 pm12 cd12 ct12 oc13 kV13 dc13 pm13 cd13 ct13 oc14 kV14 dc14 pm14 cd14 ct14 oc15 kV15 dc15 pm15 cd15 ct15 oc16 kV16 dc16 pm16 cd16 ct16 oc17 kV17 dc17 pm17 cd17 ct17 oc18 kV18 dc18 pm18 cd18 ct18 oc19 kV19 dc19 pm19 cd19 ct19 oc20 kV20 dc20 pm20 cd20 ct20 oc21 kV21 dc21 pm21 cd21 ct21 oc22 kV22 dc22 pm22 cd22 ct22 oc23 kV23 dc23 pm23 cd23 ct23 oc24 kV24 dc24 pm24 cd24 ct24 oc25 kV25 dc25 pm25 cd25 ct25 oc26 kV26 dc26 pm26 cd26 ct26 oc27 kV27 dc27 pm27 cd27 ct27 oc28 kV28 dc28 pm28 cd28 ct28 oc29 kV29 dc29 pm29 cd29 ct29 oc30 kV30 dc30 pm30 cd30 ct30 oc31 kV31 dc31 pm31 cd31 ct31 oc32 kV32 dc32 pm32 cd32 ct32 oc33 kV33 dc33 pm33 cd33 ct33 oc34 kV34 dc34 pm34 cd34 ct34 oc35 kV35 dc35 pm35 cd35 ct35 oc36 kV36 dc36 pm36 cd36 ct36 oc37 kV37 dc37 pm37 cd37 ct37 oc38 kV38 dc38 pm38 cd38 ct38 : Value}
    {da5 : Addr} {doc5 : Value} {dod5 : Option Addr} {dn5 : Nat} {dsl5 : Array (Option Value)} {dt5_0 : Tok}
    (a0 : PySem.W.nsIn K mainGlobals "is_whole" = some (some (.ref f0))) (l0 : K.lookup f0 = some ⟨oc0, od0, .func (PySem.W.fnOf "is_whole" "is_whole" (defArgs sWhole) (defBody sWhole) (defScope sWhole) .none kV0 dc0 pm0 an0 cd0 ct0), sl0⟩) (c0 : PySem.W.codeIn K cd0 "is_whole" = true) (k0 : PySem.W.keepIn K (.ref f0) = true)
    (a1 : PySem.W.nsIn K mainGlobals "is_place" = some (some (.ref f1))) (l1 : K.lookup f1 = some ⟨oc1, od1, .func (PySem.W.fnOf "is_place" "is_place" (defArgs sPlace) (defBody sPlace) (defScope sPlace) .none kV1 dc1 pm1 an1 cd1 ct1), sl1⟩) (c1 : PySem.W.codeIn K cd1 "is_place" = true) (k1 : PySem.W.keepIn K (.ref f1) = true)
    (a2 : PySem.W.nsIn K mainGlobals "is_listed" = some (some (.ref f2))) (l2 : K.lookup f2 = some ⟨oc2, od2, .func (PySem.W.fnOf "is_listed" "is_listed" (defArgs sListed) (defBody sListed) (defScope sListed) .none kV2 dc2 pm2 an2 cd2 ct2), sl2⟩) (c2 : PySem.W.codeIn K cd2 "is_listed" = true) (k2 : PySem.W.keepIn K (.ref f2) = true)
    (a3 : PySem.W.nsIn K mainGlobals "is_tuple_of" = some (some (.ref f3))) (l3 : K.lookup f3 = some ⟨oc3, od3, .func (PySem.W.fnOf "is_tuple_of" "is_tuple_of" (defArgs sTupOf) (defBody sTupOf) (defScope sTupOf) .none kV3 dc3 pm3 an3 cd3 ct3), sl3⟩) (c3 : PySem.W.codeIn K cd3 "is_tuple_of" = true) (k3 : PySem.W.keepIn K (.ref f3) = true)
    (a4 : PySem.W.nsIn K mainGlobals "check_ways" = some (some (.ref f4))) (l4 : K.lookup f4 = some ⟨oc4, od4, .func (PySem.W.fnOf "check_ways" "check_ways" (defArgs sWays) (defBody sWays) (defScope sWays) .none kV4 dc4 pm4 an4 cd4 ct4), sl4⟩) (c4 : PySem.W.codeIn K cd4 "check_ways" = true) (k4 : PySem.W.keepIn K (.ref f4) = true)
    (a5 : PySem.W.nsIn K mainGlobals "check_level" = some (some (.ref f5))) (l5 : K.lookup f5 = some ⟨oc5, od5, .func (PySem.W.fnOf "check_level" "check_level" (defArgs sLevel) (defBody sLevel) (defScope sLevel) (.ref da5) kV5 dc5 pm5 an5 cd5 ct5), sl5⟩) (c5 : PySem.W.codeIn K cd5 "check_level" = true) (k5 : PySem.W.keepIn K (.ref f5) = true)
    (d5 : K.lookup da5 = some ⟨doc5, dod5, .seq #[.int 300 dt5_0] dn5, dsl5⟩)
    (a6 : PySem.W.nsIn K mainGlobals "first_counts" = some (some (.ref f6))) (l6 : K.lookup f6 = some ⟨oc6, od6, .func (PySem.W.fnOf "first_counts" "first_counts" (defArgs sFirst) (defBody sFirst) (defScope sFirst) .none kV6 dc6 pm6 an6 cd6 ct6), sl6⟩) (c6 : PySem.W.codeIn K cd6 "first_counts" = true) (k6 : PySem.W.keepIn K (.ref f6) = true)
    (a7 : PySem.W.nsIn K mainGlobals "next_counts" = some (some (.ref f7))) (l7 : K.lookup f7 = some ⟨oc7, od7, .func (PySem.W.fnOf "next_counts" "next_counts" (defArgs sNext) (defBody sNext) (defScope sNext) .none kV7 dc7 pm7 an7 cd7 ct7), sl7⟩) (c7 : PySem.W.codeIn K cd7 "next_counts" = true) (k7 : PySem.W.keepIn K (.ref f7) = true)
    (a8 : PySem.W.nsIn K mainGlobals "level_counts" = some (some (.ref f8))) (l8 : K.lookup f8 = some ⟨oc8, od8, .func (PySem.W.fnOf "level_counts" "level_counts" (defArgs sCounts) (defBody sCounts) (defScope sCounts) .none kV8 dc8 pm8 an8 cd8 ct8), sl8⟩) (c8 : PySem.W.codeIn K cd8 "level_counts" = true) (k8 : PySem.W.keepIn K (.ref f8) = true)
    (a9 : PySem.W.nsIn K mainGlobals "is_standing" = some (some (.ref f9))) (l9 : K.lookup f9 = some ⟨oc9, od9, .func (PySem.W.fnOf "is_standing" "is_standing" (defArgs sIsSt) (defBody sIsSt) (defScope sIsSt) .none kV9 dc9 pm9 an9 cd9 ct9), sl9⟩) (c9 : PySem.W.codeIn K cd9 "is_standing" = true) (k9 : PySem.W.keepIn K (.ref f9) = true)
    (a10 : PySem.W.nsIn K mainGlobals "check_standing" = some (some (.ref f10))) (l10 : K.lookup f10 = some ⟨oc10, od10, .func (PySem.W.fnOf "check_standing" "check_standing" (defArgs sChkSt) (defBody sChkSt) (defScope sChkSt) .none kV10 dc10 pm10 an10 cd10 ct10), sl10⟩) (c10 : PySem.W.codeIn K cd10 "check_standing" = true) (k10 : PySem.W.keepIn K (.ref f10) = true)
    (a11 : PySem.W.nsIn K mainGlobals "is_phase" = some (some (.ref f11))) (l11 : K.lookup f11 = some ⟨oc11, od11, .func (PySem.W.fnOf "is_phase" "is_phase" (defArgs sIsPh) (defBody sIsPh) (defScope sIsPh) .none kV11 dc11 pm11 an11 cd11 ct11), sl11⟩) (c11 : PySem.W.codeIn K cd11 "is_phase" = true) (k11 : PySem.W.keepIn K (.ref f11) = true)
    (a12 : PySem.W.nsIn K mainGlobals "counts_behind" = some (some (.ref f12))) (l12 : K.lookup f12 = some ⟨oc12, od12, .func (PySem.W.fnOf "counts_behind" "counts_behind" (defArgs sBeh) (defBody sBeh) (defScope sBeh) .none kV12 dc12 pm12 an12 cd12 ct12), sl12⟩) (c12 : PySem.W.codeIn K cd12 "counts_behind" = true) (k12 : PySem.W.keepIn K (.ref f12) = true)
    (a13 : PySem.W.nsIn K mainGlobals "phase_done" = some (some (.ref f13))) (l13 : K.lookup f13 = some ⟨oc13, od13, .func (PySem.W.fnOf "phase_done" "phase_done" (defArgs sPhDone) (defBody sPhDone) (defScope sPhDone) .none kV13 dc13 pm13 an13 cd13 ct13), sl13⟩) (c13 : PySem.W.codeIn K cd13 "phase_done" = true) (k13 : PySem.W.keepIn K (.ref f13) = true)
    (a14 : PySem.W.nsIn K mainGlobals "plan_done" = some (some (.ref f14))) (l14 : K.lookup f14 = some ⟨oc14, od14, .func (PySem.W.fnOf "plan_done" "plan_done" (defArgs sPlDone) (defBody sPlDone) (defScope sPlDone) .none kV14 dc14 pm14 an14 cd14 ct14), sl14⟩) (c14 : PySem.W.codeIn K cd14 "plan_done" = true) (k14 : PySem.W.keepIn K (.ref f14) = true)
    (a15 : PySem.W.nsIn K mainGlobals "merged_row" = some (some (.ref f15))) (l15 : K.lookup f15 = some ⟨oc15, od15, .func (PySem.W.fnOf "merged_row" "merged_row" (defArgs sMerged) (defBody sMerged) (defScope sMerged) .none kV15 dc15 pm15 an15 cd15 ct15), sl15⟩) (c15 : PySem.W.codeIn K cd15 "merged_row" = true) (k15 : PySem.W.keepIn K (.ref f15) = true)
    (a16 : PySem.W.nsIn K mainGlobals "copied_row" = some (some (.ref f16))) (l16 : K.lookup f16 = some ⟨oc16, od16, .func (PySem.W.fnOf "copied_row" "copied_row" (defArgs sCopy) (defBody sCopy) (defScope sCopy) .none kV16 dc16 pm16 an16 cd16 ct16), sl16⟩) (c16 : PySem.W.codeIn K cd16 "copied_row" = true) (k16 : PySem.W.keepIn K (.ref f16) = true)
    (a17 : PySem.W.nsIn K mainGlobals "things_in" = some (some (.ref f17))) (l17 : K.lookup f17 = some ⟨oc17, od17, .func (PySem.W.fnOf "things_in" "things_in" (defArgs sThin) (defBody sThin) (defScope sThin) .none kV17 dc17 pm17 an17 cd17 ct17), sl17⟩) (c17 : PySem.W.codeIn K cd17 "things_in" = true) (k17 : PySem.W.keepIn K (.ref f17) = true)
    (a18 : PySem.W.nsIn K mainGlobals "merged_or_idle" = some (some (.ref f18))) (l18 : K.lookup f18 = some ⟨oc18, od18, .func (PySem.W.fnOf "merged_or_idle" "merged_or_idle" (defArgs sIdle) (defBody sIdle) (defScope sIdle) .none kV18 dc18 pm18 an18 cd18 ct18), sl18⟩) (c18 : PySem.W.codeIn K cd18 "merged_or_idle" = true) (k18 : PySem.W.keepIn K (.ref f18) = true)
    (a19 : PySem.W.nsIn K mainGlobals "taken_at" = some (some (.ref f19))) (l19 : K.lookup f19 = some ⟨oc19, od19, .func (PySem.W.fnOf "taken_at" "taken_at" (defArgs sTkAt) (defBody sTkAt) (defScope sTkAt) .none kV19 dc19 pm19 an19 cd19 ct19), sl19⟩) (c19 : PySem.W.codeIn K cd19 "taken_at" = true) (k19 : PySem.W.keepIn K (.ref f19) = true)
    (a20 : PySem.W.nsIn K mainGlobals "phase_played" = some (some (.ref f20))) (l20 : K.lookup f20 = some ⟨oc20, od20, .func (PySem.W.fnOf "phase_played" "phase_played" (defArgs sPhPl) (defBody sPhPl) (defScope sPhPl) .none kV20 dc20 pm20 an20 cd20 ct20), sl20⟩) (c20 : PySem.W.codeIn K cd20 "phase_played" = true) (k20 : PySem.W.keepIn K (.ref f20) = true)
    (a21 : PySem.W.nsIn K mainGlobals "play_rows" = some (some (.ref f21))) (l21 : K.lookup f21 = some ⟨oc21, od21, .func (PySem.W.fnOf "play_rows" "play_rows" (defArgs sPlay) (defBody sPlay) (defScope sPlay) .none kV21 dc21 pm21 an21 cd21 ct21), sl21⟩) (c21 : PySem.W.codeIn K cd21 "play_rows" = true) (k21 : PySem.W.keepIn K (.ref f21) = true)
    (a22 : PySem.W.nsIn K mainGlobals "ranked" = some (some (.ref f22))) (l22 : K.lookup f22 = some ⟨oc22, od22, .func (PySem.W.fnOf "ranked" "ranked" (defArgs sRk) (defBody sRk) (defScope sRk) .none kV22 dc22 pm22 an22 cd22 ct22), sl22⟩) (c22 : PySem.W.codeIn K cd22 "ranked" = true) (k22 : PySem.W.keepIn K (.ref f22) = true)
    (a23 : PySem.W.nsIn K mainGlobals "covers" = some (some (.ref f23))) (l23 : K.lookup f23 = some ⟨oc23, od23, .func (PySem.W.fnOf "covers" "covers" (defArgs sCovers) (defBody sCovers) (defScope sCovers) .none kV23 dc23 pm23 an23 cd23 ct23), sl23⟩) (c23 : PySem.W.codeIn K cd23 "covers" = true) (k23 : PySem.W.keepIn K (.ref f23) = true)
    (a24 : PySem.W.nsIn K mainGlobals "levels_to" = some (some (.ref f24))) (l24 : K.lookup f24 = some ⟨oc24, od24, .func (PySem.W.fnOf "levels_to" "levels_to" (defArgs sLvTo) (defBody sLvTo) (defScope sLvTo) .none kV24 dc24 pm24 an24 cd24 ct24), sl24⟩) (c24 : PySem.W.codeIn K cd24 "levels_to" = true) (k24 : PySem.W.keepIn K (.ref f24) = true)
    (a25 : PySem.W.nsIn K mainGlobals "plan_by" = some (some (.ref f25))) (l25 : K.lookup f25 = some ⟨oc25, od25, .func (PySem.W.fnOf "plan_by" "plan_by" (defArgs sPlan) (defBody sPlan) (defScope sPlan) .none kV25 dc25 pm25 an25 cd25 ct25), sl25⟩) (c25 : PySem.W.codeIn K cd25 "plan_by" = true) (k25 : PySem.W.keepIn K (.ref f25) = true)
    (a26 : PySem.W.nsIn K mainGlobals "is_bar" = some (some (.ref f26))) (l26 : K.lookup f26 = some ⟨oc26, od26, .func (PySem.W.fnOf "is_bar" "is_bar" (defArgs sIsBar) (defBody sIsBar) (defScope sIsBar) .none kV26 dc26 pm26 an26 cd26 ct26), sl26⟩) (c26 : PySem.W.codeIn K cd26 "is_bar" = true) (k26 : PySem.W.keepIn K (.ref f26) = true)
    (a27 : PySem.W.nsIn K mainGlobals "first_bar" = some (some (.ref f27))) (l27 : K.lookup f27 = some ⟨oc27, od27, .func (PySem.W.fnOf "first_bar" "first_bar" (defArgs sBar) (defBody sBar) (defScope sBar) .none kV27 dc27 pm27 an27 cd27 ct27), sl27⟩) (c27 : PySem.W.codeIn K cd27 "first_bar" = true) (k27 : PySem.W.keepIn K (.ref f27) = true)
    (a28 : PySem.W.nsIn K mainGlobals "fewest_phases" = some (some (.ref f28))) (l28 : K.lookup f28 = some ⟨oc28, od28, .func (PySem.W.fnOf "fewest_phases" "fewest_phases" (defArgs sFew) (defBody sFew) (defScope sFew) .none kV28 dc28 pm28 an28 cd28 ct28), sl28⟩) (c28 : PySem.W.codeIn K cd28 "fewest_phases" = true) (k28 : PySem.W.keepIn K (.ref f28) = true)
    (a29 : PySem.W.nsIn K mainGlobals "is_plan" = some (some (.ref f29))) (l29 : K.lookup f29 = some ⟨oc29, od29, .func (PySem.W.fnOf "is_plan" "is_plan" (defArgs sIsPl) (defBody sIsPl) (defScope sIsPl) .none kV29 dc29 pm29 an29 cd29 ct29), sl29⟩) (c29 : PySem.W.codeIn K cd29 "is_plan" = true) (k29 : PySem.W.keepIn K (.ref f29) = true)
    (a30 : PySem.W.nsIn K mainGlobals "phases_right" = some (some (.ref f30))) (l30 : K.lookup f30 = some ⟨oc30, od30, .func (PySem.W.fnOf "phases_right" "phases_right" (defArgs sPhR) (defBody sPhR) (defScope sPhR) .none kV30 dc30 pm30 an30 cd30 ct30), sl30⟩) (c30 : PySem.W.codeIn K cd30 "phases_right" = true) (k30 : PySem.W.keepIn K (.ref f30) = true)
    (a31 : PySem.W.nsIn K mainGlobals "_law_folded" = some (some (.ref f31))) (l31 : K.lookup f31 = some ⟨oc31, od31, .func (PySem.W.fnOf "_law_folded" "_law_folded" (defArgs sFoldC) (defBody sFoldC) (defScope sFoldC) .none kV31 dc31 pm31 an31 cd31 ct31), sl31⟩) (c31 : PySem.W.codeIn K cd31 "_law_folded" = true) (k31 : PySem.W.keepIn K (.ref f31) = true)
    (a32 : PySem.W.nsIn K mainGlobals "_law_begun" = some (some (.ref f32))) (l32 : K.lookup f32 = some ⟨oc32, od32, .func (PySem.W.fnOf "_law_begun" "_law_begun" (defArgs sBegunC) (defBody sBegunC) (defScope sBegunC) .none kV32 dc32 pm32 an32 cd32 ct32), sl32⟩) (c32 : PySem.W.codeIn K cd32 "_law_begun" = true) (k32 : PySem.W.keepIn K (.ref f32) = true)
    (a33 : PySem.W.nsIn K mainGlobals "_law_take" = some (some (.ref f33))) (l33 : K.lookup f33 = some ⟨oc33, od33, .func (PySem.W.fnOf "_law_take" "_law_take" (defArgs sTakeC) (defBody sTakeC) (defScope sTakeC) .none kV33 dc33 pm33 an33 cd33 ct33), sl33⟩) (c33 : PySem.W.codeIn K cd33 "_law_take" = true) (k33 : PySem.W.keepIn K (.ref f33) = true)
    (a34 : PySem.W.nsIn K mainGlobals "_law_counts" = some (some (.ref f34))) (l34 : K.lookup f34 = some ⟨oc34, od34, .func (PySem.W.fnOf "_law_counts" "_law_counts" (defArgs sLCo90) (defBody sLCo90) (defScope sLCo90) .none kV34 dc34 pm34 an34 cd34 ct34), sl34⟩) (c34 : PySem.W.codeIn K cd34 "_law_counts" = true) (k34 : PySem.W.keepIn K (.ref f34) = true)
    (a35 : PySem.W.nsIn K mainGlobals "_law_lot" = some (some (.ref f35))) (l35 : K.lookup f35 = some ⟨oc35, od35, .func (PySem.W.fnOf "_law_lot" "_law_lot" (defArgs sLot) (defBody sLot) (defScope sLot) .none kV35 dc35 pm35 an35 cd35 ct35), sl35⟩) (c35 : PySem.W.codeIn K cd35 "_law_lot" = true) (k35 : PySem.W.keepIn K (.ref f35) = true)
    (a36 : PySem.W.nsIn K mainGlobals "_law_walked" = some (some (.ref f36))) (l36 : K.lookup f36 = some ⟨oc36, od36, .func (PySem.W.fnOf "_law_walked" "_law_walked" (defArgs sWalk) (defBody sWalk) (defScope sWalk) .none kV36 dc36 pm36 an36 cd36 ct36), sl36⟩) (c36 : PySem.W.codeIn K cd36 "_law_walked" = true) (k36 : PySem.W.keepIn K (.ref f36) = true)
    (a37 : PySem.W.nsIn K mainGlobals "_law_barred" = some (some (.ref f37))) (l37 : K.lookup f37 = some ⟨oc37, od37, .func (PySem.W.fnOf "_law_barred" "_law_barred" (defArgs sBarr) (defBody sBarr) (defScope sBarr) .none kV37 dc37 pm37 an37 cd37 ct37), sl37⟩) (c37 : PySem.W.codeIn K cd37 "_law_barred" = true) (k37 : PySem.W.keepIn K (.ref f37) = true)
    (a38 : PySem.W.nsIn K mainGlobals "law" = some (some (.ref f38))) (l38 : K.lookup f38 = some ⟨oc38, od38, .func (PySem.W.fnOf "law" "law" (defArgs sLaw) (defBody sLaw) (defScope sLaw) .none kV38 dc38 pm38 an38 cd38 ct38), sl38⟩) (c38 : PySem.W.codeIn K cd38 "law" = true) (k38 : PySem.W.keepIn K (.ref f38) = true)
    (y0 : PySem.W.nsIn K mainGlobals "LEAST_WAYS" = some (some (.int 2 tk0)))
    (y1 : PySem.W.nsIn K mainGlobals "MOST_WAYS" = some (some (.int 7 tk1)))
    (y2 : PySem.W.nsIn K mainGlobals "MOST_ROWS" = some (some (.int 1000000000000000000000000000000000000000000000000000000000000 tk2)))
    (z0 : PySem.W.nsIn K mainGlobals "isinstance" = some none) (z1 : PySem.W.nsIn K mainGlobals "int" = some none) (z2 : PySem.W.nsIn K mainGlobals "bool" = some none) (z3 : PySem.W.nsIn K mainGlobals "list" = some none) (z4 : PySem.W.nsIn K mainGlobals "tuple" = some none) (z5 : PySem.W.nsIn K mainGlobals "min" = some none) (z6 : PySem.W.nsIn K mainGlobals "max" = some none) (z7 : PySem.W.nsIn K mainGlobals "len" = some none) (z8 : PySem.W.nsIn K mainGlobals "range" = some none) (z9 : PySem.W.nsIn K mainGlobals "all" = some none) (z10 : PySem.W.nsIn K mainGlobals "sum" = some none) (z11 : PySem.W.nsIn K mainGlobals "sorted" = some none) (z12 : PySem.W.nsIn K mainGlobals "zip" = some none) (zenumerate : PySem.W.nsIn K mainGlobals "enumerate" = some none) (zreversed : PySem.W.nsIn K mainGlobals "reversed" = some none) (zany : PySem.W.nsIn K mainGlobals "any" = some none) (zabs : PySem.W.nsIn K mainGlobals "abs" = some none) :
    ∃ fd : FuncData, (∀ (s : Shared) (v : Value), BindsTo s fd ⟨[v], []⟩ [("script", v)]) ∧ ∀ base : Heap, K.In base → base.Ns mainGlobals mg → FnOk l.prog w K mg base CX0 7 fa fd ["script"] (spLaw K) := by
  have e := hfa.symm.trans (PySem.W.mg_of X G a38)
  cases e
  have T : Txt mg := ⟨PySem.W.mg_none_of X G z0, PySem.W.mg_none_of X G z1, PySem.W.mg_none_of X G z2, PySem.W.mg_none_of X G z3, PySem.W.mg_none_of X G z4, PySem.W.mg_none_of X G z5, PySem.W.mg_none_of X G z6, PySem.W.mg_none_of X G z7, PySem.W.mg_none_of X G z8, PySem.W.mg_none_of X G z9, PySem.W.mg_none_of X G z10, PySem.W.mg_none_of X G z11, PySem.W.mg_none_of X G z12⟩
  have F0 := fun_mk (st := sWhole) l0 c0 k0
  have b0 := F0.binds (ps := ["thing"]) fun _ _ _ _ _ _ us hl => @len1 (fun us => bindArgs _ ⟨us, []⟩ = pure (List.zip _ us)) us hl fun _ => rfl
  have F1 := fun_mk (st := sPlace) l1 c1 k1
  have b1 := F1.binds (ps := ["thing", "many"]) fun _ _ _ _ _ _ us hl => @len2 (fun us => bindArgs _ ⟨us, []⟩ = pure (List.zip _ us)) us hl fun _ _ => rfl
  have F2 := fun_mk (st := sListed) l2 c2 k2
  have b2 := F2.binds (ps := ["thing"]) fun _ _ _ _ _ _ us hl => @len1 (fun us => bindArgs _ ⟨us, []⟩ = pure (List.zip _ us)) us hl fun _ => rfl
  have F3 := fun_mk (st := sTupOf) l3 c3 k3
  have b3 := F3.binds (ps := ["thing", "many"]) fun _ _ _ _ _ _ us hl => @len2 (fun us => bindArgs _ ⟨us, []⟩ = pure (List.zip _ us)) us hl fun _ _ => rfl
  have F4 := fun_mk (st := sWays) l4 c4 k4
  have b4 := F4.binds (ps := ["p"]) fun _ _ _ _ _ _ us hl => @len1 (fun us => bindArgs _ ⟨us, []⟩ = pure (List.zip _ us)) us hl fun _ => rfl
  have F5 := funD_mk (st := sLevel) l5 c5 k5
  have b5 := F5.binds (ps := ["n", "last"]) d5 rfl [.int 300 dt5_0] ["n"] rfl fun _ _ _ _ _ _ us hl => match us, hl with | [_], _ => ⟨_, rfl, rfl⟩
  have F6 := fun_mk (st := sFirst) l6 c6 k6
  have b6 := F6.binds (ps := ["p"]) fun _ _ _ _ _ _ us hl => @len1 (fun us => bindArgs _ ⟨us, []⟩ = pure (List.zip _ us)) us hl fun _ => rfl
  have F7 := fun_mk (st := sNext) l7 c7 k7
  have b7 := F7.binds (ps := ["counts"]) fun _ _ _ _ _ _ us hl => @len1 (fun us => bindArgs _ ⟨us, []⟩ = pure (List.zip _ us)) us hl fun _ => rfl
  have F8 := fun_mk (st := sCounts) l8 c8 k8
  have b8 := F8.binds (ps := ["p", "n"]) fun _ _ _ _ _ _ us hl => @len2 (fun us => bindArgs _ ⟨us, []⟩ = pure (List.zip _ us)) us hl fun _ _ => rfl
  have F9 := fun_mk (st := sIsSt) l9 c9 k9
  have b9 := F9.binds (ps := ["thing"]) fun _ _ _ _ _ _ us hl => @len1 (fun us => bindArgs _ ⟨us, []⟩ = pure (List.zip _ us)) us hl fun _ => rfl
  have F10 := fun_mk (st := sChkSt) l10 c10 k10
  have b10 := F10.binds (ps := ["standing"]) fun _ _ _ _ _ _ us hl => @len1 (fun us => bindArgs _ ⟨us, []⟩ = pure (List.zip _ us)) us hl fun _ => rfl
  have F11 := fun_mk (st := sIsPh) l11 c11 k11
  have b11 := F11.binds (ps := ["counts", "phase"]) fun _ _ _ _ _ _ us hl => @len2 (fun us => bindArgs _ ⟨us, []⟩ = pure (List.zip _ us)) us hl fun _ _ => rfl
  have F12 := fun_mk (st := sBeh) l12 c12 k12
  have b12 := F12.binds (ps := ["counts", "phase"]) fun _ _ _ _ _ _ us hl => @len2 (fun us => bindArgs _ ⟨us, []⟩ = pure (List.zip _ us)) us hl fun _ _ => rfl
  have F13 := fun_mk (st := sPhDone) l13 c13 k13
  have b13 := F13.binds (ps := ["standing", "phase"]) fun _ _ _ _ _ _ us hl => @len2 (fun us => bindArgs _ ⟨us, []⟩ = pure (List.zip _ us)) us hl fun _ _ => rfl
  have F14 := fun_mk (st := sPlDone) l14 c14 k14
  have b14 := F14.binds (ps := ["standing", "plan"]) fun _ _ _ _ _ _ us hl => @len2 (fun us => bindArgs _ ⟨us, []⟩ = pure (List.zip _ us)) us hl fun _ _ => rfl
  have F15 := fun_mk (st := sMerged) l15 c15 k15
  have b15 := F15.binds (ps := ["rows"]) fun _ _ _ _ _ _ us hl => @len1 (fun us => bindArgs _ ⟨us, []⟩ = pure (List.zip _ us)) us hl fun _ => rfl
  have F16 := fun_mk (st := sCopy) l16 c16 k16
  have b16 := F16.binds (ps := ["row"]) fun _ _ _ _ _ _ us hl => @len1 (fun us => bindArgs _ ⟨us, []⟩ = pure (List.zip _ us)) us hl fun _ => rfl
  have F17 := fun_mk (st := sThin) l17 c17 k17
  have b17 := F17.binds (ps := ["rows"]) fun _ _ _ _ _ _ us hl => @len1 (fun us => bindArgs _ ⟨us, []⟩ = pure (List.zip _ us)) us hl fun _ => rfl
  have F18 := fun_mk (st := sIdle) l18 c18 k18
  have b18 := F18.binds (ps := ["rows"]) fun _ _ _ _ _ _ us hl => @len1 (fun us => bindArgs _ ⟨us, []⟩ = pure (List.zip _ us)) us hl fun _ => rfl
  have F19 := fun_mk (st := sTkAt) l19 c19 k19
  have b19 := F19.binds (ps := ["taken", "at"]) fun _ _ _ _ _ _ us hl => @len2 (fun us => bindArgs _ ⟨us, []⟩ = pure (List.zip _ us)) us hl fun _ _ => rfl
  have F20 := fun_mk (st := sPhPl) l20 c20 k20
  have b20 := F20.binds (ps := ["reels", "phase"]) fun _ _ _ _ _ _ us hl => @len2 (fun us => bindArgs _ ⟨us, []⟩ = pure (List.zip _ us)) us hl fun _ _ => rfl
  have F21 := fun_mk (st := sPlay) l21 c21 k21
  have b21 := F21.binds (ps := ["reels", "phases"]) fun _ _ _ _ _ _ us hl => @len2 (fun us => bindArgs _ ⟨us, []⟩ = pure (List.zip _ us)) us hl fun _ _ => rfl
  have F22 := fun_mk (st := sRk) l22 c22 k22
  have b22 := F22.binds (ps := ["standing"]) fun _ _ _ _ _ _ us hl => @len1 (fun us => bindArgs _ ⟨us, []⟩ = pure (List.zip _ us)) us hl fun _ => rfl
  have F23 := fun_mk (st := sCovers) l23 c23 k23
  have b23 := F23.binds (ps := ["level", "counts"]) fun _ _ _ _ _ _ us hl => @len2 (fun us => bindArgs _ ⟨us, []⟩ = pure (List.zip _ us)) us hl fun _ _ => rfl
  have F24 := fun_mk (st := sLvTo) l24 c24 k24
  have b24 := F24.binds (ps := ["standing"]) fun _ _ _ _ _ _ us hl => @len1 (fun us => bindArgs _ ⟨us, []⟩ = pure (List.zip _ us)) us hl fun _ => rfl
  have F25 := fun_mk (st := sPlan) l25 c25 k25
  have b25 := F25.binds (ps := ["levels", "standing"]) fun _ _ _ _ _ _ us hl => @len2 (fun us => bindArgs _ ⟨us, []⟩ = pure (List.zip _ us)) us hl fun _ _ => rfl
  have F26 := fun_mk (st := sIsBar) l26 c26 k26
  have b26 := F26.binds (ps := ["level", "standing", "bar"]) fun _ _ _ _ _ _ us hl => @len3 (fun us => bindArgs _ ⟨us, []⟩ = pure (List.zip _ us)) us hl fun _ _ _ => rfl
  have F27 := fun_mk (st := sBar) l27 c27 k27
  have b27 := F27.binds (ps := ["level", "standing"]) fun _ _ _ _ _ _ us hl => @len2 (fun us => bindArgs _ ⟨us, []⟩ = pure (List.zip _ us)) us hl fun _ _ => rfl
  have F28 := fun_mk (st := sFew) l28 c28 k28
  have b28 := F28.binds (ps := ["standing"]) fun _ _ _ _ _ _ us hl => @len1 (fun us => bindArgs _ ⟨us, []⟩ = pure (List.zip _ us)) us hl fun _ => rfl
  have F29 := fun_mk (st := sIsPl) l29 c29 k29
  have b29 := F29.binds (ps := ["standing", "plan"]) fun _ _ _ _ _ _ us hl => @len2 (fun us => bindArgs _ ⟨us, []⟩ = pure (List.zip _ us)) us hl fun _ _ => rfl
  have F30 := fun_mk (st := sPhR) l30 c30 k30
  have b30 := F30.binds (ps := ["standing", "told"]) fun _ _ _ _ _ _ us hl => @len2 (fun us => bindArgs _ ⟨us, []⟩ = pure (List.zip _ us)) us hl fun _ _ => rfl
  have F31 := fun_mk (st := sFoldC) l31 c31 k31
  have b31 := F31.binds (ps := ["cells", "many"]) fun _ _ _ _ _ _ us hl => @len2 (fun us => bindArgs _ ⟨us, []⟩ = pure (List.zip _ us)) us hl fun _ _ => rfl
  have F32 := fun_mk (st := sBegunC) l32 c32 k32
  have b32 := F32.binds (ps := ["cell"]) fun _ _ _ _ _ _ us hl => @len1 (fun us => bindArgs _ ⟨us, []⟩ = pure (List.zip _ us)) us hl fun _ => rfl
  have F33 := fun_mk (st := sTakeC) l33 c33 k33
  have b33 := F33.binds (ps := ["pot", "size"]) fun _ _ _ _ _ _ us hl => @len2 (fun us => bindArgs _ ⟨us, []⟩ = pure (List.zip _ us)) us hl fun _ _ => rfl
  have F34 := fun_mk (st := sLCo90) l34 c34 k34
  have b34 := F34.binds (ps := ["pot", "p"]) fun _ _ _ _ _ _ us hl => @len2 (fun us => bindArgs _ ⟨us, []⟩ = pure (List.zip _ us)) us hl fun _ _ => rfl
  have F35 := fun_mk (st := sLot) l35 c35 k35
  have b35 := F35.binds (ps := ["pot"]) fun _ _ _ _ _ _ us hl => @len1 (fun us => bindArgs _ ⟨us, []⟩ = pure (List.zip _ us)) us hl fun _ => rfl
  have F36 := fun_mk (st := sWalk) l36 c36 k36
  have b36 := F36.binds (ps := ["reels", "plan"]) fun _ _ _ _ _ _ us hl => @len2 (fun us => bindArgs _ ⟨us, []⟩ = pure (List.zip _ us)) us hl fun _ _ => rfl
  have F37 := fun_mk (st := sBarr) l37 c37 k37
  have b37 := F37.binds (ps := ["p", "counts", "n", "bar"]) fun _ _ _ _ _ _ us hl => @len4 (fun us => bindArgs _ ⟨us, []⟩ = pure (List.zip _ us)) us hl fun _ _ _ _ => rfl
  have F38 := fun_mk (st := sLaw) l38 c38 k38
  refine ⟨PySem.W.fnOf "law" "law" (defArgs sLaw) (defBody sLaw) (defScope sLaw) .none kV38 dc38 pm38 an38 cd38 ct38, fun s v => .of_eq rfl, fun base _ _ => ?_⟩
  have m := fun {x : Str} {v : Value} (a : PySem.W.nsIn K mainGlobals x = some (some v)) => PySem.W.mg_of X G a
  have mLEAST_WAYS := m y0
  have mMOST_WAYS := m y1
  have mMOST_ROWS := m y2
  have Cis_whole : Cal l.prog w K mg base 1 "is_whole" ["thing"] spWhole _ _ := ⟨ok_whole F0 T, m a0, k0, b0⟩
  have Cis_place : Cal l.prog w K mg base 2 "is_place" ["thing", "many"] spPlaceP _ _ := ⟨ok_place F1 T Cis_whole, m a1, k1, b1⟩
  have CplaceB : Cal l.prog w K mg base 2 "is_place" ["thing", "many"] spPlaceB _ _ := ⟨ok_placeB F1 T Cis_whole, m a1, k1, b1⟩
  have Cis_listed : Cal l.prog w K mg base 1 "is_listed" ["thing"] spListed _ _ := ⟨ok_listed F2 T, m a2, k2, b2⟩
  have Cis_tuple_of : Cal l.prog w K mg base 1 "is_tuple_of" ["thing", "many"] spTupOf _ _ := ⟨ok_tupof F3 T, m a3, k3, b3⟩
  have Ccheck_ways : Cal l.prog w K mg base 2 "check_ways" ["p"] spWays _ _ := ⟨ok_ways F4 T mLEAST_WAYS mMOST_WAYS Cis_whole, m a4, k4, b4⟩
  have Ccheck_level : CalD l.prog w K mg base 2 "check_level" ["n", "last"] [.int 300] spLevelD _ _ := ⟨ok_level F5 T Cis_whole, m a5, k5, ⟨_, b5, .cons ⟨_, rfl⟩ (.nil)⟩⟩
  have Cfirst_counts : Cal l.prog w K mg base 1 "first_counts" ["p"] spFirst _ _ := ⟨ok_first F6 T, m a6, k6, b6⟩
  have Cnext_counts : Cal l.prog w K mg base 1 "next_counts" ["counts"] (spNext K) _ _ := ⟨ok_next F7 T, m a7, k7, b7⟩
  have Clevel_counts : Cal l.prog w K mg base 3 "level_counts" ["p", "n"] spCounts _ _ := ⟨ok_counts F8 T Ccheck_ways Ccheck_level Cfirst_counts Cnext_counts, m a8, k8, b8⟩
  have Cis_standing : Cal l.prog w K mg base 2 "is_standing" ["thing"] (spIsSt K) _ _ := ⟨ok_isst F9 T mLEAST_WAYS mMOST_WAYS mMOST_ROWS Cis_whole, m a9, k9, b9⟩
  have Ccheck_standing : Cal l.prog w K mg base 3 "check_standing" ["standing"] (spChkSt K) _ _ := ⟨ok_chkst F10 T Cis_standing, m a10, k10, b10⟩
  have Cis_phase : Cal l.prog w K mg base 3 "is_phase" ["counts", "phase"] spIsPh _ _ := ⟨ok_isph F11 T Cis_whole Cis_place Cis_tuple_of, m a11, k11, b11⟩
  have CisphL : Cal l.prog w K mg base 3 "is_phase" ["counts", "phase"] spIsPhL _ _ := ⟨ok_isphL F11 T Cis_whole CplaceB Cis_tuple_of, m a11, k11, b11⟩
  have Ccounts_behind : Cal l.prog w K mg base 1 "counts_behind" ["counts", "phase"] spBeh _ _ := ⟨ok_beh F12 T, m a12, k12, b12⟩
  have Cphase_done : Cal l.prog w K mg base 4 "phase_done" ["standing", "phase"] spPhDone _ _ := ⟨ok_phdone F13 T Ccheck_standing Cis_phase Ccounts_behind, m a13, k13, b13⟩
  have Cplan_done : Cal l.prog w K mg base 4 "plan_done" ["standing", "plan"] spPlDoneW _ _ := ⟨ok_pldoneW F14 T (PySem.W.mg_none_of X G zenumerate) Ccheck_standing Cis_phase Ccounts_behind, m a14, k14, b14⟩
  have Cpld : Cal l.prog w K mg base 4 "plan_done" ["standing", "plan"] spPlDone _ _ := ⟨(ok_pldoneW F14 T (PySem.W.mg_none_of X G zenumerate) Ccheck_standing Cis_phase Ccounts_behind).imp fun _ _ _ _ h => W_pldone h, m a14, k14, b14⟩
  have Cmerged_row : Cal l.prog w K mg base 1 "merged_row" ["rows"] spMergeB _ _ := ⟨ok_mergeB F15 T, m a15, k15, b15⟩
  have Ccopied_row : Cal l.prog w K mg base 1 "copied_row" ["row"] spCopyR _ _ := ⟨ok_copyR F16 T, m a16, k16, b16⟩
  have Cthings_in : Cal l.prog w K mg base 1 "things_in" ["rows"] spThinR _ _ := ⟨ok_thinR F17 T, m a17, k17, b17⟩
  have Cmerged_or_idle : Cal l.prog w K mg base 2 "merged_or_idle" ["rows"] spIdleR _ _ := ⟨ok_idleR F18 T Cmerged_row, m a18, k18, b18⟩
  have Ctaken_at : Cal l.prog w K mg base 1 "taken_at" ["taken", "at"] spTkAtR _ _ := ⟨ok_tkAtR F19 T, m a19, k19, b19⟩
  have Cphase_played : Cal l.prog w K mg base 3 "phase_played" ["reels", "phase"] spPhPlR _ _ := ⟨ok_phPlR F20 T Cmerged_or_idle Ctaken_at Cthings_in, m a20, k20, b20⟩
  have Cplay_rows : Cal l.prog w K mg base 5 "play_rows" ["reels", "phases"] spPlayR _ _ := ⟨(ok_playR F21 T (PySem.W.mg_none_of X G zenumerate) Ccopied_row CisphL Cphase_played).mono (by decide), m a21, k21, b21⟩
  have Cranked : Cal l.prog w K mg base 1 "ranked" ["standing"] spRk _ _ := ⟨ok_rk F22 T, m a22, k22, b22⟩
  have Ccovers : Cal l.prog w K mg base 1 "covers" ["level", "counts"] spCovers _ _ := ⟨ok_covers F23 T, m a23, k23, b23⟩
  have Clevels_to : Cal l.prog w K mg base 2 "levels_to" ["standing"] spLvTo _ _ := ⟨ok_lvto F24 T Cfirst_counts Cnext_counts Cranked Ccovers, m a24, k24, b24⟩
  have Cplan_by : Cal l.prog w K mg base 2 "plan_by" ["levels", "standing"] spPlan _ _ := ⟨ok_plan F25 T (PySem.W.mg_none_of X G zreversed) Ccounts_behind, m a25, k25, b25⟩
  have Cis_bar : Cal l.prog w K mg base 3 "is_bar" ["level", "standing", "bar"] spIsBar _ _ := ⟨ok_isbar F26 T Cis_place Cranked, m a26, k26, b26⟩
  have Cfirst_bar : Cal l.prog w K mg base 4 "first_bar" ["level", "standing"] spBar _ _ := ⟨ok_bar F27 T Cis_bar, m a27, k27, b27⟩
  have Cfewest_phases : Cal l.prog w K mg base 5 "fewest_phases" ["standing"] spFew _ _ := ⟨ok_few F28 T Ccheck_standing Clevels_to Cfirst_bar Cplan_by, m a28, k28, b28⟩
  have Cis_plan : Cal l.prog w K mg base 5 "is_plan" ["standing", "plan"] spIsPl _ _ := ⟨ok_ispl F29 T Cpld, m a29, k29, b29⟩
  have Cphases_right : Cal l.prog w K mg base 6 "phases_right" ["standing", "told"] spPhR _ _ := ⟨ok_phr F30 T Ccheck_standing Cis_tuple_of Clevels_to Cis_whole Cis_listed Cis_plan Cis_bar, m a30, k30, b30⟩
  have C_law_folded : Cal l.prog w K mg base 1 "_law_folded" ["cells", "many"] (spFold K) _ _ := ⟨ok_foldC F31 T (PySem.W.mg_none_of X G zenumerate), m a31, k31, b31⟩
  have C_law_begun : Cal l.prog w K mg base 1 "_law_begun" ["cell"] spBegun _ _ := ⟨ok_begunC F32 T (PySem.W.mg_none_of X G zabs), m a32, k32, b32⟩
  have C_law_take : Cal l.prog w K mg base 1 "_law_take" ["pot", "size"] spTakeC _ _ := ⟨ok_takeC F33 T, m a33, k33, b33⟩
  have C_law_counts : Cal l.prog w K mg base 4 "_law_counts" ["pot", "p"] spLCo90 _ _ := ⟨ok_lco90 F34 T C_law_take Clevel_counts, m a34, k34, b34⟩
  have C_law_lot : Cal l.prog w K mg base 2 "_law_lot" ["pot"] spLot _ _ := ⟨ok_lot F35 T C_law_take, m a35, k35, b35⟩
  have C_law_walked : Cal l.prog w K mg base 6 "_law_walked" ["reels", "plan"] spWalk _ _ := ⟨ok_walk F36 T Cphase_done Cplay_rows Cplan_done, m a36, k36, b36⟩
  have C_law_barred : Cal l.prog w K mg base 4 "_law_barred" ["p", "counts", "n", "bar"] spBarr _ _ := ⟨ok_barr F37 T (PySem.W.mg_none_of X G zany) Clevel_counts, m a37, k37, b37⟩
  exact ok_law90 F38 T C_law_folded C_law_begun C_law_take C_law_counts C_law_lot Cfewest_phases Cphases_right Cplay_rows C_law_walked C_law_barred
theorem walk {l : PySem.W.OpenLaw} {q : Program} {loose : List Str} {XP : (Str → Option Value) → Heap → Prop} {YP : World → Heap → Prop} {d : DefRec} {K : Params → PySem.W.Frag} (hn : l.most = some 63) (hdf : d.params.defaults = [])
    (hY : ∀ (w : World) (h : Heap), YP w h → (K w.params).In h)
    (F : ∀ (w : World) (mg : Str → Option Value) (fa : Addr) (h : Heap), (K w.params).In h → h.Ns mainGlobals mg → mg d.name = some (.ref fa) →
      ∃ fd : FuncData, (∀ (s : Shared) (u : Value), BindsTo s fd ⟨[u], []⟩ [("script", u)]) ∧ ∀ base : Heap, (K w.params).In base → base.Ns mainGlobals mg → FnOk l.prog w (K w.params) mg base CX0 7 fa fd ["script"] (spLaw (K w.params))) :
    PySem.W.WalkO q loose XP YP l.row.toRowW d [] (fun f vs => PySem.call f vs) :=
  L2.walk_of (n := 63) (k := 7) (x := "script") (CX := fun _ => CX0) (sp := fun w => spLaw (K w.params)) hn (by decide) hdf ⟨rfl, by decide, by decide, rfl⟩ hY F (fun _ _ a ns hl _ hS => ⟨a, ns, rfl, hS, hl, fun _ => rfl⟩) fun _ _ _ _ _ z => z
end Fi90
def PySem.W.Fast.tw14104502637877869519 : Unit := ()
def PySem.W.Fast.tw13306369688374183702 : Unit := ()
def PySem.W.Fast.tw8601449091353350410 : Unit := ()
def PySem.W.Fast.tw7121467037625470644 : Unit := ()
def PySem.W.Fast.tw11236766037692935611 : Unit := ()
def PySem.W.Fast.tw1392094711197647914 : Unit := ()
def PySem.W.Fast.tw8539392868060705949 : Unit := ()
def PySem.W.Fast.tw8096563920731965578 : Unit := ()
def PySem.W.Fast.tw1146060662598340782 : Unit := ()
def PySem.W.Fast.tw2999379701525963947 : Unit := ()
def PySem.W.Fast.tw13797044014323557562 : Unit := ()
def PySem.W.Fast.tw11949454151029241558 : Unit := ()
def PySem.W.Fast.tw3553660427842390908 : Unit := ()
def PySem.W.Fast.tw16902073857779595447 : Unit := ()
def PySem.W.Fast.tw4396946946765219627 : Unit := ()
def PySem.W.Fast.tw16883663303378198227 : Unit := ()
def PySem.W.Fast.tw880578317081814430 : Unit := ()
def PySem.W.Fast.tw15970589815498680054 : Unit := ()
def PySem.W.Fast.tw4626831150288436875 : Unit := ()
def PySem.W.Fast.tw5096482551014791155 : Unit := ()
def PySem.W.Fast.tw5217195434751458744 : Unit := ()
def PySem.W.Fast.tw4861188719963805066 : Unit := ()
def PySem.W.Fast.tw10978106514752674747 : Unit := ()
def PySem.W.Fast.tw6695067695056722733 : Unit := ()
def PySem.W.Fast.tw3261077171827680217 : Unit := ()
def PySem.W.Fast.tw7778988729821477168 : Unit := ()
def PySem.W.Fast.tw4480966568023023068 : Unit := ()
def PySem.W.Fast.tw16716370779951357446 : Unit := ()
def PySem.W.Fast.tw6892887025403477411 : Unit := ()
def PySem.W.Fast.tw11990766540080913934 : Unit := ()
def PySem.W.Fast.tw4929948633911502058 : Unit := ()
def PySem.W.Fast.tw9226057286645941918 : Unit := ()
def PySem.W.Fast.tw3142200618871476669 : Unit := ()
def PySem.W.Fast.tw12352936077843181298 : Unit := ()
def PySem.W.Fast.tw12133113731781968009 : Unit := ()
def PySem.W.Fast.tw16231035543048928532 : Unit := ()
def PySem.W.Fast.tw2454866518781500838 : Unit := ()
def PySem.W.Fast.tw3645996488416914177 : Unit := ()
def PySem.W.Fast.tw725658904873264534 : Unit := ()
def PySem.W.Fast.tw16488365029847596857 : Unit := ()
def PySem.W.Fast.tw16060221304394673019 : Unit := ()
def PySem.W.Fast.tw14558835737288633535 : Unit := ()
def PySem.W.Fast.tw975336871892596854 : Unit := ()
def PySem.W.Fast.tw4252994715463558181 : Unit := ()
def PySem.W.Fast.tw14423812567345383852 : Unit := ()
open PySem PySem.W PyProof.Rows
set_option maxRecDepth 100000 in
set_option maxHeartbeats 0 in
theorem PySem.Challenge.cw_fewreels_k90_whole_plans_played_holds : PySem.Challenge.rw_fewreels_k90_whole_plans_played.Holds := by
  w_on; o_law; k_head; (case hw => w_witness2)
  k_fill
  refine Fi90.walk (l := PySem.Challenge.rw_fewreels_k90_whole_plans_played) rfl rfl (fun w h Y => PySem.W.kIn_of Y) ?F
  case F =>
    intro w mg fa h KX G hmg
    refine' Fi90.all_mk KX G hmg ?a0 ?l0 ?c0 ?k0 ?a1 ?l1 ?c1 ?k1 ?a2 ?l2 ?c2 ?k2 ?a3 ?l3 ?c3 ?k3 ?a4 ?l4 ?c4 ?k4 ?a5 ?l5 ?c5 ?k5 ?d5 ?a6 ?l6 ?c6 ?k6 ?a7 ?l7 ?c7 ?k7 ?a8 ?l8 ?c8 ?k8 ?a9 ?l9 ?c9 ?k9 ?a10 ?l10 ?c10 ?k10 ?a11 ?l11 ?c11 ?k11 ?a12 ?l12 ?c12 ?k12 ?a13 ?l13 ?c13 ?k13 ?a14 ?l14 ?c14 ?k14 ?a15 ?l15 ?c15 ?k15 ?a16 ?l16 ?c16 ?k16 ?a17 ?l17 ?c17 ?k17 ?a18 ?l18 ?c18 ?k18 ?a19 ?l19 ?c19 ?k19 ?a20 ?l20 ?c20 ?k20 ?a21 ?l21 ?c21 ?k21 ?a22 ?l22 ?c22 ?k22 ?a23 ?l23 ?c23 ?k23 ?a24 ?l24 ?c24 ?k24 ?a25 ?l25 ?c25 ?k25 ?a26 ?l26 ?c26 ?k26 ?a27 ?l27 ?c27 ?k27 ?a28 ?l28 ?c28 ?k28 ?a29 ?l29 ?c29 ?k29 ?a30 ?l30 ?c30 ?k30 ?a31 ?l31 ?c31 ?k31 ?a32 ?l32 ?c32 ?k32 ?a33 ?l33 ?c33 ?k33 ?a34 ?l34 ?c34 ?k34 ?a35 ?l35 ?c35 ?k35 ?a36 ?l36 ?c36 ?k36 ?a37 ?l37 ?c37 ?k37 ?a38 ?l38 ?c38 ?k38 ?y0 ?y1 ?y2 ?z0 ?z1 ?z2 ?z3 ?z4 ?z5 ?z6 ?z7 ?z8 ?z9 ?z10 ?z11 ?z12 ?zenumerate ?zreversed ?zany ?zabs
    (case a0 => k_is); (case l0 => k_is); (case c0 => k_is); (case k0 => k_is); (case a1 => k_is); (case l1 => k_is)
    (case c1 => k_is); (case k1 => k_is); (case a2 => k_is); (case l2 => k_is); (case c2 => k_is); (case k2 => k_is)
    (case a3 => k_is); (case l3 => k_is); (case c3 => k_is); (case k3 => k_is); (case a4 => k_is); (case l4 => k_is)
    (case c4 => k_is); (case k4 => k_is); (case a5 => k_is); (case l5 => k_is); (case c5 => k_is); (case k5 => k_is)
    (case d5 => k_is); (case a6 => k_is); (case l6 => k_is); (case c6 => k_is); (case k6 => k_is); (case a7 => k_is)
    (case l7 => k_is); (case c7 => k_is); (case k7 => k_is); (case a8 => k_is); (case l8 => k_is); (case c8 => k_is)
    (case k8 => k_is); (case a9 => k_is); (case l9 => k_is); (case c9 => k_is); (case k9 => k_is); (case a10 => k_is)
    (case l10 => k_is); (case c10 => k_is); (case k10 => k_is); (case a11 => k_is); (case l11 => k_is); (case c11 => k_is)
    (case k11 => k_is); (case a12 => k_is); (case l12 => k_is); (case c12 => k_is); (case k12 => k_is); (case a13 => k_is)
    (case l13 => k_is); (case c13 => k_is); (case k13 => k_is); (case a14 => k_is); (case l14 => k_is); (case c14 => k_is)
    (case k14 => k_is); (case a15 => k_is); (case l15 => k_is); (case c15 => k_is); (case k15 => k_is); (case a16 => k_is)
    (case l16 => k_is); (case c16 => k_is); (case k16 => k_is); (case a17 => k_is); (case l17 => k_is); (case c17 => k_is)
    (case k17 => k_is); (case a18 => k_is); (case l18 => k_is); (case c18 => k_is); (case k18 => k_is); (case a19 => k_is)
    (case l19 => k_is); (case c19 => k_is); (case k19 => k_is); (case a20 => k_is); (case l20 => k_is); (case c20 => k_is)
    (case k20 => k_is); (case a21 => k_is); (case l21 => k_is); (case c21 => k_is); (case k21 => k_is); (case a22 => k_is)
    (case l22 => k_is); (case c22 => k_is); (case k22 => k_is); (case a23 => k_is); (case l23 => k_is); (case c23 => k_is)
    (case k23 => k_is); (case a24 => k_is); (case l24 => k_is); (case c24 => k_is); (case k24 => k_is); (case a25 => k_is)
    (case l25 => k_is); (case c25 => k_is); (case k25 => k_is); (case a26 => k_is); (case l26 => k_is); (case c26 => k_is)
    (case k26 => k_is); (case a27 => k_is); (case l27 => k_is); (case c27 => k_is); (case k27 => k_is); (case a28 => k_is)
    (case l28 => k_is); (case c28 => k_is); (case k28 => k_is); (case a29 => k_is); (case l29 => k_is); (case c29 => k_is)
    (case k29 => k_is); (case a30 => k_is); (case l30 => k_is); (case c30 => k_is); (case k30 => k_is); (case a31 => k_is)
    (case l31 => k_is); (case c31 => k_is); (case k31 => k_is); (case a32 => k_is); (case l32 => k_is); (case c32 => k_is)
    (case k32 => k_is); (case a33 => k_is); (case l33 => k_is); (case c33 => k_is); (case k33 => k_is); (case a34 => k_is)
    (case l34 => k_is); (case c34 => k_is); (case k34 => k_is); (case a35 => k_is); (case l35 => k_is); (case c35 => k_is)
    (case k35 => k_is); (case a36 => k_is); (case l36 => k_is); (case c36 => k_is); (case k36 => k_is); (case a37 => k_is)
    (case l37 => k_is); (case c37 => k_is); (case k37 => k_is); (case a38 => k_is); (case l38 => k_is); (case c38 => k_is)
    (case k38 => k_is); (case y0 => k_is); (case y1 => k_is); (case y2 => k_is); (case z0 => k_is); (case z1 => k_is)
    (case z2 => k_is); (case z3 => k_is); (case z4 => k_is); (case z5 => k_is); (case z6 => k_is); (case z7 => k_is)
    (case z8 => k_is); (case z9 => k_is); (case z10 => k_is); (case z11 => k_is); (case z12 => k_is); (case zenumerate => k_is)
    (case zreversed => k_is); (case zany => k_is); (case zabs => k_is)
