import PyProof.Rows.All
import Wide.All
import OpenK.AllK
import Wide.FinOn
import Lean
import PyProof.EqAt
import PyProof.EqKinds
import PyProof.TupleCall
import PyProof.NeKinds
import PyProof.Draws
import PyProof.SumWalkG
import PyProof.ListRange
import PyProof.ZipIter
import PyProof.Rows.SortRev
import KE.IntBitsLaws
import PyProof.ListMulRoad
import PyProof.TupleKey
import PyProof.StationsW
import PyProof.RulesAs
import PyProof.NsDelKeeps
import PyProof.Rows.Own
import PyProof.Rows.Catch
import KE.KTryMore
import KE.KIsNot
import OpenK.KDescr
import PyProof.ExcAttrAll.ValueError
import PyProof.FString
import KE.KItemsList
import KE.KPairComp
import PyProof.DictWalks
import PyProof.Rows.SortShellK
import KE.KSortTup
import KE.KDictSum
import PyProof.ReprRoads
import PyProof.ReprLen
import PyProof.CallStr
import PyProof.Rows.RuleIs
import PyProof.Rows.SeqMore2
import KE.KRevIter
import PyProof.Rows.TupAdd
import PyProof.StrLawsRepr
import PyProof.RulesTry
import PyProof.InstStoreFacts
import OpenK.KMake
import PyProof.FactsAll.range_2
import PyProof.RangeFor
import PyProof.Rows.StrJoin2
import PyProof.Rows.Range3
import PySem.Challenge.RW_fewreels_k66_whole_no_laying_reads_less
open List renaming getElem?_eq_some_iff → Yaa, length_map → Yad, replicate → Yae, getElem?_eq_getElem → Yaf, mem_cons_self → Yai, length_append → Yaj, size_toArray → Yal, mem_cons_of_mem → Yam, mem_append_right → Yao, mem_append → Yap, getElem?_map → Yas, mem_cons → Yau, mem_map → Yay, sum_cons → Yaz, length_take → YaA, getD_eq_getElem?_getD → YaC, map_cons → YaD, mem_of_getElem? → YaE, flatten_cons → YaF, append_assoc → YaG, length_cons → YaH, getElem?_append_right → YaI, take_succ_eq_append_getElem → YaJ, getElem?_append_left → YaL, mem_append_left → YaM, mem_singleton → YaN, take_length → YaP, pairwise_append → YaQ, pairwise_cons → YaS, take_append_drop → YaT, map_append → YaU, getElem?_set_ne → YaX, mergeSort_perm → YaZ, length_replicate → Ya7, pairwise_map → Ybc, flatten_append → Ybd, zip → Ybe, length_reverse → Ybg, mem_flatten → Ybh, range → Ybi, dropLast_concat_getLast → Ybk, replicate_succ → Ybl, take_add_one → Ybn, mem_of_mem_take → Ybo, take_of_length_le → Ybr, take_zero → Ybv, lookup_cons → Ybw, cons_append → Ybx, flatten_replicate_singleton → Ybz, append_nil → YbC, not_mem_nil → YbE, reverse_cons → YbH, sum_append → YbJ, map_congr_left → YbK, getElem?_reverse → YbN, nodup_cons → YbS, getElem?_take_of_lt → YbT, zipWith → YbU, pairwise_mergeSort → YbW, filterMap_cons → YbX, length_drop → Yb0, mem_replicate → Yb3, nil_append → Yb6, mem_of_mem_drop → Ycc, ext_getElem → Ycg, reverse_append → Ycj, map_nil → Ycl, length_eq_zero_iff → Ycm, find?_cons → Ycn, mem_range → Ycr, mem_iff_getElem? → Ycs, map_map → Yct, getElem?_eq_none → Ycu, count_cons → YcC, getElem?_drop → YcK, exists_mem_of_ne_nil → YcN, drop_eq_getElem_cons → YcO, reverse_perm → YcU, reverse_nil → Yc2, mem_reverse → Yc3, getElem_mem → Yc4, getElem?_set_self → Yc6, pairwise_reverse → Yc9, foldl → Ydb, getElem?_of_mem → Yde, getElem?_mapIdx → Ydf, filterMap_map → Ydo, getElem_take → Ydt, ext_getElem? → Ydu, count_append → Ydv, sum_nil → YdB, zipIdx_cons → YdC, take_append_of_le_length → YdD, perm_middle → YdE, map_reverse → YdF, any_eq_true → YdG, all_eq_true → YdH, of_mem_zip → YdN, mem_filter → YdO, map_id → YdP, length_nil → YdQ, length → YdR, forIn_cons → YdS, take_left → Yd9, pairwise_iff_getElem → Yea, getElem?_eq_none_iff → Yeb, pairwise_singleton → Yef, pairwise_replicate → Yeg, getElem?_replicate → Yeh, eraseIdx_cons_succ → Yei, any_cons → Yej, perm_append_comm → Yer, getElem?_zipWith → Yes, extract → Yet, replicate_succ' → YeD, mem_iff_getElem → YeE, map_eq_cons_iff → YeF, length_zipWith → YeJ, getElem?_range → YeK, zip_cons_cons → YeQ, mem_filterMap → YeR, map_replicate → YeS, mapIdx_append → YeT, getElem_drop → Ye1, count_filter → Ye2, Nodup → Ye3, getElem_map → Ye7, getElem_inj → Ye8, filter_cons → Ye9
open PySem.Heap renaming get?_push_of_some → Yab, lt_size → Yah, get?_push_size → Yav, size_push → Ybj, SameBut → YcL, IsTuple → Yda, ExtBut → Ydh, IsList → YdU, get?_update_other → Yep, get?_update_self → Yev, get?_update_ne → YeL
open PySem.W renaming Frag → Yac, keepIn → Yaq, nsIn → Yar, codeIn → Yat, fnOf → Yax, mg_none_of → YaW, kia_one → Ybu, findIn → YcF, kitOne → Yc8, methodObj → Ydk, kat_nil → Ydx, instObj → Ydy, OpenLaw → Ydz, lookIn → YdI, cellsFrom_some → Yd7, callWith_K → Yeq, specialIn → Yey, kitx_list → Yez, kitx_dict → YeA, plainGet → YeI, mg_of → Ye5, WalkO → Ye6
open Nat renaming le_refl → Yag, lt_of_lt_of_le → Yak, ne_of_lt → YaB, zero_le → YaV, le_of_lt → Ya8, lt_irrefl → Ybb, le_trans → Ybt, ne_of_gt → Yby, lt_or_ge → YbD, lt_succ_self → YbF, zero_add → YbG, min_eq_left → Yb9, not_lt_zero → YcG, lt_succ_of_lt → YcW, le_succ → Yc0, add_sub_cancel_left → Yc1, eq_zero_or_pos → Ydr, lt_trichotomy → YdA, max_eq_right → YdJ, le_of_not_lt → YdK, sub_zero → YeB, mul_comm → YeC, add_lt_add_left → YeP, lt_or_eq_of_le → YeY, lt_of_le_of_lt → YeZ
open Array renaming getElem?_toList → Yan, length_toList → YaY, getD_eq_getD_getElem? → Ya1, toList_append → Ya5, toList_reverse → Ycb, getElem?_eq_getElem → Yce, toList_push → Ycq, toList_extract → Ycz, toList_setIfInBounds → YdW, perm_iff_toList_perm → YdX, getElem?_eq_some_iff → YdY, toList_inj → Ye4
open Option.some renaming inj → Yaw
open Or renaming inl → YaK, inr → Yen
open Bool renaming false_ne_true → YaO, false_eq_true → YaR, and_eq_true → Ycy, eq_iff_iff → YcD, not_true → YcY
open PySem.PassesOwn renaming never → Ya0
open PySem.Builtin.Int renaming intBits → Ya2
open PySem.Builtin.SmallTypes renaming nextOf → Ya3, ownedTupleIsFree → YbB, ownedTupleHandOut → YcI
open ForInStep renaming yield → Ya4, done → Yca
open Int renaming le_refl → Ya6, toNat_natCast → Ybf, mul_le_mul_of_nonneg_right → Ybq, add_mul → YbQ, natCast_add → Ycp, mul_comm → Ycw, mul_le_mul_of_nonneg_left → YcA, zero_add → YcP, emod_lt_of_pos → YcQ, add_zero → YcR, le_antisymm → Ydc, emod_nonneg → Ydd, mul_sub → Ydl, toNat → Yds, natCast_succ → YdL, one_mul → Yd4, mul_add → Yd5, fdiv_eq_ediv_of_nonneg → Yec, mul_nonneg → Yee, add_assoc → Yeo, le_trans → YeH, toNat_of_nonneg → YeU
open PySem.Value renaming ref → Ya9, none → Ych, type → Ydq, str → Yel, int → Yem, bool → YeM
open Ne renaming symm → Yba
open PySem.F renaming plainAttrs_list → Ybm, type_list_append → YbO, slot_list_append → YbP, args_tuple_add_2 → YcJ, entry_tuple_add → YcS, slot_tuple_add → YcV, slot_dict_get → YcZ, slot_dict_items → Yd0, plainAttrs_dict → Yd1, args_dict_get_3 → Yd2, entry_dict_get → Yd8
open Sum renaming inl → Ybp, inr → YdZ
open PySem renaming mem_of_lookup → Ybs, boot_len → YbZ, call → YeN, seqSlot_of → YeW
open PySem.Builtin.List renaming listTooLong → YbA
open PySem.Obj renaming mapSeq → YbI, data_mapFields → YeX
open List.Perm renaming append_left → YbL, refl → Yco, eq_of_pairwise → YcH, append_right → YcT, trans → YcX, swap → Yc7, of_eq → YeG
open Decidable renaming byContradiction → YbM
open PySem.NameKind renaming free → YbR, cell → Ye0
open PyProof.Rows renaming callWith_type1 → YbV, slot_tuple_getitem → Yci
open List.Pairwise renaming nil → YbY, imp_of_mem → Ydp
open True renaming intro → Yb1
open Option renaming toList_some → Yb2, map_some → YcB, isSome_iff_exists → Yd3, getD_none → YeO
open PySem.Builtin.Slice renaming slicePlaces → Yb4, sliceAdjust → Ycx, sliceApplied → Ydj
open PyProof.Rows.KeyOrd renaming kle_refl → Yb5, kle_of_klt → Yb7, kle_trans → Ycv, kle_antisymm → Yeu
open PySem.Builtin.Tuple renaming tupleExact → Yb8, tupleTooMany → Ydi
open PySem.AutoSeq1 renaming wpAny_loadPart' → Ycd
open PySem.Shared renaming heap → Ycf
open False renaming elim → Yck
open PySem.Str renaming empty → YcE, ofString → YcM
open PySem.Calls renaming callWith_builtin → Yc5, spliced_cons → Ydm, Name_function_global → YdV, call_function_entry → Yd6, evalArgs_plain → Yex, spliced_nil → YeV
open PySem.Paired renaming length → Ydg
open PyProof.Rows.SortSt renaming mk' → Ydn
open Sum.inl renaming inj → Ydw
open PySem.Heap.IsSliceOf renaming new → YdM
open PySem.Heap.SameBut renaming update → YdT
open PySem.Heap.IsTuple renaming push → Yed
open PySem.Heap.IsList renaming push → Yek
open Function renaming comp_def → Yew
set_option Elab.async false
set_option linter.all false
set_option maxRecDepth 100000
namespace L2
open PySem PySem.Spec PyProof.Rows
abbrev Key:=Sum Int Str
def ZfO:Key->Value->Bool
 | .inl k,v=>Value.isInt k v
 | .inr x,v=>Value.isStrOf x v
def keyH (w:World):Key->Int
 | .inl k=>hashInt k
 | .inr x=>hashStr w x
theorem ZaA:∀ {k:Key}{v:Value},ZfO k v=true->(∃ i t,k=Ybp i/\v=Yem i t)∨(∃ x t,k=YdZ x/\v=Yel x t)
 | .inl i,v,h=>by
  obtain⟨t,e⟩:=Value.isInt_shape (k:=i) (v:=v) h;exact .inl ⟨i,t,rfl,e⟩
 | .inr x,v,h=>by
  obtain⟨t,e⟩:=Value.isStrOf_shape (x:=x) (v:=v) h;exact .inr ⟨x,t,rfl,e⟩
theorem ZiK (i:Int) (t:Tok):ZfO (.inl i) (.int i t)=true:=by simp[ZfO,Value.isInt]
theorem ZiJ (x:Str) (t:Tok):ZfO (.inr x) (.str x t)=true:=by simp[ZfO,Value.isStrOf]
theorem Zm3 (a b:Int):decide ((Ybp a:Key)=Ybp b)=(a == b):=by
 by_cases e:a=b
 ·subst e;simp
 ·have h:¬ (Ybp a:Key)=Ybp b:=fun q=>e (Ydw q);rw[decide_eq_false h];exact (beq_eq_false_iff_ne.mpr e).symm
theorem Zm0 (a b:Str):decide ((YdZ a:Key)=YdZ b)=decide (a=b):=by
 by_cases e:a=b
 ·subst e;simp
 ·have h:¬ (YdZ a:Key)=YdZ b:=fun q=>e (Sum.inr.inj q);rw[decide_eq_false h,decide_eq_false e]
theorem Zm2 (a:Int) (b:Str):decide ((Ybp a:Key)=YdZ b)=false:=decide_eq_false (fun q=>nomatch q)
theorem Zm1 (a:Str) (b:Int):decide ((YdZ a:Key)=Ybp b)=false:=decide_eq_false (fun q=>nomatch q)
def Zay (prog:Program) (w:World):PySem.KeyKind prog w Key where
 is:=ZfO
 hash:=keyH w
 inj:=fun v a b ha hb=>by
  rcases ZaA ha with ⟨i,t,rfl,rfl⟩ | ⟨x,t,rfl,rfl⟩
  ·rcases ZaA hb with ⟨j,u,rfl,e⟩ | ⟨y,u,rfl,e⟩
   ·injection e with e1 _;rw[e1]
   ·exact nomatch e
  ·rcases ZaA hb with ⟨j,u,rfl,e⟩ | ⟨y,u,rfl,e⟩
   ·exact nomatch e
   ·injection e with e1 _;rw[e1]
 byValue:=fun k v h=>by
  rcases ZaA h with ⟨i,t,rfl,rfl⟩ | ⟨x,t,rfl,rfl⟩ <;> rfl
 pyHash:=fun hv h=>by
  rcases ZaA hv with ⟨i,t,rfl,rfl⟩ | ⟨x,t,rfl,rfl⟩
  ·exact wpAny_pyHash_int h
  ·exact wpAny_pyHash_str h
 eqBool:=fun hu hv h=>by
  rcases ZaA hu with ⟨i,t,rfl,rfl⟩ | ⟨x,t,rfl,rfl⟩
  ·rcases ZaA hv with ⟨j,u,rfl,rfl⟩ | ⟨y,u,rfl,rfl⟩
   ·rw[Zm3] at h;exact wpAny_eqBool_int h
   ·rw[Zm2] at h;exact SeqAt.EqAt.int_str i t y u _ _ _ _ h
  ·rcases ZaA hv with ⟨j,u,rfl,rfl⟩ | ⟨y,u,rfl,rfl⟩
   ·rw[Zm1] at h;exact SeqAt.EqAt.str_int x t j u _ _ _ _ h
   ·rw[Zm0] at h;exact wpAny_eqBool_str h
 «strs»:=fun k x t v h=>by
  rcases ZaA h with ⟨i,u,rfl,e⟩ | ⟨y,u,rfl,e⟩
  ·exact nomatch e
  ·injection e with e1 _;subst e1;cases v <;> rfl
theorem Zhf (prog:Program) (w:World) (k:Key) (v:Value):(Zay prog w).is k v=ZfO k v:=rfl
theorem ZfK (prog:Program) (w:World) (i:Int) (t:Tok):(Zay prog w).is (.inl i) (.int i t)=true:=ZiK i t
theorem ZfJ (prog:Program) (w:World) (x:Str) (t:Tok):(Zay prog w).is (.inr x) (.str x t)=true:=ZiJ x t
end L2
namespace L2
open PySem PySem.Spec PyProof.Rows
inductive V where
 | non | bl (b:Bool) | int (i:Int) | str (x:Str) | byt (b:Array UInt8) | flt (b:UInt64) | ref (a:Addr) | ty (n:String)
 deriving DecidableEq
def RelV:V->Value->Prop
 | .non,u=>u=Ych
 | .bl b,u=>u=YeM b
 | .int i,u=>∃ t,u=Yem i t
 | .str x,u=>∃ t,u=Yel x t
 | .byt b,u=>∃ t,u=Value.bytes b t
 | .flt b,u=>∃ t,u=Value.float b t
 | .ref a,u=>u=Ya9 a
 | .ty n,u=>u=Ydq n
abbrev Vals:List V->List Value->Prop:=Paired RelV
theorem Vals.length {xs:List V}{us:List Value} (r:Vals xs us):xs.length=us.length:=Ydg r
theorem Vals.get:∀ {xs:List V}{us:List Value}{i:Nat}{x:V},Vals xs us->xs[i]?=some x->∃ u,us[i]?=some u/\RelV x u
 | _,_,_,_,.nil,e=>by simp at e
 | _,_,0,_,.cons r _,e=>by simp at e;subst e;exact⟨_,rfl,r⟩
 | _,_,i+1,x,.cons _ t,e=>by
  obtain⟨u,h1,h2⟩:=Vals.get (i:=i) (x:=x) t (by simpa using e);exact⟨u,by simpa using h1,h2⟩
theorem Vals.set {x:V}{u:Value} (r:RelV x u):∀ {xs:List V}{us:List Value} (i:Nat),Vals xs us->Vals (xs.set i x) (us.set i u)
 | _,_,_,.nil=>.nil
 | _,_,0,.cons _ t=>.cons r t
 | _,_,i+1,.cons q t=>.cons q (Vals.set r i t)
theorem Vals.append:∀ {xs ys:List V}{us ws:List Value},Vals xs us->Vals ys ws->Vals (xs++ys) (us++ws)
 | _,_,_,_,.nil,s=>s
 | _,_,_,_,.cons r t,s=>.cons r (Vals.append t s)
theorem Vals.take:∀ {xs:List V}{us:List Value} (n:Nat),Vals xs us->Vals (xs.take n) (us.take n)
 | _,_,0,_=>.nil
 | _,_,_+1,.nil=>.nil
 | _,_,n+1,.cons r t=>.cons r (Vals.take n t)
theorem Vals.drop:∀ {xs:List V}{us:List Value} (n:Nat),Vals xs us->Vals (xs.drop n) (us.drop n)
 | _,_,0,r=>r
 | _,_,_+1,.nil=>.nil
 | _,_,n+1,.cons _ t=>Vals.drop n t
def RelO:Option V->Option Value->Prop
 | some v,some u=>RelV v u
 | none,none=>True
 | _,_=>False
def KV {κ:Type}:List (κ × V)->List (κ × Value)->Prop:=Paired fun (p:κ × V) (q:κ × Value)=>p.1=q.1/\RelV p.2 q.2
def kV:Key->V
 | .inl i=>.int i
 | .inr x=>.str x
inductive HO where
 | lst (xs:List V)
 | tup (xs:List V)
 | dK (kvs:List (Key × V)) | dT (kvs:List (List Key × V))
 | set (S:Int->Bool) (n:Nat)
 | ins (C dx:Addr) (fs:List (Str × V))
 | own (x:Addr)
 | xd (fs:List (Str × V))
 | met (f x:Addr)
 | rng (lo hi:Int)
 | frz (o:Obj) (u:HO)
 | tbl (ps:Array Value)
 | ext (φ:Heap->Prop)
abbrev Hp:=Addr->Option HO
def upd (H:Hp) (a:Addr) (o:HO):Hp:=fun b=>if b=a then some o else H b
theorem Zab {H:Hp}{a:Addr}{o:HO}:upd H a o a=some o:=by unfold upd;rw[if_pos rfl]
theorem Zaf {H:Hp}{a b:Addr}{o:HO} (h:b≠a):upd H a o b=H b:=by unfold upd;rw[if_neg h]
theorem Zla {H:Hp}{a:Addr}{o u:HO}:upd (upd H a o) a u=upd H a u:=by
 funext b;unfold upd;split <;> rfl
theorem ZlQ {H:Hp}{a b:Addr}{o u:HO} (h:H a=some o) (h':H b=some u) (d:o≠u):a≠b:=by
 intro e;subst e;rw[h] at h';exact d (Yaw h')
theorem Zae {H:Hp}{a b:Addr}{o:HO} (h:H a=some o) (h':H b=none):a≠b:=by
 intro e;subst e;rw[h] at h';cases h'
def IsTupD (h:Heap) (a:Addr) (items:Array Value):Prop:=∃ o,h.get? a=some o/\o.cls=.type "tuple"/\o.dict=none/\∃ n,o.data=.seq items n
theorem IsTupD.tup {h:Heap}{a:Addr}{items:Array Value} (x:IsTupD h a items):IsTup h a items:=let ⟨o,e,c,_,d⟩:=x;⟨o,e,c,d⟩
theorem IsTupD.new (h:Heap) (items:Array Value):IsTupD (h.push { cls:=.type "tuple",data:=.seq items }) h.objs.size items:=⟨_,Yav _ rfl,rfl,rfl,_,rfl⟩
section
variable (P:Program) (w:World)
def ObjOk (H:Hp) (h:Heap) (a:Addr):HO->Prop
 | .lst xs=>xs.length<=sizeLine/\∃ (its:List Value) (n:Nat),Vals xs its/\h.get? a=some { cls:=.type "list",data:=.seq its.toArray n }
 | .tup xs=>xs.length<=sizeLine/\∃ its:List Value,Vals xs its/\IsTupD h a its.toArray
 | .dK kvs=>kvs.length<=sizeLine/\(a == sysModules)=false/\∃ vs,KV kvs vs/\h.DictOf (Zay P w) a vs
 | .dT kvs=>kvs.length<=sizeLine/\(a == sysModules)=false/\∃ xs:List (List Key × Addr × Value),
   Paired (fun (p:List Key × V) (q:List Key × Addr × Value)=>p.1=q.1/\H q.2.1=some (.tup (p.1.map kV))/\RelV p.2 q.2.2) kvs xs /\
   ∃ o es ep,h.get? a=some o/\o.ExactDict/\o.data=.dict es ep/\es.toList=xs.map (entryOfKey (tupleKind (Zay P w)))/\(xs.map (·.1)).Nodup
 | .set S n=>h.SetOf (intKind P w) a S n
 | .ins C dx fs=>H dx=some (.own a)/\fs.length<=1000/\dx≠a/\h.get? a=some (Ydy C dx) /\
   ∃ mA,h.Ns1 dx mA/\(∀ f,RelO (fs.lookup f) (mA f))/\PySem.Within mA (fs.map (·.1))
 | .own _=>∃ o,h.get? a=some o
 | .xd fs=>∃ mA,h.Ns1 a mA/\∀ f,RelO (fs.lookup f) (mA f)
 | .rng lo hi=>∃ t u v,h.get? a=some { cls:=.type "range",data:=.fields #[.int lo t,.int hi u,.int 1 v] }
 | .frz o u=>h.get? a=some o/\ObjOk H h a u
 | .tbl ps=>h.get? a=some { cls:=.none,data:=.fields ps }
 | .met f x=>h.get? a=some (Ydk (.ref f) (.ref x))
 | .ext φ=>φ h/\(∃ o,h.get? a=some o)/\∀ h1 h2:Heap,φ h1->(∀ o,h1.get? a=some o->h2.get? a=some o)->φ h2
def HOk (H:Hp) (h:Heap):Prop:=∀ a o,H a=some o->ObjOk P w H h a o
end
section
variable {P:Program}{w:World}{H H':Hp}{h h':Heap}{a:Addr}{o:HO}
theorem ObjOk.lt (x:ObjOk P w H h a o):a<h.objs.size:=by
 cases o with
 | lst xs=>obtain⟨_,_,_,_,e⟩:=x;exact Yah e
 | tup xs=>obtain⟨_,_,_,p⟩:=x;exact p.tup.lt
 | dK kvs=>obtain⟨_,_,_,_,o,_,_,e,_⟩:=x;exact Yah e
 | dT kvs=>obtain⟨_,_,_,_,o,_,_,e,_⟩:=x;exact Yah e
 | set S n=>obtain⟨o,_,_,_,e,_⟩:=x;exact Yah e
 | ins C dx fs=>obtain⟨_,_,_,e,_⟩:=x;exact Yah e
 | own y=>obtain⟨_,e⟩:=x;exact Yah e
 | xd fs=>obtain⟨_,⟨_,_,_,e,_⟩,_⟩:=x;exact Yah e
 | rng lo hi=>obtain⟨_,_,_,e⟩:=x;exact Yah e
 | frz ob u=>obtain⟨e,_⟩:=x;exact Yah e
 | tbl ps=>exact Yah (show h.get? a=some _ from x)
 | met f y=>exact Yah (show h.get? a=some _ from x)
 | ext φ=>obtain⟨_,⟨_,e⟩,_⟩:=x;exact Yah e
theorem Paired.mapP {α β:Type}{F G:α->β->Prop}:∀ {l₁:List α}{l₂:List β},Paired F l₁ l₂->(∀ a b,F a b->G a b)->Paired G l₁ l₂
 | _,_,.nil,_=>.nil
 | _,_,.cons r t,f=>.cons (f _ _ r) (Paired.mapP t f)
theorem ObjOk.stay (x:ObjOk P w H h a o) (k:∀ b u,(b=a∨H b=some (.own a))->h.get? b=some u->h'.get? b=some u)
  (ho:∀ b,H b=some (.own a)->H' b=some (.own a)) (ht:∀ b xs,H b=some (.tup xs)->H' b=some (.tup xs)):ObjOk P w H' h' a o:=by
 induction o with
 | lst xs=>obtain⟨z,its,n,r,e⟩:=x;exact⟨z,its,n,r,k _ _ (.inl rfl) e⟩
 | tup xs=>obtain⟨z,its,r,ob,e,c⟩:=x;exact⟨z,its,r,ob,k _ _ (.inl rfl) e,c⟩
 | dK kvs=>obtain⟨z,y,vs,r,ob,es,ep,e,c⟩:=x;exact⟨z,y,vs,r,ob,es,ep,k _ _ (.inl rfl) e,c⟩
 | dT kvs=>
  obtain⟨z,y,xs,r,ob,es,ep,e,c⟩:=x;exact⟨z,y,xs,Paired.mapP r fun p q z=>⟨z.1,ht _ _ z.2.1,z.2.2⟩,ob,es,ep,k _ _ (.inl rfl) e,c⟩
 | set S n=>obtain⟨ob,es,ep,t,e,c⟩:=x;exact⟨ob,es,ep,t,k _ _ (.inl rfl) e,c⟩
 | ins C dx fs=>
  obtain⟨d,z,ne,e,mA,⟨od,es,ep,e2,c⟩,r⟩:=x;exact⟨ho _ d,z,ne,k _ _ (.inl rfl) e,mA,⟨od,es,ep,k _ _ (.inr d) e2,c⟩,r⟩
 | own y=>obtain⟨ob,e⟩:=x;exact⟨ob,k _ _ (.inl rfl) e⟩
 | xd fs=>obtain⟨mA,⟨od,es,ep,e,c⟩,r⟩:=x;exact⟨mA,⟨od,es,ep,k _ _ (.inl rfl) e,c⟩,r⟩
 | rng lo hi=>obtain⟨t,u,v,e⟩:=x;exact⟨t,u,v,k _ _ (.inl rfl) e⟩
 | frz ob u ih=>obtain⟨e,q⟩:=x;exact⟨k _ _ (.inl rfl) e,ih q⟩
 | tbl ps=>
  have e:h.get? a=some { cls:=.none,data:=.fields ps }:=x;show h'.get? a=some { cls:=.none,data:=.fields ps };exact k a _ (.inl rfl) e
 | met f y=>
  have e:h.get? a=some (Ydk (.ref f) (.ref y)):=x;show h'.get? a=some (Ydk (.ref f) (.ref y));exact k a _ (.inl rfl) e
 | ext φ=>obtain⟨p,⟨o,e⟩,st⟩:=x;exact⟨st _ _ p fun o q=>k _ _ (.inl rfl) q,⟨o,k _ _ (.inl rfl) e⟩,st⟩
theorem HOk.lt (x:HOk P w H h) (e:H a=some o):a<h.objs.size:=(x a o e).lt
theorem HOk.fresh (x:HOk P w H h) (e:h.objs.size<=a):H a=none:=by
 cases q:H a with
 | none=>rfl
 | some u=>exact absurd (Yak (x.lt q) e) (Ybb _)
theorem HOk.kept (x:HOk P w H h) (k:∀ b u,h.get? b=some u->h'.get? b=some u):HOk P w H h':=fun a o e=>
 (x a o e).stay (fun b u _ q=>k b u q) (fun _ q=>q) fun _ _ q=>q
theorem HOk.laid (x:HOk P w H h) (k:∀ b u,h.get? b=some u->h'.get? b=some u) (hp:h.objs.size<=a) (new:ObjOk P w (upd H a o) h' a o):HOk P w (upd H a o) h':=fun b u e=>by
 have hn:=x.fresh hp;by_cases hb:b=a
 ·subst hb;rw[Zab] at e;cases e;exact new
 ·rw[Zaf hb] at e;exact (x b u e).stay (fun c v _ q=>k c v q) (fun c q=>by rw[Zaf (Zae q hn)];exact q) fun c xs q=>by rw[Zaf (Zae q hn)];exact q
end
def Rd (H:Hp) (a:Addr) (u:HO):Prop:=H a=some u∨∃ o,H a=some (.frz o u)
theorem Rd.ok {P:Program}{w:World}{H:Hp}{h:Heap}{a:Addr}{u:HO} (r:Rd H a u) (x:HOk P w H h):ObjOk P w H h a u:=by
 rcases r with r | ⟨o,r⟩
 ·exact x a u r
 ·obtain⟨_,q⟩:=x a _ r;exact q
def Mut:Option HO->Prop
 | some (.lst _)=>True
 | some (.dK _)=>True
 | some (.dT _)=>True
 | some (.set _ _)=>True
 | some (.ins _ _ _)=>True
 | some (.ext _)=>True
 | _=>False
section
variable {P:Program}{w:World}{H:Hp}{h h':Heap}{x e:Addr}{o':HO}
theorem HOk.write (ok:HOk P w H h) (mu:Mut (H x)) (he:e=x∨H e=some (.own x)) (k:∀ b u,b≠e->h.get? b=some u->h'.get? b=some u) (heo:∃ u,h'.get? e=some u)
  (new:ObjOk P w (upd H x o') h' x o'):HOk P w (upd H x o') h':=fun b u q=>by
 have nown:∀ c y,H c=some (.own y)->c≠x:=fun c y r z=>by subst z;rw[r] at mu;exact mu
 have ntup:∀ c xs,H c=some (.tup xs)->c≠x:=fun c xs r z=>by subst z;rw[r] at mu;exact mu
 by_cases hb:b=x
 ·subst hb;rw[Zab] at q;cases q;exact new
 ·rw[Zaf hb] at q;by_cases hbe:b=e
  ·have q':H b=some (.own x):=by
    rcases he with z | z
    ·exact absurd (hbe.trans z) hb
    ·rw[hbe];exact z
   rw[q] at q';cases q';obtain⟨v,hv⟩:=heo;exact⟨v,by rw[hbe];exact hv⟩
  ·refine (ok b u q).stay (fun c v hc r=>k c v ?_ r) (fun c r=>by rw[Zaf (nown c b r)];exact r) fun c xs r=>by rw[Zaf (ntup c xs r)];exact r
   rcases hc with rfl | hc
   ·exact hbe
   ·rintro rfl;rcases he with z | z
    ·exact nown c b hc z
    ·rw[hc] at z;cases z;exact hb rfl
end
structure Un (fs ex:List Addr) (H H':Hp) (h h':Heap):Prop where
 keep:∀ b o,h.get? b=some o->H b=none->b ∉ fs->b ∉ ex->h'.get? b=some o
 slot:∀ b o,h.get? b=some o->H b=none->b∈fs->b ∉ ex->∃ sl,h'.get? b=some { o with slots:=sl }
 free:∀ b o,h.get? b=some o->H b=none->b ∉ ex->H' b=none
 there:∀ b o,h.get? b=some o->b ∉ ex->∃ o',h'.get? b=some o'
 tups:∀ b xs,H b=some (.tup xs)->H' b=some (.tup xs)
 frzs:∀ b o u,H b=some (.frz o u)->H' b=some (.frz o u)
 tbls:∀ b ps,H b=some (.tbl ps)->∃ more,H' b=some (.tbl (ps++more))
section
variable {fs fs' ex ex':List Addr}{H H1 H2:Hp}{h h1 h2 h':Heap}{a x e:Addr}{o:HO}
theorem Un.any (u:Un fs ex H H1 h h1) {b:Addr}{ob:Obj} (q:h.get? b=some ob) (n:H b=none) (hx:b ∉ ex):∃ sl,h1.get? b=some { ob with slots:=sl }:=by
 by_cases hb:b∈fs
 ·exact u.slot b ob q n hb hx
 ·exact⟨ob.slots,u.keep b ob q n hb hx⟩
theorem Un.kept (k:∀ b u,h.get? b=some u->h'.get? b=some u):Un fs ex H H h h' :=
 ⟨fun b ob q _ _ _=>k b ob q,fun b ob q _ _ _=>⟨ob.slots,k b ob q⟩,fun _ _ _ n _=>n,fun b ob q _=>⟨ob,k b ob q⟩,fun _ _ q=>q,fun _ _ _ q=>q,fun _ ps q=>⟨#[],by rw[q];simp⟩⟩
theorem Un.refl:Un fs ex H H h h:=Un.kept fun _ _ q=>q
theorem Un.laid (k:∀ b u,h.get? b=some u->h'.get? b=some u) (hp:h.objs.size<=a) (hn:H a=none):Un fs ex H (upd H a o) h h' where
 keep:=fun b u q _ _ _=>k b u q
 slot:=fun b u q _ _ _=>⟨u.slots,k b u q⟩
 free:=fun b u q n _=>by rw[Zaf (YaB (Yak (Yah q) hp))];exact n
 there:=fun b u q _=>⟨u,k b u q⟩
 tups:=fun b xs q=>by rw[Zaf (Zae q hn)];exact q
 frzs:=fun b u xs q=>by rw[Zaf (Zae q hn)];exact q
 tbls:=fun b ps q=>⟨#[],by rw[Zaf (Zae q hn),q];simp⟩
theorem Un.write (mu:Mut (H x)) (he:e=x∨H e=some (.own x)) (k:∀ b u,b≠e->h.get? b=some u->h'.get? b=some u) (heo:∃ u,h'.get? e=some u):Un fs ex H (upd H x o) h h':=by
 have hx:∀ b,H b=none->b≠x:=fun b n z=>by subst z;rw[n] at mu;exact mu
 have hb:∀ b,H b=none->b≠e:=fun b n z=>by
  subst z;rcases he with r | r
  ·exact hx b n r
  ·rw[n] at r;cases r
 have hm:∀ b u,H b=some u->¬ Mut (some u)->b≠x:=fun b u q nm z=>by subst z;rw[q] at mu;exact nm mu
 refine⟨fun b u q n _ _=>k b u (hb b n) q,fun b u q n _ _=>⟨u.slots,k b u (hb b n) q⟩,fun b u q n _=>by rw[Zaf (hx b n)];exact n,fun b u q _=>?_,
  fun b xs q=>by rw[Zaf (hm b _ q fun z=>z)];exact q,fun b u xs q=>by rw[Zaf (hm b _ q fun z=>z)];exact q,fun b ps q=>⟨#[],by rw[Zaf (hm b _ q fun z=>z),q];simp⟩⟩
 by_cases hbe:b=e
 ·subst hbe;exact heo
 ·exact⟨u,k b u hbe q⟩
end
def trk (h:Heap) (H:Hp):List Addr:=(Ybi h.objs.size).filter fun a=>(H a).isSome
def hidT (h:Heap) (H:Hp):Heap:=PySem.W.hideAll h (trk h H)
theorem ZiW (h:Heap) (H:Hp):(hidT h H).objs.size=h.objs.size:=PySem.W.hideAll_size _ _
theorem Zky {h:Heap}{H:Hp}{b:Addr}{o:Obj} (e:h.get? b=some o) (n:H b=none):(hidT h H).get? b=some o :=
 PySem.W.hideAll_get _ e fun hm=>by
  have q:(H b).isSome=true:=(YdO.mp hm).2
  rw[n] at q;simp at q
theorem ZlO {h:Heap}{H:Hp}{b:Addr}{o:Obj} (e:(hidT h H).get? b=some o):h.get? b=some o/\H b=none:=by
 have e':h.get? b=some o:=PySem.W.of_hideAll (trk h H) e;refine⟨e',?_⟩
 cases q:H b with
 | none=>rfl
 | some x=>
  have hm:b∈trk h H:=YdO.mpr ⟨Ycr.mpr (Yah e'),by simp[q]⟩;have z:(hidT h H).get? b=none:=PySem.W.hideAll_none (trk h H) hm;rw[z] at e;cases e
def Zma (g h:Heap) (L:Addr):List (Addr × Obj):=(Ybi h.objs.size).filterMap fun a=>if a=L∨(g.get? a).isSome=true then none else (h.get? a).map fun o=>(a,o)
def rest (g h:Heap) (L d:Addr):List (Addr × Obj):=(Zma g h L).filter fun p=>decide (p.1≠d)
end L2
namespace L2
open PySem PySem.Spec PyProof.Rows
structure Mod (K:Yac) (mg:Str->Option Value) (base:Heap):Prop where
 kin:K.In base
 glob:base.Ns mainGlobals mg
 blt:∃ mb,base.Ns builtinsNs mb/\∀ x:Str,x≠"__name__"->mb x=bootBuiltins x
 nolimit:base.NoLimit
structure Cx where
 prog:Program
 w:World
 K:Yac
 mg:Str->Option Value
 base:Heap
 A:Around
 N:List Str
 s₀:Shared
 H₀:Hp
 env:Env
 outer:List Env
 stack:List Env
 ex:List Addr
 fn:Str->Bool
 calm:Bool
 pn:List (Addr × Obj)
 xe:Value->Shared->Prop
def frs (l:List Env):List Addr:=l.filterMap (·.frame)
abbrev Cx.fs (X:Cx):List Addr:=frs X.outer
def Vis (sc:Scope) (x:Str):Prop:=sc.names.lookup x=some .local ∨ sc.names.lookup x=some .cell∨sc.names.lookup x=some .free
def Loc (sc:Scope) (x:Str):Prop:=sc.names.lookup x=some .local ∨ sc.names.lookup x=some .cell
def Look (env:Env) (h:Heap) (m:Str->Option Value) (x:Str) (u:Value):Prop :=
 (env.kindOf x=some .local /\ m x=some u)∨((env.kindOf x=some .cell∨env.kindOf x=some .free)/\∃ c,env.cells.lookup x=some c/\h.IsCell c (some u))
structure Cx.Ok (X:Cx):Prop where
 mod:Mod X.K X.mg X.base
 kind:X.env.scope.kind=.function
 glob:X.env.globals=mainGlobals
 blt:X.env.builtins=builtinsNs
 above:X.s₀.heap.objs.size<=X.env.locals
 inj:∀ x y c,X.env.cells.lookup x=some c->X.env.cells.lookup y=some c->x=y
 has:∀ x,(X.env.kindOf x=some .cell∨X.env.kindOf x=some .free)->∃ c,X.env.cells.lookup x=some c
 cab:∀ x c,X.fn x=true->X.env.cells.lookup x=some c->X.s₀.heap.objs.size<=c
 hd:X.calm=true->X.A.handled=none
 frames:X.A.frames=some X.stack
 stk:X.stack=X.outer∨(X.stack=X.env::X.outer/\X.env.frame=some X.env.locals)
 exf:∀ b∈X.ex,b≠X.env.locals/\∀ x c,X.env.cells.lookup x=some c->c≠b
 bs:∀ b o,X.base.get? b=some o->X.s₀.heap.get? b=some o/\X.H₀ b=none
 bsz:X.base.objs.size<=X.s₀.heap.objs.size
 noex:∀ b o,X.base.get? b=some o->b ∉ X.ex
 exfs:∀ b∈X.ex,b ∉ X.fs
 funs:X.s₀.heap.FunFrames X.base X.outer
 frf:∀ b∈X.fs,X.H₀ b=none
structure Inv (X:Cx) (pins:List (Addr × Obj)) (σ:List (Option V)) (H:Hp) (s:Shared):Prop where
 ok:X.Ok
 os:s.os=X.s₀.os
 bare:AllBare s.gens
 base:Un X.fs X.ex X.H₀ H X.s₀.heap s.heap
 loc:∃ m,s.heap.Ns X.env.locals m/\∀ (i:Nat) (x:Str) (v:V),X.N[i]?=some x->σ[i]?=some (some v)->Vis X.env.scope x->∃ u,RelV v u/\Look X.env s.heap m x u
 cell:∀ x c,X.env.cells.lookup x=some c->∃ v,s.heap.IsCell c v
 free:H X.env.locals=none
 freeC:∀ x c,X.env.cells.lookup x=some c->H c=none
 pin:∀ p∈X.pn++pins,s.heap.get? p.1=some p.2/\H p.1=none/\p.1≠X.env.locals/\p.1 ∉ X.fs/\∀ v,p.2.data≠.cell v
 hok:HOk X.prog X.w H s.heap
 len:σ.length=X.N.length
section
variable {X:Cx}{pins:List (Addr × Obj)}{σ:List (Option V)}{H H':Hp}{s:Shared}{h':Heap}
theorem Cx.Ok.nofr (ok:X.Ok) {b:Addr}{o:Obj} (e:X.base.get? b=some o):b ∉ X.fs:=fun hb=>by
 have:=(ok.funs.mem hb).1
 rw[e] at this;cases this
theorem Inv.bs (I:Inv X pins σ H s):∀ b o,X.base.get? b=some o->s.heap.get? b=some o/\H b=none:=fun b o e=>
 ⟨I.base.keep b o (I.ok.bs b o e).1 (I.ok.bs b o e).2 (I.ok.nofr e) (I.ok.noex b o e),I.base.free b o (I.ok.bs b o e).1 (I.ok.bs b o e).2 (I.ok.noex b o e)⟩
theorem Inv.bk (I:Inv X pins σ H s):∀ b o,X.base.get? b=some o->s.heap.get? b=some o:=fun b o e=>(I.bs b o e).1
theorem Inv.mod (I:Inv X pins σ H s):Mod X.K X.mg X.base:=I.ok.mod
theorem Inv.kIn (I:Inv X pins σ H s):X.K.In s.heap:=I.ok.mod.kin.keeps I.bk
theorem Inv.lt (I:Inv X pins σ H s):X.env.locals<s.heap.objs.size:=let ⟨_,hn,_⟩:=I.loc;hn.lt
theorem Inv.sz (I:Inv X pins σ H s):X.s₀.heap.objs.size<=s.heap.objs.size:=Ybt I.ok.above (Ya8 I.lt)
theorem Inv.nofs (I:Inv X pins σ H s) {a:Addr} (h:s.heap.objs.size<=a):a ∉ X.fs:=fun hb=>by
 obtain⟨_,o,ho,_⟩:=I.ok.funs.mem hb;exact absurd (Yak (Yah ho) (Ybt I.sz h)) (Ybb _)
theorem Inv.cne (I:Inv X pins σ H s):∀ x c,X.env.cells.lookup x=some c->c≠X.env.locals:=fun x c e z=>by
 obtain⟨v,o,ho,hd⟩:=I.cell x c e;obtain⟨m,⟨o',es,ep,ho',hd',_⟩,_⟩:=I.loc;rw[z,ho'] at ho;cases ho;rw[hd'] at hd;cases hd
theorem Inv.funs (I:Inv X pins σ H s):s.heap.FunFrames X.base X.outer:=by
 have all:∀ (l:List Env),(∀ b∈frs l,b∈X.fs)->X.s₀.heap.FunFrames X.base l->s.heap.FunFrames X.base l:=by
  intro l
  induction l with
  | nil=>intro _ _;trivial
  | cons env r ih=>
   intro hs hl;obtain⟨hk,⟨L,o,hf,hn,ho,hd⟩,hr⟩:=hl;have hL:L∈X.fs:=hs L (by unfold frs;rw[YbX,hf];exact Yai);obtain⟨sl,e⟩:=I.base.slot L o ho (I.ok.frf L hL) hL fun z=>I.ok.exfs L z hL;exact⟨hk,⟨L,_,hf,hn,e,hd⟩,ih (fun b hb=>hs b (by unfold frs;rw[YbX,hf];exact Yam _ hb)) hr⟩
 exact all X.outer (fun _ hb=>hb) I.ok.funs
theorem Inv.stack (I:Inv X pins σ H s):s.heap.FunFrames X.base X.stack:=by
 rcases I.ok.stk with e | ⟨e,hf⟩
 ·rw[e];exact I.funs
 ·rw[e];obtain⟨m,hn,_⟩:=I.loc;refine .cons (by rw[I.ok.kind];decide) hf hn ?_ I.funs;exact Heap.get?_none_of_le (Ybt I.ok.bsz I.ok.above)
theorem Inv.stkSub (I:Inv X pins σ H s):∀ b∈frs X.stack,b∈X.env.locals::X.fs:=fun b hb=>by
 rcases I.ok.stk with e | ⟨e,hf⟩
 ·rw[e] at hb;exact Yam _ hb
 ·rw[e] at hb;unfold frs at hb;rw[YbX,hf] at hb;exact hb
theorem Inv.stkFree (I:Inv X pins σ H s):∀ b∈frs X.stack,H b=none:=fun b hb=>by
 rcases Yau.mp (I.stkSub b hb) with e | hb
 ·rw[e];exact I.free
 ·obtain⟨_,o,ho,_⟩:=I.ok.funs.mem hb;exact I.base.free b o ho (I.ok.frf b hb) fun z=>I.ok.exfs b z hb
theorem Inv.step {g':Array GenState}{t':Nat}{d':Drawn}{ch:List Addr} (I:Inv X pins σ H s)
  (hch:∀ b∈ch,(b∈X.ex∨X.s₀.heap.objs.size<=b)/\b≠X.env.locals/\(∀ x c,X.env.cells.lookup x=some c->c≠b)/\∀ p∈X.pn++pins,p.1≠b)
  (keep:∀ b o,b≠X.env.locals->b ∉ X.fs->b ∉ ch->s.heap.get? b=some o->H b=none->h'.get? b=some o)
  (slot:∀ b o,b≠X.env.locals->b∈X.fs->b ∉ ch->s.heap.get? b=some o->H b=none->∃ sl,h'.get? b=some { o with slots:=sl }) (free:∀ b o,b ∉ ch->s.heap.get? b=some o->H b=none->H' b=none)
  (there:∀ b o,b ∉ ch->s.heap.get? b=some o->∃ o',h'.get? b=some o')
  (tups:∀ b xs,H b=some (.tup xs)->H' b=some (.tup xs)) (frzs:∀ b o u,H b=some (.frz o u)->H' b=some (.frz o u)) (tbls:∀ b ps,H b=some (.tbl ps)->∃ more,H' b=some (.tbl (ps++more)))
  (ns:∀ m,s.heap.Ns X.env.locals m->h'.Ns X.env.locals m) (hok:HOk X.prog X.w H' h') (hg:AllBare g') :
  Inv X pins σ H' { s with heap:=h',gens:=g',drawn:=d',toks:=t' }:=by
 have neL:∀ b o,X.s₀.heap.get? b=some o->b≠X.env.locals:=fun b o e=>YaB (Yak (Yah e) I.ok.above);have neC:∀ b o,X.s₀.heap.get? b=some o->b ∉ X.ex->b ∉ ch:=fun b o e hx hb=>by
  rcases (hch b hb).1 with z | z
  ·exact hx z
  ·exact absurd (Yak (Yah e) z) (Ybb _)
 have cellK:∀ x c,X.env.cells.lookup x=some c->∀ v,s.heap.IsCell c v->h'.IsCell c v:=fun x c e v ⟨o,ho,hd⟩=>by
  have nch:c ∉ ch:=fun z=>(hch c z).2.2.1 x c e rfl;by_cases hc:c∈X.fs
  ·obtain⟨sl,q⟩:=slot c o (I.cne x c e) hc nch ho (I.freeC x c e);exact⟨_,q,hd⟩
  ·exact⟨o,keep c o (I.cne x c e) hc nch ho (I.freeC x c e),hd⟩
 refine⟨I.ok,I.os,hg,⟨fun b o e n hb hx=>?_,fun b o e n hb hx=>?_,fun b o e n hx=>?_,fun b o e hx=>?_,fun b xs e=>tups b xs (I.base.tups b xs e),fun b o xs e=>frzs b o xs (I.base.frzs b o xs e),fun b ps e=>?_⟩,?_,fun x c e=>?_,?_,fun x c e=>?_,fun p hp=>?_,hok,I.len⟩
 ·exact keep b o (neL b o e) hb (neC b o e hx) (I.base.keep b o e n hb hx) (I.base.free b o e n hx)
 ·obtain⟨sl,e1⟩:=I.base.slot b o e n hb hx;obtain⟨sl',e2⟩:=slot b _ (neL b o e) hb (neC b o e hx) e1 (I.base.free b o e n hx);exact⟨sl',e2⟩
 ·obtain⟨o',e1⟩:=I.base.there b o e hx;exact free b o' (neC b o e hx) e1 (I.base.free b o e n hx)
 ·obtain⟨o',e1⟩:=I.base.there b o e hx;exact there b o' (neC b o e hx) e1
 ·obtain⟨m1,e1⟩:=I.base.tbls b ps e;obtain⟨m2,e2⟩:=tbls b _ e1;exact⟨m1++m2,by rw[e2,Array.append_assoc]⟩
 ·obtain⟨m,hn,hl⟩:=I.loc;refine⟨m,ns m hn,fun i x v e1 e2 e3=>?_⟩;obtain⟨u,r,l⟩:=hl i x v e1 e2 e3;refine⟨u,r,?_⟩;rcases l with l | ⟨k,c,e,z⟩
  ·exact .inl l
  ·exact .inr ⟨k,c,e,cellK x c e _ z⟩
 ·obtain⟨v,z⟩:=I.cell x c e;exact⟨v,cellK x c e v z⟩
 ·obtain⟨m,⟨o,_,_,ho,_⟩,_⟩:=I.loc;exact free _ o (fun z=>(hch _ z).2.1 rfl) ho I.free
 ·obtain⟨v,o,ho,hd⟩:=I.cell x c e;exact free c o (fun z=>(hch c z).2.2.1 x c e rfl) ho (I.freeC x c e)
 ·obtain⟨e,n,ne,nf,d⟩:=I.pin p hp;have nch:p.1 ∉ ch:=fun z=>(hch p.1 z).2.2.2 p hp rfl;exact⟨keep p.1 p.2 ne nf nch e n,free p.1 p.2 nch e n,ne,nf,d⟩
theorem Inv.un {t':Nat} (I:Inv X pins σ H s) (u:Un X.fs [] H H' s.heap h') (hok:HOk X.prog X.w H' h'):Inv X pins σ H' { s with heap:=h',toks:=t' }:=by
 obtain⟨m,⟨o,es,ep,ho,r⟩,_⟩:=id I.loc;obtain⟨sl,hL⟩:=u.any ho I.free (by simp);exact I.step (g':=s.gens) (d':=s.drawn) (ch:=[]) (fun _ z=>nomatch z) (fun b o _ hb _ e n=>u.keep b o e n hb (by simp)) (fun b o _ hb _ e n=>u.slot b o e n hb (by simp)) (fun b o _ e n=>u.free b o e n (by simp)) (fun b o _ e=>u.there b o e (by simp)) u.tups u.frzs u.tbls (fun m' hm=>by
  obtain⟨o',es',ep',ho',r'⟩:=hm;rw[ho] at ho';cases ho';exact⟨_,es',ep',hL,r'⟩) hok I.bare
theorem Inv.call {g':Array GenState}{t':Nat}{d':Drawn}{ch:List Addr} (I:Inv X pins σ H s) (u:Un (frs X.stack) ch H H' s.heap h') (hok:HOk X.prog X.w H' h') (hg:AllBare g')
  (hch:∀ b∈ch,(b∈X.ex∨X.s₀.heap.objs.size<=b)/\b≠X.env.locals/\(∀ x c,X.env.cells.lookup x=some c->c≠b)/\∀ p∈X.pn++pins,p.1≠b) :
  Inv X pins σ H' { s with heap:=h',gens:=g',drawn:=d',toks:=t' }:=by
 obtain⟨m,⟨o,es,ep,ho,r⟩,_⟩:=id I.loc;obtain⟨sl,hL⟩:=u.any ho I.free fun z=>(hch _ z).2.1 rfl;exact I.step (ch:=ch) hch (fun b o hL hb hc e n=>u.keep b o e n (fun z=>(Yau.mp (I.stkSub b z)).elim hL hb) hc) (fun b o _ _ hc e n=>u.any e n hc) (fun b o hc e n=>u.free b o e n hc) (fun b o hc e=>u.there b o e hc) u.tups u.frzs u.tbls (fun m' hm=>by
  obtain⟨o',es',ep',ho',r'⟩:=hm;rw[ho] at ho';cases ho';exact⟨_,es',ep',hL,r'⟩) hok hg
theorem Inv.turned {t':Nat}{it:Addr} (I:Inv X pins σ H s) (k:∀ b o,b≠it->s.heap.get? b=some o->h'.get? b=some o) (hn:H it=none) (hL:it≠X.env.locals)
  (h1:it∈X.ex∨X.s₀.heap.objs.size<=it) (h2:∀ x c,X.env.cells.lookup x=some c->c≠it) (h3:∀ p∈X.pn++pins,p.1≠it):Inv X pins σ H { s with heap:=h',toks:=t' }:=by
 have nit:∀ b u,H b=some u->b≠it:=fun b u e z=>by rw[z,hn] at e;cases e
 refine I.step (g':=s.gens) (d':=s.drawn) (ch:=[it]) (fun b hb=>?_) (fun b o _ _ hc e _=>k b o (fun z=>hc (by simp[z])) e) (fun b o _ _ hc e _=>⟨o.slots,k b o (fun z=>hc (by simp[z])) e⟩) (fun _ _ _ _ n=>n)
  (fun b o hc e=>⟨o,k b o (fun z=>hc (by simp[z])) e⟩) (fun _ _ e=>e) (fun _ _ _ e=>e) (fun b ps e=>⟨#[],by rw[e];simp⟩) (fun m hm=>?_) (fun b u e=>?_) I.bare
 ·have e:b=it:=by simpa using hb
  subst e;exact⟨h1,hL,h2,h3⟩
 ·obtain⟨o,es,ep,ho,r⟩:=hm;exact⟨o,es,ep,k _ o (Yba hL) ho,r⟩
 ·refine (I.hok b u e).stay (fun c v hc q=>k c v ?_ q) (fun _ q=>q) fun _ _ q=>q;rcases hc with z | z
  ·rw[z];exact nit b u e
  ·exact nit c _ z
theorem Inv.tok (I:Inv X pins σ H s) (t:Nat):Inv X pins σ H { s with toks:=t }:=I.un (h':=s.heap) (t':=t) Un.refl I.hok
theorem Inv.kept {t':Nat} (I:Inv X pins σ H s) (k:∀ b u,s.heap.get? b=some u->h'.get? b=some u):Inv X pins σ H { s with heap:=h',toks:=t' }:=I.un (Un.kept k) (I.hok.kept k)
theorem Inv.laid {a:Addr}{o:HO}{t':Nat} (I:Inv X pins σ H s) (k:∀ b u,s.heap.get? b=some u->h'.get? b=some u) (hp:s.heap.objs.size<=a) (new:ObjOk X.prog X.w (upd H a o) h' a o) :
  Inv X pins σ (upd H a o) { s with heap:=h',toks:=t' }:=I.un (Un.laid k hp (I.hok.fresh hp)) (I.hok.laid k hp new)
theorem Inv.write {x e:Addr}{o:HO}{t':Nat} (I:Inv X pins σ H s) (mu:Mut (H x)) (he:e=x∨H e=some (.own x)) (k:∀ b u,b≠e->s.heap.get? b=some u->h'.get? b=some u) (heo:∃ u,h'.get? e=some u)
  (new:ObjOk X.prog X.w (upd H x o) h' x o):Inv X pins σ (upd H x o) { s with heap:=h',toks:=t' }:=I.un (Un.write mu he k heo) (I.hok.write mu he k heo new)
theorem Inv.weak {σ':List (Option V)} (I:Inv X pins σ H s) (hl:σ'.length=σ.length) (w:∀ (i:Nat) v,σ'[i]?=some (some v)->σ[i]?=some (some v)):Inv X pins σ' H s :=
 ⟨I.ok,I.os,I.bare,I.base,let ⟨m,hn,hl'⟩:=I.loc;⟨m,hn,fun i x v e1 e2 e3=>hl' i x v e1 (w i v e2) e3⟩,I.cell,I.free,I.freeC,I.pin,I.hok,hl.trans I.len⟩
theorem Inv.pins_of {pins':List (Addr × Obj)} (I:Inv X pins σ H s) (h:∀ p∈pins',s.heap.get? p.1=some p.2/\H p.1=none/\p.1≠X.env.locals/\p.1 ∉ X.fs/\∀ v,p.2.data≠.cell v):Inv X pins' σ H s :=
 ⟨I.ok,I.os,I.bare,I.base,I.loc,I.cell,I.free,I.freeC,fun p hp=>(Yap.mp hp).elim (fun z=>I.pin p (YaM _ z)) (h p),I.hok,I.len⟩
theorem Zgs {N:List Str} (hN:N.Nodup) {i j:Nat}{x:Str} (a:N[i]?=some x) (b:N[j]?=some x):i=j:=by
 obtain⟨h1,e1⟩:=Yaa.mp a;obtain⟨h2,e2⟩:=Yaa.mp b;exact (Ye8 hN).mp (e1.trans e2.symm)
theorem ZcM {M:Model}{A:Around}{E:Value->Shared->Prop}{i:Nat}{x:Str}{v:V}{u:Value}{Q:Unit->Shared->Prop} (I:Inv X pins σ H s) (hN:X.N.Nodup) (hi:X.N[i]?=some x) (hx:Loc X.env.scope x) (r:RelV v u)
  (h:∀ s',Inv X pins (σ.set i (some v)) H s'->(∃ a,YcL a s.heap s'.heap/\(a=X.env.locals∨X.env.cells.lookup x=some a))->Q () s') (hf:X.fn x=true∨X.env.scope.names.lookup x=some .local:=by first | exact .inl rfl | exact .inr rfl | assumption):wpAny M A (storeName X.env x u) Q E s:=by
 obtain⟨m,hn,hl⟩:=id I.loc;have hcls:(X.env.scope.kind == .class || (X.env.scope.kind == .module && X.env.locals != X.env.globals))=false:=by rw[I.ok.kind];rfl
 have hiσ:i<σ.length:=by rw[I.len];exact (Yaa.mp hi).1
 have cne:=I.cne;have tracked:∀ {a:Addr}{h':Heap},(∃ o,s.heap.get? a=some o/\H a=none)->YcL a s.heap h'->HOk X.prog X.w H h':=fun {a h'} ha hs b ob e=>by
  obtain⟨_,_,hfree⟩:=ha;refine (I.hok b ob e).stay (fun c w' hc q=>(hs.2 c ?_).trans q) (fun _ q=>q) fun _ _ q=>q;rintro rfl;rcases hc with rfl | hc
  ·rw[hfree] at e;cases e
  ·rw[hfree] at hc;cases hc
 rcases hx with hk | hk
 ·refine wpAny_storeName_local hk hn (fun h' hn' hs=>?_) hcls;obtain⟨oL,_,_,hoL,_⟩:=id hn;refine h _ ⟨I.ok,I.os,I.bare,⟨fun b o e n hb hx=>?_,fun b o e n hb hx=>?_,I.base.free,fun b o e hx=>?_,I.base.tups,I.base.frzs,I.base.tbls⟩,⟨_,hn',fun j y v' e1 e2 e3=>?_⟩,fun y c e=>?_,I.free,I.freeC,fun p hp=>?_,tracked ⟨oL,hoL,I.free⟩ hs,by simpa using I.len⟩ ⟨_,hs,.inl rfl⟩
  ·exact (hs.2 b (YaB (Yak (Yah e) I.ok.above))).trans (I.base.keep b o e n hb hx)
  ·obtain⟨sl,e1⟩:=I.base.slot b o e n hb hx;exact⟨sl,(hs.2 b (YaB (Yak (Yah e) I.ok.above))).trans e1⟩
  ·obtain⟨o',e1⟩:=I.base.there b o e hx;exact⟨o',(hs.2 b (YaB (Yak (Yah e) I.ok.above))).trans e1⟩
  ·by_cases hj:j=i
   ·subst hj;rw[hi] at e1;cases e1;rw[Yc6 hiσ] at e2;cases e2;exact⟨u,r,.inl ⟨hk,by simp⟩⟩
   ·rw[YaX (Yba hj)] at e2;obtain⟨u',r',q⟩:=hl j y v' e1 e2 e3;refine⟨u',r',?_⟩;rcases q with ⟨k,e⟩ | ⟨k,c,e,z⟩
    ·refine .inl ⟨k,?_⟩;have:y≠x:=fun e=>hj (Zgs hN e1 (e ▸ hi));simp[this,e]
    ·exact .inr ⟨k,c,e,z.sameBut hs (cne y c e)⟩
  ·obtain⟨w',z⟩:=I.cell y c e;exact⟨w',z.sameBut hs (cne y c e)⟩
  ·obtain⟨e,n,ne,nf,d⟩:=I.pin p hp;exact⟨(hs.2 p.1 ne).trans e,n,ne,nf,d⟩
 ·have hfn:X.fn x=true:=by
   rcases hf with z | z
   ·exact z
   ·rw[z] at hk;cases hk
  obtain⟨c,hc⟩:=I.ok.has x (.inl hk);obtain⟨w',z⟩:=I.cell x c hc;refine wpAny_storeName_cell I.ok.kind hk hc z (fun h' hc' hs=>?_);obtain⟨oc,hoc,hocd⟩:=id z;refine h { s with heap:=h' } ⟨I.ok,I.os,I.bare,⟨fun b o e n hb hx=>?_,fun b o e n hb hx=>?_,I.base.free,fun b o e hx=>?_,I.base.tups,I.base.frzs,I.base.tbls⟩,⟨m,hn.sameBut hs (Yba (cne x c hc)),fun j y v' e1 e2 e3=>?_⟩,fun y c' e=>?_,I.free,I.freeC,fun p hp=>?_,tracked ⟨oc,hoc,I.freeC x c hc⟩ hs,by simpa using I.len⟩ ⟨c,hs,.inr hc⟩
  ·exact (hs.2 b (YaB (Yak (Yah e) (I.ok.cab x c hfn hc)))).trans (I.base.keep b o e n hb hx)
  ·obtain⟨sl,e1⟩:=I.base.slot b o e n hb hx;exact⟨sl,(hs.2 b (YaB (Yak (Yah e) (I.ok.cab x c hfn hc)))).trans e1⟩
  ·obtain⟨o',e1⟩:=I.base.there b o e hx;exact⟨o',(hs.2 b (YaB (Yak (Yah e) (I.ok.cab x c hfn hc)))).trans e1⟩
  ·by_cases hj:j=i
   ·subst hj;rw[hi] at e1;cases e1;rw[Yc6 hiσ] at e2;cases e2;exact⟨u,r,.inr ⟨.inl hk,c,hc,hc'⟩⟩
   ·rw[YaX (Yba hj)] at e2;obtain⟨u',r',q⟩:=hl j y v' e1 e2 e3;refine⟨u',r',?_⟩;rcases q with q | ⟨k,c',e,z'⟩
    ·exact .inl q
    ·refine .inr ⟨k,c',e,z'.sameBut hs ?_⟩;rintro rfl;exact hj (Zgs hN e1 (I.ok.inj _ _ _ e hc ▸ hi))
  ·by_cases hcc:c'=c
   ·subst hcc;exact⟨_,hc'⟩
   ·obtain⟨w2,z2⟩:=I.cell y c' e;exact⟨w2,z2.sameBut hs hcc⟩
  ·obtain⟨e,n,ne,nf,d⟩:=I.pin p hp;refine⟨(hs.2 p.1 ?_).trans e,n,ne,nf,d⟩;intro q;rw[q,hoc] at e;have q':oc=p.2:=Yaw e;exact d w' (by rw[<- q'];exact hocd)
theorem ZdW {M:Model}{A:Around}{E:Value->Shared->Prop}{i:Nat}{x:Str}{v:V}{u:Value}{Q:Unit->Shared->Prop} (I:Inv X pins σ H s) (hN:X.N.Nodup) (hi:X.N[i]?=some x) (hx:Loc X.env.scope x) (r:RelV v u)
  (h:∀ s',Inv X pins (σ.set i (some v)) H s'->Q () s') (hf:X.fn x=true∨X.env.scope.names.lookup x=some .local:=by first | exact .inl rfl | exact .inr rfl | assumption):wpAny M A (storeName X.env x u) Q E s :=
 ZcM I hN hi hx r (fun s' I' _=>h s' I') hf
theorem Inv.call' {s':Shared}{ch:List Addr} (I:Inv X pins σ H s) (ho:s'.os=s.os) (u:Un (frs X.stack) ch H H' s.heap s'.heap) (hok:HOk X.prog X.w H' s'.heap) (hg:AllBare s'.gens)
  (hch:∀ b∈ch,(b∈X.ex∨X.s₀.heap.objs.size<=b)/\b≠X.env.locals/\(∀ x c,X.env.cells.lookup x=some c->c≠b)/\∀ p∈X.pn++pins,p.1≠b):Inv X pins σ H' s':=by
 obtain⟨h',g',d',t',o'⟩:=s';have e:o'=s.os:=ho;subst e;exact I.call (g':=g') (t':=t') (d':=d') u hok hg hch
end
abbrev XK:=Value->Option Addr->Hp->Prop
abbrev St:=List (Option V)
abbrev VK:=V->Hp->Prop
abbrev TE:=St->Hp->VK->Prop
abbrev TT:=St->Hp->(Bool->Hp->Prop)->Prop
abbrev TA:=St->Hp->(List V->Hp->Prop)->Prop
structure Ends where
 nx:St->Hp->Prop
 rt:VK
 bk:St->Hp->Prop:=fun _ _=>False
 ct:St->Hp->Prop:=fun _ _=>False
abbrev TS:=Ends->St->Hp->Prop
def EP (X:Cx) (pins:List (Addr × Obj)) (σ:St) (Q:VK) (u:Value) (s':Shared):Prop:=∃ v H',Inv X pins σ H' s'/\RelV v u/\Q v H'
def TP (X:Cx) (pins:List (Addr × Obj)) (σ:St) (Q:Bool->Hp->Prop) (b:Bool) (s':Shared):Prop:=∃ H',Inv X pins σ H' s'/\Q b H'
def AP (X:Cx) (pins:List (Addr × Obj)) (σ:St) (Q:List V->Hp->Prop) (us:List Value) (s':Shared):Prop:=∃ vs H',Inv X pins σ H' s'/\Vals vs us/\Q vs H'
def SP (X:Cx) (pins:List (Addr × Obj)) (D:Ends) (f:Flow) (s':Shared):Prop :=
 match f with
 | .next=>∃ σ' H',Inv X pins σ' H' s'/\D.nx σ' H'
 | .brk=>∃ σ' H',Inv X pins σ' H' s'/\D.bk σ' H'
 | .cont=>∃ σ' H',Inv X pins σ' H' s'/\D.ct σ' H'
 | .ret u=>∃ v σ' H',Inv X pins σ' H' s'/\RelV v u/\D.rt v H'
def PE (X:Cx) (e:Expr) (t:TE):Prop :=
 ∀ (pins:List (Addr × Obj)) (s:Shared) (σ:St) (H:Hp) (Q:VK),Inv X pins σ H s->t σ H Q->wpAny (model X.prog X.w) X.A (eval e X.env) (EP X pins σ Q) X.xe s
def PT (X:Cx) (e:Expr) (t:TT):Prop :=
 ∀ (pins:List (Addr × Obj)) (s:Shared) (σ:St) (H:Hp) (Q:Bool->Hp->Prop),Inv X pins σ H s->t σ H Q->wpAny (model X.prog X.w) X.A (isTrue e X.env (eval e X.env)) (TP X pins σ Q) X.xe s
def PW (X:Cx) (e:Expr) (t:TT):Prop :=
 ∀ (whole:Sem Value) (pins:List (Addr × Obj)) (s:Shared) (σ:St) (H:Hp) (Q:Bool->Hp->Prop),Inv X pins σ H s->t σ H Q->wpAny (model X.prog X.w) X.A (isTrue e X.env whole) (TP X pins σ Q) X.xe s
theorem PW.pt {X:Cx}{e:Expr}{t:TT} (h:PW X e t):PT X e t:=h _
def PA (X:Cx) (es:List Expr) (t:TA):Prop :=
 ∀ (pos:Pos) (pins:List (Addr × Obj)) (s:Shared) (σ:St) (H:Hp) (Q:List V->Hp->Prop),Inv X pins σ H s->t σ H Q->wpAny (model X.prog X.w) X.A (spliced (backTo pos (starEach es X.env))) (AP X pins σ Q) X.xe s
def PS (X:Cx) (st:Stmt) (t:TS):Prop :=
 ∀ (pins:List (Addr × Obj)) (s:Shared) (σ:St) (H:Hp) (D:Ends),Inv X pins σ H s->t D σ H->wpAny (model X.prog X.w) X.A (exec st X.env) (SP X pins D) X.xe s
def PSs (X:Cx) (st:List Stmt) (t:TS):Prop :=
 ∀ (pins:List (Addr × Obj)) (s:Shared) (σ:St) (H:Hp) (D:Ends),Inv X pins σ H s->t D σ H->wpAny (model X.prog X.w) X.A (execs st X.env) (SP X pins D) X.xe s
theorem thn {α:Type}{t:Sem α}{Q Q':α->Shared->Prop}{M:Model}{A:Around}{E:Value->Shared->Prop}{s:Shared} (h:wpAny M A t Q E s) (hQ:∀ a s,Q a s->Q' a s):wpAny M A t Q' E s:=wpAny_mono h hQ fun _ _ x=>x
end L2
namespace L2
open PySem PySem.Spec PyProof.Rows
section
variable {X:Cx}
def tVar (i:Nat):TE:=fun σ H Q=>∃ v,σ[i]?=some (some v)/\Q v H
def tC (v:V):TE:=fun _ H Q=>Q v H
theorem ZkR {i:Nat}{x:Str}{pos:Pos} (hN:X.N[i]?=some x) (hv:Vis X.env.scope x) (hd:(x == ("__debug__":Str))=false:=by decide) (hcd:(x == ("__classdict__":Str))=false:=by decide):PE X (.Name x pos) (tVar i):=by
 intro pins s σ H Q I h;obtain⟨v,e,h⟩:=h;obtain⟨m,hn,hl⟩:=I.loc;obtain⟨u,r,l⟩:=hl i x v hN e hv;have fin:EP X pins σ Q u s:=⟨v,H,I,r,h⟩
 rcases l with ⟨hk,hm⟩ | ⟨hk,c,hc,hcell⟩
 ·exact wpAny_Name (wpAny_loadName_local I.ok.kind hk hn hm fin) hd
 ·rcases hk with hk | hk
  ·exact wpAny_Name (wpAny_loadName_cell I.ok.kind hk hc hcell fin) hd
  ·exact wpAny_Name (wpAny_loadName_free I.ok.kind hk hc hcell fin hcd) hd
theorem Zag {i j pos}:PE X (.Constant (.int i) j pos) (tC (.int i)):=fun _ _ _ H _ I h=>wpAny_Constant_int ⟨.int i,H,I.tok _,⟨_,rfl⟩,h⟩
theorem ZnG {b j pos}:PE X (.Constant (.bool b) j pos) (tC (.bl b)):=fun _ _ _ H _ I h=>Constant_bool ⟨.bl b,H,I,rfl,h⟩
theorem ZcS {j pos}:PE X (.Constant .none j pos) (tC .non):=fun _ _ _ H _ I h=>Constant_none ⟨.non,H,I,rfl,h⟩
def Gl (X:Cx) (x:Str):Prop:=X.env.kindOf x=some .globalImplicit
theorem ZiF {E:Value->Shared->Prop}{pins:List (Addr × Obj)}{s:Shared}{σ:St}{H:Hp}{x:Str}{u:Value}{pos:Pos}{Q:Value->Shared->Prop} (I:Inv X pins σ H s) (hg:Gl X x) (hm:X.mg x=some u) (h:Q u s)
  (hd:(x == ("__debug__":Str))=false:=by decide):wpAny (model X.prog X.w) X.A (eval (.Name x pos) X.env) Q E s :=
 YdV I.ok.kind hg (Calls.loadGlobal_global (by rw[I.ok.glob];exact I.mod.glob.keeps I.bk) hm h) hd
theorem ZdL {E:Value->Shared->Prop}{pins:List (Addr × Obj)}{s:Shared}{σ:St}{H:Hp}{x:Str}{u:Value}{pos:Pos}{Q:Value->Shared->Prop} (I:Inv X pins σ H s) (hg:Gl X x) (hm:X.mg x=none) (hv:bootBuiltins x=some u) (h:Q u s)
  (hn:x≠"__name__":=by decide) (hd:(x == ("__debug__":Str))=false:=by decide):wpAny (model X.prog X.w) X.A (eval (.Name x pos) X.env) Q E s:=by
 obtain⟨mb,h1,h2⟩:=I.mod.blt;exact YdV I.ok.kind hg (Calls.loadGlobal_builtin (by rw[I.ok.glob];exact I.mod.glob.keeps I.bk) hm (by rw[I.ok.blt];exact h1.keeps I.bk) ((h2 x hn).trans hv) h) hd
theorem Zh5 {x:Str}{v:V}{u:Value}{pos:Pos} (hg:Gl X x) (hm:X.mg x=some u) (r:RelV v u) (hd:(x == ("__debug__":Str))=false:=by decide):PE X (.Name x pos) (tC v) :=
 fun _ _ _ H _ I h=>ZiF I hg hm ⟨v,H,I,r,h⟩ hd
theorem ZlE {x:Str}{v:V}{u:Value}{pos:Pos} (hg:Gl X x) (hm:X.mg x=none) (hv:bootBuiltins x=some u) (r:RelV v u) (hn:x≠"__name__":=by decide) (hd:(x == ("__debug__":Str))=false:=by decide):PE X (.Name x pos) (tC v) :=
 fun _ _ _ H _ I h=>ZdL I hg hm hv ⟨v,H,I,r,h⟩ hn hd
variable {a b:Expr}{ta tb:TE}{pos:Pos}
def PC (X:Cx) (op:CmpOp) (a b:Expr) (t:TE):Prop :=
 ∀ (pins:List (Addr × Obj)) (s:Shared) (σ:St) (H:Hp) (Q:VK),Inv X pins σ H s->t σ H Q ->
  wpAny (model X.prog X.w) X.A (eval a X.env) (fun v s₁=>wpAny (model X.prog X.w) X.A (eval b X.env) (fun u s₂=>wpAny (model X.prog X.w) X.A (compareOp op v u) (EP X pins σ Q) X.xe s₂) X.xe s₁) X.xe s
theorem Zkj (b:Expr) {op:CmpOp} (h:op≠.In) (h2:op≠.NotIn):behindInMarks op b=false:=by
 have e1:(op == CmpOp.In)=false:=by cases op <;> first | rfl | exact absurd rfl h
 have e2:(op == CmpOp.NotIn)=false:=by cases op <;> first | rfl | exact absurd rfl h2
 cases b <;> simp[behindInMarks,e1,e2]
def tIsN (ta:TE):TE:=fun σ H Q=>ta σ H fun x H1=>Q (.bl (decide (x=.non))) H1
theorem RelV.none_iff {x:V}{v:Value} (r:RelV x v):(v == Ych)=decide (x=.non):=by
 cases x with
 | non=>cases r;rfl
 | bl _=>cases r;rfl
 | int _=>obtain⟨t,rfl⟩:=r;rfl
 | str _=>obtain⟨t,rfl⟩:=r;rfl
 | byt _=>obtain⟨t,rfl⟩:=r;rfl
 | flt _=>obtain⟨t,rfl⟩:=r;rfl
 | ref _=>cases r;rfl
 | ty _=>cases r;rfl
theorem ZmO {j pos'} (ha:PE X a ta):PC X .Is a (.Constant .none j pos') (tIsN ta):=by
 intro pins s σ H Q I h;refine thn (ha pins s σ H _ I h) fun v s1 ⟨x,H1,I1,r1,q1⟩=>?_;exact Constant_none (is_none_gen ⟨.bl _,H1,I1,by rw[r1.none_iff];rfl,q1⟩)
def tB (t:TE):TT:=fun σ H Q=>t σ H fun x H1=>∃ c,x=.bl c/\Q c H1
theorem ZmI {op:CmpOp}{t:TE} (h:PC X op a b t) (h1:behindInMarks op b=false:=by first | exact Zkj _ (by decide) (by decide) | rfl):PT X (.Compare a [op] [b] pos) (tB t):=by
 intro pins s σ H Q I hw;refine wpAny_isTrue_Compare1 (thn (h pins s σ H _ I hw) fun v s1 h1=>thn h1 fun u s2 h2=>thn h2 fun c s3 ⟨x,H1,I1,r1,q1⟩=>?_) h1;obtain⟨d,rfl,q⟩:=q1;cases r1;exact wpAny_truthy_bool ⟨H1,I1,q⟩
theorem Zgj {e:Expr}{t:TE} (h:PE X e t) (he:∀ whole,isTrue e X.env whole=(do let v <- whole;standAt e.pos;holding [v] (truthy v)):=by intro _;rfl):PT X e (tB t):=by
 intro pins s σ H Q I hw;refine isTrue_plain (thn (h pins s σ H _ I hw) fun v s1 ⟨x,H1,I1,r1,q1⟩=>?_) (he _);obtain⟨d,rfl,q⟩:=q1;cases r1;exact wpAny_truthy_bool ⟨H1,I1,q⟩
variable {tA tB':TT}{rest:List Expr}
def tAnd (t u:TT):TT:=fun σ H Q=>t σ H fun c H1=>if c=true then u σ H1 Q else Q false H1
def tOr (t u:TT):TT:=fun σ H Q=>t σ H fun c H1=>if c=true then Q true H1 else u σ H1 Q
def tNot (t:TT):TT:=fun σ H Q=>t σ H fun c H1=>Q (!c) H1
theorem ZfC (ha:PT X a tA):PW X (.BoolOp .And [a] pos) tA:=by
 intro wh pins s σ H Q I h;refine isTrue_and (thn (ha pins s σ H Q I h) fun c s1 e=>?_)
 cases c with
 | true=>exact isTrue_and_nil e
 | false=>exact e
theorem ZeT (ha:PT X a tA):PW X (.BoolOp .Or [a] pos) tA:=by
 intro wh pins s σ H Q I h;refine isTrue_or (thn (ha pins s σ H Q I h) fun c s1 e=>?_)
 cases c with
 | false=>exact isTrue_or_nil e
 | true=>exact e
theorem ZhX (ha:PT X a tA) (hb:PW X (.BoolOp .And (b::rest) pos) tB'):PW X (.BoolOp .And (a::b::rest) pos) (tAnd tA tB'):=by
 intro wh pins s σ H Q I h;refine isTrue_and (thn (ha pins s σ H _ I h) fun c s1 ⟨H1,I1,q1⟩=>?_)
 cases c with
 | true=>exact hb wh pins s1 σ H1 Q I1 q1
 | false=>exact⟨H1,I1,q1⟩
theorem ZhW (ha:PT X a tA) (hb:PW X (.BoolOp .Or (b::rest) pos) tB'):PW X (.BoolOp .Or (a::b::rest) pos) (tOr tA tB'):=by
 intro wh pins s σ H Q I h;refine isTrue_or (thn (ha pins s σ H _ I h) fun c s1 ⟨H1,I1,q1⟩=>?_)
 cases c with
 | true=>exact⟨H1,I1,q1⟩
 | false=>exact hb wh pins s1 σ H1 Q I1 q1
theorem Zdy (ha:PT X a tA):PT X (.UnaryOp .Not a pos) (tNot tA):=by
 intro pins s σ H Q I h;exact isTrue_not (ha pins s σ H (fun c H1=>Q (!c) H1) I h)
def Znt (ta tb:TE):TE:=fun σ H Q=>ta σ H fun x H1=>∃ c,x=.bl c/\if c=true then tb σ H1 Q else Q (.bl false) H1
def tOrV (ta tb:TE):TE:=fun σ H Q=>ta σ H fun x H1=>∃ c,x=.bl c/\if c=true then Q (.bl true) H1 else tb σ H1 Q
def Znq (ta:TE):TE:=fun σ H Q=>ta σ H fun x H1=>∃ c,x=.bl c/\Q (.bl (!c)) H1
theorem ZkS {op}{t:TE} (h:PE X a t):PE X (.BoolOp op [a] pos) t:=fun pins s σ H Q I hw=>BoolOp_one (h pins s σ H Q I hw)
theorem ZmN (ha:PE X a ta) (hb:PE X (.BoolOp .And (b::rest) pos) tb):PE X (.BoolOp .And (a::b::rest) pos) (Znt ta tb):=by
 intro pins s σ H Q I h;refine BoolOp_and (thn (ha pins s σ H _ I h) fun v s1 ⟨x,H1,I1,r1,q1⟩=>?_);obtain⟨c,rfl,q1⟩:=q1;cases r1;refine wpAny_truthy_bool ?_
 cases c with
 | true=>exact hb pins s1 σ H1 Q I1 q1
 | false=>exact⟨.bl false,H1,I1,rfl,q1⟩
theorem ZnF (ha:PE X a ta) (hb:PE X (.BoolOp .Or (b::rest) pos) tb):PE X (.BoolOp .Or (a::b::rest) pos) (tOrV ta tb):=by
 intro pins s σ H Q I h;refine BoolOp_or (thn (ha pins s σ H _ I h) fun v s1 ⟨x,H1,I1,r1,q1⟩=>?_);obtain⟨c,rfl,q1⟩:=q1;cases r1;refine wpAny_truthy_bool ?_
 cases c with
 | false=>exact hb pins s1 σ H1 Q I1 q1
 | true=>exact⟨.bl true,H1,I1,rfl,q1⟩
theorem ZmL (ha:PE X a ta):PE X (.UnaryOp .Not a pos) (Znq ta):=by
 intro pins s σ H Q I h;refine UnaryOp_ (thn (ha pins s σ H _ I h) fun v s1 ⟨x,H1,I1,r1,q1⟩=>?_);obtain⟨c,rfl,q1⟩:=q1;cases r1;exact not_of (wpAny_truthy_bool ⟨.bl (!c),H1,I1,rfl,q1⟩)
def tIf (t:TT) (ta tb:TE):TE:=fun σ H Q=>t σ H fun c H1=>if c=true then ta σ H1 Q else tb σ H1 Q
theorem Zgp {c:Expr} (hc:PT X c tA) (ha:PE X a ta) (hb:PE X b tb):PE X (.IfExp c a b pos) (tIf tA ta tb):=by
 intro pins s σ H Q I h;refine wpAny_IfExp (thn (hc pins s σ H _ I h) fun d s1 ⟨H1,I1,q1⟩=>?_)
 cases d with
 | true=>exact ha pins s1 σ H1 Q I1 q1
 | false=>exact hb pins s1 σ H1 Q I1 q1
end
end L2
namespace L2
open PySem PySem.Spec PyProof.Rows
def SqL (K:Yac) (H:Hp) (a:Addr) (xs:List V):Prop :=
 Rd H a (.lst xs) ∨
  ∃ (o:Obj) (its:Array Value) (n:Nat),K.lookup a=some o/\o.cls=.type "list"/\o.dict=none/\o.data=.seq its n/\its.size<=sizeLine/\Vals xs its.toList
def SqT (K:Yac) (H:Hp) (a:Addr) (xs:List V):Prop :=
 Rd H a (.tup xs) ∨
  ∃ (o:Obj) (its:Array Value) (n:Nat),K.lookup a=some o/\o.cls=.type "tuple"/\o.data=.seq its n/\its.size<=sizeLine/\Vals xs its.toList
def absV:Value->Option V
 | .none=>some .non
 | .bool b=>some (.bl b)
 | .int i _=>some (.int i)
 | .str x _=>some (.str x)
 | .bytes b _=>some (.byt b)
 | .float b _=>some (.flt b)
 | .ref a=>some (.ref a)
 | .type n=>some (.ty n)
 | _=>none
theorem RelV.abs {x:V}{u:Value} (r:RelV x u):absV u=some x:=by
 cases x with
 | non=>cases r;rfl
 | bl _=>cases r;rfl
 | int _=>obtain⟨t,rfl⟩:=r;rfl
 | str _=>obtain⟨t,rfl⟩:=r;rfl
 | byt _=>obtain⟨t,rfl⟩:=r;rfl
 | flt _=>obtain⟨t,rfl⟩:=r;rfl
 | ref _=>cases r;rfl
 | ty _=>cases r;rfl
theorem RelV.inj {x y:V}{u:Value} (r:RelV x u) (q:RelV y u):x=y:=Yaw (r.abs.symm.trans q.abs)
theorem Vals.inj:∀ {xs ys:List V}{us:List Value},Vals xs us->Vals ys us->xs=ys
 | _,_,_,.nil,.nil=>rfl
 | _,_,_,.cons r t,.cons r' t'=>by rw[r.inj r',Vals.inj t t']
section
variable {X:Cx}{pins:List (Addr × Obj)}{σ:St}{H:Hp}{s:Shared}{a:Addr}{xs ys:List V}
theorem SqL.of {K:Yac} (h:H a=some (.lst xs)):SqL K H a xs:=.inl (.inl h)
theorem SqT.of {K:Yac} (h:H a=some (.tup xs)):SqT K H a xs:=.inl (.inl h)
theorem Inv.list (I:Inv X pins σ H s) (h:SqL X.K H a xs):∃ its:List Value,Vals xs its/\PlainL s.heap a its.toArray/\xs.length<=sizeLine:=by
 rcases h with h | ⟨o,its,n,hk,hc,hd,hs,hz,r⟩
 ·obtain⟨z,its,n,r,e⟩:=h.ok I.hok;exact⟨its,r,⟨_,n,e,rfl,rfl,rfl⟩,z⟩
 ·refine⟨its.toList,r,⟨o,n,I.kIn a o hk,hc,hd,by simpa using hs⟩,?_⟩;have e:=r.length;simp only[YaY] at e;omega
theorem Inv.tuple (I:Inv X pins σ H s) (h:SqT X.K H a xs):∃ its:List Value,Vals xs its/\IsTup s.heap a its.toArray/\xs.length<=sizeLine:=by
 rcases h with h | ⟨o,its,n,hk,hc,hs,hz,r⟩
 ·obtain⟨z,its,r,p⟩:=h.ok I.hok;exact⟨its,r,p.tup,z⟩
 ·refine⟨its.toList,r,⟨o,I.kIn a o hk,hc,n,by simpa using hs⟩,?_⟩;have e:=r.length;simp only[YaY] at e;omega
theorem Inv.list_inj (I:Inv X pins σ H s) (h:SqL X.K H a xs) (h':SqL X.K H a ys):xs=ys:=by
 obtain⟨its,r,⟨o,n,e,_,_,d⟩,_⟩:=I.list h;obtain⟨its',r',⟨o',n',e',_,_,d'⟩,_⟩:=I.list h';rw[e] at e';cases e';rw[d] at d';injection d' with d1 _;have:its=its':=by simpa using congrArg Array.toList d1
 subst this;exact r.inj r'
theorem Inv.tuple_inj (I:Inv X pins σ H s) (h:SqT X.K H a xs) (h':SqT X.K H a ys):xs=ys:=by
 obtain⟨its,r,⟨o,e,_,n,d⟩,_⟩:=I.tuple h;obtain⟨its',r',⟨o',e',_,n',d'⟩,_⟩:=I.tuple h';rw[e] at e';cases e';rw[d] at d';injection d' with d1 _;have:its=its':=by simpa using congrArg Array.toList d1
 subst this;exact r.inj r'
end
abbrev Cx.wish (X:Cx) (E:Value->Shared->Prop):Cx:={ X with xe:=E }
abbrev Cx.nox (X:Cx):Cx:=X.wish fun _ _=>False
theorem Cx.Ok.wish {X:Cx} (ok:X.Ok) (E:Value->Shared->Prop):(X.wish E).Ok :=
 ⟨ok.mod,ok.kind,ok.glob,ok.blt,ok.above,ok.inj,ok.has,ok.cab,ok.hd,ok.frames,ok.stk,ok.exf,ok.bs,ok.bsz,ok.noex,ok.exfs,ok.funs,ok.frf⟩
theorem Cx.Ok.unwish {X:Cx}{E:Value->Shared->Prop} (ok:(X.wish E).Ok):X.Ok :=
 ⟨ok.mod,ok.kind,ok.glob,ok.blt,ok.above,ok.inj,ok.has,ok.cab,ok.hd,ok.frames,ok.stk,ok.exf,ok.bs,ok.bsz,ok.noex,ok.exfs,ok.funs,ok.frf⟩
section
variable {X:Cx}{pins:List (Addr × Obj)}{σ:St}{H:Hp}{s:Shared}{E:Value->Shared->Prop}
theorem Inv.wish (I:Inv X pins σ H s) (E:Value->Shared->Prop):Inv (X.wish E) pins σ H s:=⟨I.ok.wish E,I.os,I.bare,I.base,I.loc,I.cell,I.free,I.freeC,I.pin,I.hok,I.len⟩
theorem Inv.unwish (I:Inv (X.wish E) pins σ H s):Inv X pins σ H s:=⟨I.ok.unwish,I.os,I.bare,I.base,I.loc,I.cell,I.free,I.freeC,I.pin,I.hok,I.len⟩
theorem SP.unwish {D:Ends}{f:Flow}{s':Shared} (h:SP (X.wish E) pins D f s'):SP X pins D f s':=by
 cases f with
 | next=>obtain⟨σ',H',I,q⟩:=h;exact⟨σ',H',I.unwish,q⟩
 | brk=>obtain⟨σ',H',I,q⟩:=h;exact⟨σ',H',I.unwish,q⟩
 | cont=>obtain⟨σ',H',I,q⟩:=h;exact⟨σ',H',I.unwish,q⟩
 | ret u=>obtain⟨v,σ',H',I,r,q⟩:=h;exact⟨v,σ',H',I.unwish,r,q⟩
theorem PSs.nox {st:List Stmt}{t:TS} (h:PSs X.nox st t):PSs X st t:=fun pins s σ H D I hw=>
 wpAny_mono (h pins s σ H D (I.wish _) hw) (fun _ _ q=>q.unwish) fun _ _ z=>Yck z
end
section
variable {X:Cx}{st:Stmt}{rest:List Stmt}{t u:TS}{e:Expr}{te:TE}{pos:Pos}
def Zmj:TS:=fun D σ H=>D.nx σ H
def tSeq (t u:TS):TS:=fun D σ H=>t { D with nx:=u D } σ H
theorem Zbn:PSs X [] Zmj:=fun _ _ σ H _ I h=>wpAny_execs_nil ⟨σ,H,I,h⟩
theorem Zah (h1:PS X st t) (h2:PSs X rest u):PSs X (st::rest) (tSeq t u):=by
 intro pins s σ H D I h;refine wpAny_execs_cons (thn (h1 pins s σ H { D with nx:=u D } I h) fun f s1 q=>?_)
 cases f with
 | next=>
  obtain⟨σ',H',I',q⟩:=q;exact h2 pins s1 σ' H' D I' q
 | ret v=>exact q
 | brk=>exact q
 | cont=>exact q
theorem Zam (h1:PS X st t):PSs X [st] t:=by
 intro pins s σ H D I h;refine wpAny_execs_cons (thn (h1 pins s σ H D I h) fun f s1 q=>?_)
 cases f with
 | next=>exact wpAny_execs_nil q
 | ret v=>exact q
 | brk=>exact q
 | cont=>exact q
theorem Inv.quiet {pins:List (Addr × Obj)}{σ:St}{H:Hp}{s:Shared} (I:Inv X pins σ H s):interactive X.env=false:=by simp[interactive,I.ok.kind]
def Znr (te:TE):TS:=fun D σ H=>te σ H fun _ H1=>D.nx σ H1
theorem ZaO (he:PE X e te) (hs:swapsWith e none pos.line X.env=pure false:=by rfl):PS X (.Expr e pos) (Znr te):=by
 intro pins s σ H D I h;exact wpAny_Expr_any (thn (he pins s σ H _ I h) fun v s1 ⟨x,H1,I1,r1,q1⟩=>⟨σ,H1,I1,q1⟩) I.quiet hs
def tRet (te:TE):TS:=fun D σ H=>te σ H D.rt
theorem Zaw (he:PE X e te):PS X (.Return (some e) pos) (tRet te):=by
 intro pins s σ H D I h;exact wpAny_Return_some (thn (he pins s σ H _ I h) fun v s1 ⟨x,H1,I1,r1,q1⟩=>⟨x,σ,H1,I1,r1,q1⟩)
def tIfS (c:TT) (t u:TS):TS:=fun D σ H=>c σ H fun b H1=>if b=true then t D σ H1 else u D σ H1
theorem ZeU {c:Expr}{a b:List Stmt}{tc:TT} (hc:PT X c tc) (ha:PSs X a t) (hb:PSs X b u):PS X (.If c a b pos) (tIfS tc t u):=by
 intro pins s σ H D I h;refine wpAny_If (thn (hc pins s σ H _ I h) fun d s1 ⟨H1,I1,q1⟩=>?_)
 cases d with
 | true=>exact ha pins s1 σ H1 D I1 q1
 | false=>exact hb pins s1 σ H1 D I1 q1
def Zmk:TS:=fun _ _ _=>False
theorem ZaX {sts:List Stmt}:PSs X sts Zmk:=fun _ _ _ _ _ _ h=>h.elim
end
abbrev TG:=V->St->Hp->(St->Hp->Prop)->Prop
abbrev TGs:=List V->St->Hp->(St->Hp->Prop)->Prop
def PG (X:Cx) (target:Expr) (t:TG):Prop :=
 ∀ (pins:List (Addr × Obj)) (s:Shared) (σ:St) (H:Hp) (v:V) (u:Value) (Q:St->Hp->Prop),Inv X pins σ H s->RelV v u->t v σ H Q ->
  wpAny (model X.prog X.w) X.A (assign target X.env u) (fun _ s'=>∃ σ' H',Inv X pins σ' H' s'/\Q σ' H') X.xe s
def PGs (X:Cx) (ts:List Expr) (t:TGs):Prop :=
 ∀ (pins:List (Addr × Obj)) (s:Shared) (σ:St) (H:Hp) (vs:List V) (us:List Value) (Q:St->Hp->Prop),Inv X pins σ H s->Vals vs us->t vs σ H Q ->
  wpAny (model X.prog X.w) X.A (assignInOrder ((assignEach ts X.env).map (·.2)) us) (fun _ s'=>∃ σ' H',Inv X pins σ' H' s'/\Q σ' H') X.xe s
abbrev TSet:=V->V->V->Hp->(Hp->Prop)->Prop
def PSet (X:Cx) (t:TSet):Prop :=
 ∀ (pins:List (Addr × Obj)) (s:Shared) (σ:St) (H:Hp) (o i v:V) (ov iv u:Value) (Q:Hp->Prop),Inv X pins σ H s->RelV o ov->RelV i iv->RelV v u->t o i v H Q ->
  wpAny (model X.prog X.w) X.A (setItem ov iv u) (fun _ s'=>∃ H',Inv X pins σ H' s'/\Q H') X.xe s
abbrev TIp:=V->V->Hp->VK->Prop
def PIp (X:Cx) (op:Operator) (t:TIp):Prop :=
 ∀ (pins:List (Addr × Obj)) (s:Shared) (σ:St) (H:Hp) (x y:V) (v u:Value) (Q:VK),Inv X pins σ H s->RelV x v->RelV y u->t x y H Q ->
  wpAny (model X.prog X.w) X.A (inplaceOp op v u) (EP X pins σ Q) X.xe s
section
variable {X:Cx}{pos:Pos}
def Zbc (i:Nat):TG:=fun v σ H Q=>Q (σ.set i (some v)) H
theorem Zak {i:Nat}{x:Str} (hN:X.N.Nodup) (hi:X.N[i]?=some x) (hx:Loc X.env.scope x) (hf:X.fn x=true∨X.env.scope.names.lookup x=some .local:=by first | exact .inl rfl | exact .inr rfl | assumption):PG X (.Name x pos) (Zbc i):=by
 intro pins s σ H v u Q I r h;exact wpAny_assign_Name (ZdW I hN hi hx r (fun s' I'=>⟨_,H,I',h⟩) hf)
def gNil:TGs:=fun vs σ H Q=>vs=[]/\Q σ H
def Zc0 (t:TG) (u:TGs):TGs:=fun vs σ H Q=>∃ v r,vs=v::r/\t v σ H fun σ' H'=>u r σ' H' Q
theorem ZaH:PGs X [] gNil:=by
 intro pins s σ H vs us Q I r h;obtain⟨e,h⟩:=h;subst e;cases r;exact assignInOrder_nil ⟨σ,H,I,h⟩
theorem Zap {e:Expr}{es:List Expr}{t:TG}{u:TGs} (h1:PG X e t) (h2:PGs X es u)
  (hs:(assignEach (e::es) X.env).map (·.2)=assign e X.env::(assignEach es X.env).map (·.2):=by rfl):PGs X (e::es) (Zc0 t u):=by
 intro pins s σ H vs us Q I r h;obtain⟨v,vr,e1,h⟩:=h;subst e1
 cases r with
 | cons r rr=>
  rw[hs];refine assignInOrder_cons (thn (h1 pins s σ H _ _ _ I r h) fun _ s1 ⟨σ1,H1,I1,q1⟩=>?_);exact h2 pins s1 σ1 H1 _ _ Q I1 rr q1
def gTup (K:Yac) (n:Nat) (t:TGs):TG:=fun v σ H Q=>∃ a xs,v=.ref a/\SqT K H a xs/\xs.length=n/\t xs σ H Q
theorem ZbF {es:List Expr}{k:Nat}{t:TGs}{n:Nat} (hc:X.calm=true) (h:PGs X es t)
  (hn:(assignEach es X.env).length=n:=by rfl) (hst:(assignEach es X.env).findIdx? (·.1)=none:=by rfl):PG X (.Tuple es k pos) (gTup X.K n t):=by
 intro pins s σ H v u Q I r hw;obtain⟨a,xs,e1,hq,hl,hw⟩:=hw;subst e1;cases r;obtain⟨its,rv,ht,hz⟩:=I.tuple hq;refine assign_Tuple_tuple (I.ok.hd hc) ht (by simp[hn,<- hl,rv.length]) hst fun h' hx=>?_;have I1:Inv X pins σ H { s with heap:=h' }:=I.kept (t':=s.toks) fun b o e=>hx b o (YaB (Yah e)) e;exact h pins _ σ H xs _ Q I1 (by simpa using rv) hw
def gSub (to ti:TE) (t:TSet):TG:=fun v σ H Q=>to σ H fun o H1=>ti σ H1 fun i H2=>t o i v H2 fun H3=>Q σ H3
theorem Zh1 {o i:Expr}{to ti:TE}{t:TSet} (ho:PE X o to) (hi:PE X i ti) (hs:PSet X t)
  (ha:∀ v,assign (.Subscript o i pos) X.env v=(do
   let ov <- holding [v] (eval o X.env)
   let iv <- holding [v,ov] (eval i X.env)
   standAt pos
   holding [v,ov,iv] (setItem ov iv v)
   release [v,ov,iv] []):=by intro _;rfl):PG X (.Subscript o i pos) (gSub to ti t):=by
 intro pins s σ H v u Q I r h;rw[ha];refine wpAny_bind (wpAny_holding (thn (ho pins s σ H _ I h) fun ov s1 ⟨x,H1,I1,r1,q1⟩=>?_));refine wpAny_bind (wpAny_holding (thn (hi pins s1 σ H1 _ I1 q1) fun iv s2 ⟨y,H2,I2,r2,q2⟩=>?_));refine wpAny_bind (wpAny_standAt (wpAny_bind (wpAny_holding (thn (hs pins s2 σ H2 x y v ov iv u _ I2 r1 r2 r q2) fun _ s3 ⟨H3,I3,q3⟩=>?_))));exact wpAny_release ⟨σ,H3,I3,q3⟩
def tAsg (te:TE) (g:TG):TS:=fun D σ H=>te σ H fun x H1=>g x σ H1 D.nx
theorem Zdz {tg e:Expr}{te:TE}{g:TG} (he:PE X e te) (hg:PG X tg g) (hs:swapsWithSole [tg] e pos.line X.env=pure false:=by rfl) (hw:swappedStores [tg] e X.env=pure none:=by rfl)
  (h1:(assignEach [tg] X.env).map (·.2)=[assign tg X.env]:=by rfl):PS X (.Assign [tg] e pos) (tAsg te g):=by
 intro pins s σ H D I h;refine wpAny_Assign_stores (thn (he pins s σ H _ I h) fun v s1 ⟨x,H1,I1,r1,q1⟩=>?_) hs hw;rw[h1];exact thn (hg pins s1 σ H1 x v _ I1 r1 q1) fun _ s2 q=>q
theorem Zaq {i:Nat}{x:Str}{e:Expr}{te:TE}{pos':Pos} (hN:X.N.Nodup) (hi:X.N[i]?=some x) (hx:Loc X.env.scope x) (he:PE X e te) (hs:swapsWith e (some (.Name x pos')) pos.line X.env=pure false:=by rfl) (hf:X.fn x=true∨X.env.scope.names.lookup x=some .local:=by first | exact .inl rfl | exact .inr rfl | assumption) :
  PS X (.Assign [.Name x pos'] e pos) (tAsg te (Zbc i)):=by
 intro pins s σ H D I h;refine wpAny_Assign_Name (thn (he pins s σ H _ I h) fun v s1 ⟨y,H1,I1,r1,q1⟩=>?_) hs;exact ZdW I1 hN hi hx r1 (fun s2 I2=>⟨_,H1,I2,q1⟩) hf
def tAug (i:Nat) (te:TE) (ti:TIp):TS:=fun D σ H=>∃ x,σ[i]?=some (some x)/\te σ H fun y H1=>ti x y H1 fun z H2=>D.nx (σ.set i (some z)) H2
theorem ZkP {i:Nat}{x:Str}{e:Expr}{te:TE}{op:Operator}{ti:TIp}{pos':Pos} (hN:X.N.Nodup) (hi:X.N[i]?=some x) (hx:Loc X.env.scope x) (he:PE X e te) (ho:PIp X op ti) (hf:X.fn x=true∨X.env.scope.names.lookup x=some .local:=by first | exact .inl rfl | exact .inr rfl | assumption) :
  PS X (.AugAssign (.Name x pos') op e pos) (tAug i te ti):=by
 intro pins s σ H D I h;obtain⟨v,e1,h⟩:=h;obtain⟨m,hn,hl⟩:=I.loc;have vis:Vis X.env.scope x:=by rcases hx with k | k;exact .inl k;exact .inr (.inl k)
 obtain⟨u,r,l⟩:=hl i x v hi e1 vis;refine wpAny_AugAssign_Name ?_;have go:wpAny (model X.prog X.w) X.A (eval e X.env) (fun w s₂=>wpAny (model X.prog X.w) X.A (inplaceOp op u w) (fun r s₃=>wpAny (model X.prog X.w) X.A (storeName X.env x r) (fun _=>SP X pins D .next) X.xe s₃) X.xe s₂) X.xe s:=by
  refine thn (he pins s σ H _ I h) fun w s1 ⟨y,H1,I1,r1,q1⟩=>?_;refine thn (ho pins s1 σ H1 v y u w _ I1 r r1 q1) fun z s2 ⟨zv,H2,I2,r2,q2⟩=>?_;exact ZdW I2 hN hi hx r2 (fun s3 I3=>⟨_,H2,I3,q2⟩) hf
 rcases l with ⟨hk,hm⟩ | ⟨hk,c,hc,hcell⟩
 ·exact wpAny_loadName_local I.ok.kind hk hn hm go
 ·rcases hk with hk | hk
  ·exact wpAny_loadName_cell I.ok.kind hk hc hcell go
  ·rcases hx with k | k
   ·have:X.env.scope.names.lookup x=some .free:=hk;rw[k] at this;cases this
   ·have:X.env.scope.names.lookup x=some .free:=hk;rw[k] at this;cases this
def ipI (f:Int->Int->Int):TIp:=fun x y H Q=>∃ i j,x=.int i/\y=.int j/\Q (.int (f i j)) H
theorem Zm6:PIp X .Add (ipI fun i j=>i+j):=by
 intro pins s σ H x y v u Q I r1 r2 h;obtain⟨i,j,e1,e2,q⟩:=h;subst e1;subst e2;obtain⟨t,rfl⟩:=r1;obtain⟨t',rfl⟩:=r2;exact iadd_int ⟨.int _,H,I.tok _,⟨_,rfl⟩,q⟩
theorem Zm5:PIp X .Sub (ipI fun i j=>i - j):=by
 intro pins s σ H x y v u Q I r1 r2 h;obtain⟨i,j,e1,e2,q⟩:=h;subst e1;subst e2;obtain⟨t,rfl⟩:=r1;obtain⟨t',rfl⟩:=r2;exact isub_int ⟨.int _,H,I.tok _,⟨_,rfl⟩,q⟩
end
section
variable {X:Cx}{pos:Pos}
def Zmh (c:TT) (tb:TS):TS:=fun D σ H=>∃ W:Nat->St->Hp->Prop,(∃ m,W m σ H)/\∀ m σ H,W m σ H ->
 c σ H fun b H1=>if b=true then ∃ N:St->Hp->Prop,(∀ σ' H',N σ' H'->∃ m',m'<m/\W m' σ' H')/\tb { D with nx:=N,ct:=N,bk:=D.nx } σ H1 else D.nx σ H1
theorem Zgl {c:Expr}{body:List Stmt}{tc:TT}{tb:TS} (hp:PassesOwn (model X.prog X.w) X.A X.env X.xe) (hc:PT X c tc) (hb:PSs X body tb):PS X (.While c body [] pos) (Zmh tc tb):=by
 intro pins s σ H D I h;obtain⟨W,⟨m0,w0⟩,turn⟩:=h;refine wpAny_While (codeAny_whileLoop (fun n s'=>∃ σ' H',Inv X pins σ' H' s'/\W n σ' H') ?_ m0 ⟨σ,H,I,w0⟩);rintro n s1 ⟨σ1,H1,I1,w1⟩;refine wpAny_passesOwn hp (thn (hc pins s1 σ1 H1 _ I1 (turn n σ1 H1 w1)) fun b s2 ⟨H2,I2,q2⟩=>?_)
 cases b with
 | true=>
  obtain⟨N,hN,q2⟩:=q2;rw[if_pos rfl];refine wpAny_passesOwn hp (thn (hb pins s2 σ1 H2 _ I2 q2) fun f s3 q3=>?_)
  cases f with
  | next=>
   obtain⟨σ3,H3,I3,n3⟩:=q3;obtain⟨m',hm,w3⟩:=hN σ3 H3 n3;exact⟨m',hm,σ3,H3,I3,w3⟩
  | cont=>
   obtain⟨σ3,H3,I3,n3⟩:=q3;obtain⟨m',hm,w3⟩:=hN σ3 H3 n3;exact⟨m',hm,σ3,H3,I3,w3⟩
  | brk=>exact q3
  | ret v=>exact q3
 | false=>
  rw[if_neg YaO];exact wpAny_execs_nil ⟨σ1,H2,I2,q2⟩
end
structure It where
 go:Nat->Hp->Prop
 yld:Nat->Hp->V->Hp->Prop
 stop:Nat->Hp->Prop
def FpOk (X:Cx) (pins:List (Addr × Obj)) (H:Hp) (b:Addr):Prop :=
 H b=none/\b≠X.env.locals/\b ∉ X.fs/\(b∈X.ex∨X.s₀.heap.objs.size<=b)/\(∀ x c,X.env.cells.lookup x=some c->c≠b)/\∀ p∈X.pn++pins,p.1≠b
theorem Inv.fpOk {X:Cx}{pins:List (Addr × Obj)}{σ:St}{H H':Hp}{s:Shared}{b:Addr} (I:Inv X pins σ H s) (hb:s.heap.objs.size<=b) (hn:H' b=none):FpOk X pins H' b:=by
 refine⟨hn,Yby (Yak I.lt hb),I.nofs hb,.inr (Ybt I.sz hb),fun x c e z=>?_,fun p hp z=>?_⟩
 ·obtain⟨v,q⟩:=I.cell x c e;exact absurd (Yak q.lt (by rw[z];exact hb)) (Ybb _)
 ·exact absurd (Yak (Yah (I.pin p hp).1) (by rw[z];exact hb)) (Ybb _)
structure Turn (P:Program) (w:World) (K:Yac) (tg:Expr) (J:It) (fp:List Addr) (it:Addr) (tn:Nat->Heap->Prop):Prop where
 mem:it∈fp
 obj:∀ i h,tn i h->∀ b∈fp,∃ o,h.get? b=some o/\∀ v,o.data≠.cell v
 keep:∀ i h h',tn i h->(∀ b∈fp,∀ o,h.get? b=some o->h'.get? b=some o)->tn i h'
 item:∀ (X:Cx),X.prog=P->X.w=w->X.K=K->X.calm=true->∀ (i:Nat) (pins:List (Addr × Obj)) (s:Shared) (σ:St) (H:Hp) (E:Value->Shared->Prop),Inv X pins σ H s->(∀ b∈fp,FpOk X pins H b)->tn i s.heap->J.go i H ->
  wpAny (model P w) X.A (pyNext (.ref it)) (fun r s1=>∃ u,r=some u /\
   wpAny (model P w) X.A (letOwnedTupleGo tg (.ref it) u) (fun _ s2=>∃ x H',Inv X pins σ H' s2/\RelV x u/\J.yld i H x H'/\tn (i+1) s2.heap/\∀ b∈fp,H' b=none) E s1) E s
 done:∀ (X:Cx),X.prog=P->X.w=w->X.K=K->X.calm=true->∀ (i:Nat) (pins:List (Addr × Obj)) (s:Shared) (σ:St) (H:Hp) (E:Value->Shared->Prop),Inv X pins σ H s->(∀ b∈fp,FpOk X pins H b)->tn i s.heap->J.stop i H ->
  wpAny (model P w) X.A (pyNext (.ref it)) (fun r s1=>r=none/\Inv X pins σ H s1) E s
 self:∀ (A:Around) (i:Nat) (s:Shared) (Q:Value->Shared->Prop) (E:Value->Shared->Prop),tn i s.heap->Q (.ref it) s->wpAny (model P w) A (pyIter (.ref it)) Q E s
abbrev TI:=St->Hp->(It->Hp->Prop)->Prop
def PIE (X:Cx) (pins:List (Addr × Obj)) (σ:St) (tg:Expr) (R:It->Hp->Prop) (itv:Value) (s2:Shared):Prop :=
 ∃ (it:Addr) (fp:List Addr) (tn:Nat->Heap->Prop) (J:It) (H':Hp),itv=.ref it/\Inv X pins σ H' s2/\Turn X.prog X.w X.K tg J fp it tn/\tn 0 s2.heap/\(∀ b∈fp,FpOk X pins H' b)/\R J H'
def PI (X:Cx) (tg iter:Expr) (wi:TI):Prop :=
 ∀ (pins:List (Addr × Obj)) (s:Shared) (σ:St) (H:Hp) (R:It->Hp->Prop),Inv X pins σ H s->wi σ H R ->
  wpAny (model X.prog X.w) X.A (eval iter X.env) (fun v s1=>wpAny (model X.prog X.w) X.A (pyIter v) (PIE X pins σ tg R) X.xe s1) X.xe s
theorem ZlZ {M:Model}{A:Around}{E:Value->Shared->Prop}{s:Shared}{tg:Expr}{it:Addr}{u:Value}{o:Obj}{n:String}{vs:Array Value}{Q:Unit->Shared->Prop} (ho:s.heap.get? it=some o) (hc:o.cls=.type n) (hd:o.data=.fields vs)
    (hn:["enumerate","zip","dict_itemiterator","dict_reverseitemiterator","odict_iterator","itertools.zip_longest","itertools.pairwise"].contains n=false) (hQ:Q () s):wpAny M A (letOwnedTupleGo tg (.ref it) u) Q E s:=by
  unfold letOwnedTupleGo;cases tg <;> first
    | exact wpAny_pure hQ
    | (cases u <;> first
        | exact wpAny_pure hQ
        | (refine wpAny_bind (wpAny_load ho ?_)
           rw[hc,hd];show wpAny M A (if (["enumerate","zip","dict_itemiterator","dict_reverseitemiterator","odict_iterator","itertools.zip_longest","itertools.pairwise"].contains n && vs[0]? == some (rawInt _))=true then _ else _) Q E s;rw[if_neg (by intro h;rw[hn,Bool.false_and] at h;cases h)];exact wpAny_pure hQ))
def Itl (K:Yac) (a:Addr):It :=
 ⟨fun i H=>∃ xs x,SqL K H a xs/\xs[i]?=some x,fun i H x H'=>H'=H/\∀ xs,SqL K H a xs->xs[i]?=some x,fun i H=>∃ xs,SqL K H a xs/\xs.length<=i⟩
def Itt (K:Yac) (a:Addr):It :=
 ⟨fun i H=>∃ xs x,SqT K H a xs/\xs[i]?=some x,fun i H x H'=>H'=H/\∀ xs,SqT K H a xs->xs[i]?=some x,fun i H=>∃ xs,SqT K H a xs/\xs.length<=i⟩
def Itr (lo:Int) (n:Nat):It:=⟨fun i _=>i<n,fun i H x H'=>H'=H/\x=.int (lo+i),fun i _=>n<=i⟩
theorem ZeI {P:Program}{w:World}{K:Yac}{tg:Expr} (a it:Addr):Turn P w K tg (Itl K a) [it] it (fun i h=>h.IsListIter it a i) where
 mem:=by simp
 obj:=fun i h st b hb=>by
  have e:b=it:=by simpa using hb
  subst e;obtain⟨o,e,c,d⟩:=st;exact⟨o,e,fun v z=>by rw[d] at z;cases z⟩
 keep:=fun i h h' st k=>st.at fun o e=>k it (by simp) o e
 item:=by
  intro X hP hw hK hc i pins s σ H E I hf st hg;subst hP hw hK;obtain⟨xs,x,hq,hx⟩:=hg;obtain⟨its,rv,p,hz⟩:=I.list hq;obtain⟨u,hu,ru⟩:=rv.get hx;obtain⟨f0,f1,f2,f3,f4,f5⟩:=hf it (by simp);refine wpAny_pyNext_list_item st p.isList (x:=u) (by simpa using hu) fun h' st' sb=>?_;have I1:Inv X pins σ H { s with heap:=h' }:=I.turned (t':=s.toks) (fun b o hb e=>(sb.2 b hb).trans e) f0 f1 f3 f4 f5;obtain⟨o,e,c,d⟩:=id st';exact⟨u,rfl,ZlZ (s:={ s with heap:=h' }) e c d (by decide) ⟨x,H,I1,ru,⟨rfl,fun ys hy=>by rw[I.list_inj hy hq];exact hx⟩,st',fun b hb=>(hf b hb).1⟩⟩
 done:=by
  intro X hP hw hK hc i pins s σ H E I hf st hg;subst hP hw hK;obtain⟨xs,hq,hx⟩:=hg;obtain⟨its,rv,p,hz⟩:=I.list hq;obtain⟨f0,f1,f2,f3,f4,f5⟩:=hf it (by simp);have hl:=rv.length;exact wpAny_pyNext_list_end (I.ok.hd hc) st p.isList (by simp;(clear f3 f2 f1 hz;omega)) fun h' eb=>⟨rfl,I.turned (t':=s.toks) (fun b o hb e=>eb b o hb e) f0 f1 f3 f4 f5⟩
 self:=fun _ _ _ _ _ st h=>wpAny_pyIter_listiter st h
theorem Zdh {P:Program}{w:World}{K:Yac}{tg:Expr} (a it:Addr):Turn P w K tg (Itt K a) [it] it (fun i h=>h.IsTupleIter it a i) where
 mem:=by simp
 obj:=fun i h st b hb=>by
  have e:b=it:=by simpa using hb
  subst e;obtain⟨o,e,c,d⟩:=st;exact⟨o,e,fun v z=>by rw[d] at z;cases z⟩
 keep:=fun i h h' st k=>st.at fun o e=>k it (by simp) o e
 item:=by
  intro X hP hw hK hc i pins s σ H E I hf st hg;subst hP hw hK;obtain⟨xs,x,hq,hx⟩:=hg;obtain⟨its,rv,p,hz⟩:=I.tuple hq;obtain⟨u,hu,ru⟩:=rv.get hx;obtain⟨f0,f1,f2,f3,f4,f5⟩:=hf it (by simp);refine wpAny_pyNext_tuple_item st (show s.heap.IsTuple a its.toArray from p) (x:=u) (by simpa using hu) fun h' st' sb=>?_;have I1:Inv X pins σ H { s with heap:=h' }:=I.turned (t':=s.toks) (fun b o hb e=>(sb.2 b hb).trans e) f0 f1 f3 f4 f5;obtain⟨o,e,c,d⟩:=id st';exact⟨u,rfl,ZlZ (s:={ s with heap:=h' }) e c d (by decide) ⟨x,H,I1,ru,⟨rfl,fun ys hy=>by rw[I.tuple_inj hy hq];exact hx⟩,st',fun b hb=>(hf b hb).1⟩⟩
 done:=by
  intro X hP hw hK hc i pins s σ H E I hf st hg;subst hP hw hK;obtain⟨xs,hq,hx⟩:=hg;obtain⟨its,rv,p,hz⟩:=I.tuple hq;obtain⟨f0,f1,f2,f3,f4,f5⟩:=hf it (by simp);have hl:=rv.length;exact wpAny_pyNext_tuple_end (I.ok.hd hc) st (show s.heap.IsTuple a its.toArray from p) (by simp;(clear f3 f2 f1 hz;omega)) fun h' eb=>⟨rfl,I.turned (t':=s.toks) (fun b o hb e=>eb b o hb e) f0 f1 f3 f4 f5⟩
 self:=fun _ _ _ _ _ st h=>wpAny_pyIter_tupleiter st h
theorem ZgQ {P:Program}{w:World}{K:Yac}{tg:Expr} (it:Addr) (lo:Int) (n:Nat):Turn P w K tg (Itr lo n) [it] it (fun i h=>IsRangeIter h it (lo+(i:Nat)*1) ((n:Int) - (i:Nat)) 1) where
 mem:=by simp
 obj:=fun i h st b hb=>by
  have e:b=it:=by simpa using hb
  subst e;exact⟨_,st,fun v z=>by
   have z':Data.fields _=Data.cell v:=z;cases z'⟩
 keep:=fun i h h' st k=>k it (by simp) _ st
 item:=by
  intro X hP hw hK hc i pins s σ H E I hf st hg;subst hP hw hK;obtain⟨f0,f1,f2,f3,f4,f5⟩:=hf it (by simp);have W:=Walks.range (prog:=X.prog) (w:=X.w) (I.ok.hd hc) it lo 1 n;refine W.item i s _ _ hg st fun v h' tk hv st' kk=>?_;obtain⟨t,rfl⟩:=hv;have I1:Inv X pins σ H { s with heap:=h',toks:=tk }:=I.turned (fun b o hb e=>kk b o (by simpa using hb) e) f0 f1 f3 f4 f5;refine⟨_,rfl,ZlZ (s:={ s with heap:=h',toks:=tk }) (n:="range_iterator") st' rfl rfl (by decide) ⟨.int (lo+i),H,I1,⟨t,?_⟩,⟨rfl,rfl⟩,st',fun b hb=>(hf b hb).1⟩⟩;rw[Int.mul_one]
 done:=by
  intro X hP hw hK hc i pins s σ H E I hf st hg;subst hP hw hK;obtain⟨f0,f1,f2,f3,f4,f5⟩:=hf it (by simp);exact wpAny_pyNext_range_end (I.ok.hd hc) st (by have:n<=i:=hg;(clear f3 f2 f1;omega)) fun h' eb=>⟨rfl,I.turned (t':=s.toks) (fun b o hb e=>eb b o hb e) f0 f1 f3 f4 f5⟩
 self:=fun _ _ _ _ _ st h=>wpAny_pyIter_rangeiter st h
end L2
namespace L2
open PySem PySem.Spec PyProof.Rows
section
variable {X:Cx}{tg:Expr}
def ZnV (K:Yac) (tl:TE):TI:=fun σ H R=>tl σ H fun x H1=>∃ a,x=.ref a/\(∃ xs,SqL K H1 a xs)/\R (Itl K a) H1
def iTup (K:Yac) (tl:TE):TI:=fun σ H R=>tl σ H fun x H1=>∃ a,x=.ref a/\(∃ xs,SqT K H1 a xs)/\R (Itt K a) H1
theorem ZhZ {l:Expr}{tl:TE} (hl:PE X l tl):PI X tg l (ZnV X.K tl):=by
 intro pins s σ H R I h;refine thn (hl pins s σ H _ I h) fun v s1 ⟨x,H1,I1,r1,q1⟩=>?_;obtain⟨a,e,⟨xs,hq⟩,q⟩:=q1;subst e;cases r1;obtain⟨its,rv,p,hz⟩:=I1.list hq;refine wpAny_pyIter_list p.isList ?_;refine⟨s1.heap.objs.size,[s1.heap.objs.size],_,_,H1,rfl,I1.kept (t':=s1.toks) fun b o e=>Yab _ e,ZeI a _,⟨_,Yav _ rfl,rfl,rfl⟩,fun b hb=>?_,q⟩;have e:b=s1.heap.objs.size:=by simpa using hb
 subst e;exact I1.fpOk (Yag _) (I1.hok.fresh (Yag _))
theorem ZdA {l:Expr}{tl:TE} (hl:PE X l tl):PI X tg l (iTup X.K tl):=by
 intro pins s σ H R I h;refine thn (hl pins s σ H _ I h) fun v s1 ⟨x,H1,I1,r1,q1⟩=>?_;obtain⟨a,e,⟨xs,hq⟩,q⟩:=q1;subst e;cases r1;obtain⟨its,rv,p,hz⟩:=I1.tuple hq;refine wpAny_pyIter_tuple (show s1.heap.IsTuple a its.toArray from p) ?_;refine⟨s1.heap.objs.size,[s1.heap.objs.size],_,_,H1,rfl,I1.kept (t':=s1.toks) fun b o e=>Yab _ e,Zdh a _,⟨_,Yav _ rfl,rfl,rfl⟩,fun b hb=>?_,q⟩;have e:b=s1.heap.objs.size:=by simpa using hb
 subst e;exact I1.fpOk (Yag _) (I1.hok.fresh (Yag _))
theorem ZjQ {pins:List (Addr × Obj)}{σ:St}{H:Hp}{s:Shared}{R:It->Hp->Prop}{E:Value->Shared->Prop}{lo hi:Int}{t u v:Tok}{tk:Nat} (I:Inv X pins σ H s) (h1:-(2 ^ 62)<=lo) (h2:lo<2 ^ 62) (h3:-(2 ^ 62)<=hi) (h4:hi<2 ^ 62)
  (q:R (Itr lo (hi - lo).toNat) H):wpAny (model X.prog X.w) X.A (pyIter (.ref s.heap.objs.size)) (PIE X pins σ tg R) E { s with heap:=s.heap.push { cls:=.type "range",data:=.fields #[.int lo t,.int hi u,.int 1 v] },toks:=tk }:=by
 refine wpAny_pyIter_range (IsRange.new ..) (small_one h1 h2 h3 h4) ?_;have I1:Inv X pins σ H { s with heap:=s.heap.push { cls:=.type "range",data:=.fields #[.int lo t,.int hi u,.int 1 v] },toks:=tk }:=I.kept fun b o e=>Yab _ e;refine⟨(s.heap.push { cls:=.type "range",data:=.fields #[.int lo t,.int hi u,.int 1 v] }).objs.size,[(s.heap.push { cls:=.type "range",data:=.fields #[.int lo t,.int hi u,.int 1 v] }).objs.size],_,_,H,rfl,
  I1.kept (t':=tk) fun b o e=>Yab _ e,ZgQ _ lo (hi - lo).toNat,?_,fun b hb=>?_,q⟩
 ·have e1:lo+((0:Nat):Int)*1=lo:=by simp
  have e2:(((hi - lo).toNat:Nat):Int) - ((0:Nat):Int)=Builtin.Range.rangeSize lo hi 1:=by rw[rangeSize_one];split <;> (clear e1 h4 h3 h2 h1;omega)
  show IsRangeIter _ _ (lo+((0:Nat):Int)*1) ((((hi - lo).toNat:Nat):Int) - ((0:Nat):Int)) 1;rw[e1,e2];exact Yav _ rfl
 ·have e:b=(s.heap.push { cls:=.type "range",data:=.fields #[.int lo t,.int hi u,.int 1 v] }).objs.size:=by simpa using hb
  subst e;exact I1.fpOk (Yag _) (I1.hok.fresh (Yag _))
def ZnU (ta:TA):TI:=fun σ H R=>ta σ H fun vs H1=>∃ j:Int,vs=[.int j]/\-(2 ^ 62)<=j/\j<2 ^ 62/\R (Itr 0 j.toNat) H1
theorem ZaP {a:Expr}{ta:TA}{p pos:Pos} (hg:Gl X "range") (hm:X.mg "range"=none) (ha:PA X [a] ta) (hs:starEach [a] X.env=[(false,eval a X.env)]:=by rfl):PI X tg (.Call (.Name "range" p) [a] [] pos) (ZnU ta):=by
 intro pins s σ H R I h;refine Call_ (ZdL I hg hm boot_range (YbV (thn (ha pos pins s σ H _ I h) fun us s1 ⟨vs,H1,I1,r1,q1⟩=>?_) hs rfl));obtain⟨j,e,q1,q2,q⟩:=q1;subst e
 cases r1 with
 | cons r rr=>
  cases rr;obtain⟨t,rfl⟩:=r;exact call_range_1 (ZjQ I1 (by (clear q2 q1;omega)) (by (clear q2 q1;omega)) q1 q2 (by simpa using q))
def tFor (wi:TI) (g:TG) (tb:TS):TS:=fun D σ H=>wi σ H fun J H1=>∃ W:Nat->Nat->St->Hp->Prop,(∃ m,W 0 m σ H1)/\∀ i m σ H,W i m σ H ->
 (J.stop i H/\D.nx σ H)∨(J.go i H/\∃ N:St->Hp->Prop,(∀ σ' H',N σ' H'->∃ m',m'<m/\W (i+1) m' σ' H')/\∀ x H',J.yld i H x H'->g x σ H' fun σ2 H2=>tb { D with nx:=N,ct:=N,bk:=D.nx } σ2 H2)
def Zcw (fp:List Addr) (h:Heap):List (Addr × Obj):=fp.filterMap fun b=>(h.get? b).map fun o=>(b,o)
theorem ZaF {fp:List Addr}{h:Heap}{b:Addr}{o:Obj} (hb:b∈fp) (e:h.get? b=some o):(b,o)∈Zcw fp h:=YeR.mpr ⟨b,hb,by rw[e];rfl⟩
theorem Zim {fp:List Addr}{h:Heap}{p:Addr × Obj} (hp:p∈Zcw fp h):p.1∈fp/\h.get? p.1=some p.2:=by
 obtain⟨b,hb,e⟩:=YeR.mp hp
 cases q:h.get? b with
 | none=>rw[q] at e;cases e
 | some o=>
  rw[q] at e;have e':(b,o)=p:=Yaw e;subst e';exact⟨hb,q⟩
theorem Inv.pinned {pins:List (Addr × Obj)}{σ:St}{H:Hp}{s:Shared}{fp:List Addr} (I:Inv X pins σ H s) (hf:∀ b∈fp,FpOk X pins H b) (ho:∀ b∈fp,∃ o,s.heap.get? b=some o/\∀ v,o.data≠.cell v):Inv X (pins++Zcw fp s.heap) σ H s :=
 I.pins_of fun p hp=>(Yap.mp hp).elim (fun z=>I.pin p (Yao _ z)) fun z=>by
  obtain⟨hb,e⟩:=Zim z;obtain⟨f0,f1,f2,_⟩:=hf p.1 hb;obtain⟨o,e',d⟩:=ho p.1 hb;rw[e] at e';cases e';exact⟨e,f0,f1,f2,d⟩
theorem Inv.unpinned {pins pl:List (Addr × Obj)}{σ:St}{H:Hp}{s:Shared} (I:Inv X (pins++pl) σ H s):Inv X pins σ H s:=I.pins_of fun p hp=>I.pin p (Yao _ (YaM _ hp))
theorem ZaY {iter:Expr}{body:List Stmt}{wi:TI}{g:TG}{tb:TS}{pos:Pos} (hp:PassesOwn (model X.prog X.w) X.A X.env X.xe) (hc:X.calm=true) (hi:PI X tg iter wi) (hg:PG X tg g) (hb:PSs X body tb)
  (hs:∀ x,foldedSetIterable iter X.env x=pure x:=by intro _;rfl):PS X (.For tg iter body [] pos) (tFor wi g tb):=by
 intro pins s σ H D I h;refine wpAny_For (thn (hi pins s σ H _ I h) fun v s1 h1=>thn h1 fun itv s2 h2=>?_) hs;obtain⟨it,fp,tn,J,H2,e,I2,T,st2,f2,W,⟨m0,w0⟩,turn⟩:=h2;subst e;have stat:∀ {H':Hp},(∀ b∈fp,H' b=none)->∀ b∈fp,FpOk X pins H' b:=fun hn b hb=>⟨hn b hb,(f2 b hb).2⟩
 refine codeAny_forLoop_any (fun n s'=>∃ i σ' H',Inv X pins σ' H' s'/\tn i s'.heap/\(∀ b∈fp,H' b=none)/\W i n σ' H') ?_ m0 ⟨0,σ,H2,I2,st2,fun b hb=>(f2 b hb).1,w0⟩;rintro n s3 ⟨i,σ3,H3,I3,st3,fr3,w3⟩;rcases turn i n σ3 H3 w3 with ⟨stop,qn⟩ | ⟨go,N,hN,step⟩
 ·refine wpAny_passesOwn hp (thn (T.done X rfl rfl rfl hc i pins s3 σ3 H3 X.xe I3 (stat fr3) st3 stop) fun r s4 ⟨hr,I4⟩=>?_);subst hr;exact wpAny_execs_nil ⟨σ3,H3,I4,qn⟩
 ·refine wpAny_passesOwn hp (thn (T.item X rfl rfl rfl hc i pins s3 σ3 H3 X.xe I3 (stat fr3) st3 go) fun r s4 ⟨u,hr,h4⟩=>?_);subst hr;refine wpAny_passesOwn hp (thn h4 fun _ s5 ⟨x,H5,I5,r5,y5,st5,fr5⟩=>?_);have I5':=I5.pinned (stat fr5) (T.obj _ _ st5);refine wpAny_passesOwn hp (thn (hg _ s5 σ3 H5 x u _ I5' r5 (step x H5 y5)) fun _ s6 ⟨σ6,H6,I6,q6⟩=>?_);refine wpAny_passesOwn hp (thn (hb _ s6 σ6 H6 _ I6 q6) fun f s7 q7=>?_);have again:∀ {σ7:St}{H7:Hp},Inv X (pins++Zcw fp s5.heap) σ7 H7 s7->N σ7 H7->∃ m,m<n/\∃ i σ' H',Inv X pins σ' H' s7/\tn i s7.heap/\(∀ b∈fp,H' b=none)/\W i m σ' H':=fun {σ7 H7} I7 n7=>by
   obtain⟨m',hm,w7⟩:=hN σ7 H7 n7;refine⟨m',hm,i+1,σ7,H7,I7.unpinned,T.keep _ _ _ st5 fun b hb o e=>(I7.pin (b,o) (Yao _ (Yao _ (ZaF hb e)))).1,fun b hb=>?_,w7⟩;obtain⟨o,e,d⟩:=T.obj _ _ st5 b hb;exact (I7.pin (b,o) (Yao _ (Yao _ (ZaF hb e)))).2.1
  cases f with
  | next=>obtain⟨σ7,H7,I7,n7⟩:=q7;exact again I7 n7
  | cont=>obtain⟨σ7,H7,I7,n7⟩:=q7;exact again I7 n7
  | brk=>obtain⟨σ7,H7,I7,q7⟩:=q7;exact⟨σ7,H7,I7.unpinned,q7⟩
  | ret v=>obtain⟨x7,σ7,H7,I7,r7,q7⟩:=q7;exact⟨x7,σ7,H7,I7.unpinned,r7,q7⟩
end
theorem Zgy {K:Yac}{a:Addr}{xs:List V}{g:TG}{tb:TS}{D:Ends}{σ:St}{H:Hp} (Pv:Nat->St->Hp->Prop) (h0:Pv 0 σ H) (hl:∀ i σ H,i<=xs.length->Pv i σ H->SqL K H a xs)
  (hs:∀ i x σ H,xs[i]?=some x->Pv i σ H->g x σ H fun σ2 H2=>tb { D with nx:=Pv (i+1),ct:=Pv (i+1),bk:=D.nx } σ2 H2) (hd:∀ σ H,Pv xs.length σ H->D.nx σ H) :
  ∃ W:Nat->Nat->St->Hp->Prop,(∃ m,W 0 m σ H)/\∀ i m σ H,W i m σ H ->
   ((Itl K a).stop i H/\D.nx σ H)∨((Itl K a).go i H/\∃ N:St->Hp->Prop,(∀ σ' H',N σ' H'->∃ m',m'<m/\W (i+1) m' σ' H')/\∀ x H',(Itl K a).yld i H x H'->g x σ H' fun σ2 H2=>tb { D with nx:=N,ct:=N,bk:=D.nx } σ2 H2):=by
 refine⟨fun i m σ H=>m=xs.length - i/\i<=xs.length/\Pv i σ H,⟨xs.length,by simp,YaV _,h0⟩,?_⟩;rintro i m σ H ⟨rfl,hi,p⟩;have q:=hl i σ H hi p;by_cases hlt:i<xs.length
 ·refine .inr ⟨⟨xs,xs[i],q,by simp[hlt]⟩,Pv (i+1),fun σ' H' p'=>⟨xs.length - (i+1),by (clear hi;omega),rfl,hlt,p'⟩,fun x H' y=>?_⟩;obtain⟨e,y⟩:=y;subst e;exact hs i x σ _ (y xs q) p
 ·have e:i=xs.length:=by omega
  subst e;exact .inl ⟨⟨xs,q,Yag _⟩,hd σ H p⟩
theorem Zet {K:Yac}{a:Addr}{xs:List V}{g:TG}{tb:TS}{D:Ends}{σ:St}{H:Hp} (Pv:Nat->St->Hp->Prop) (h0:Pv 0 σ H) (hl:∀ i σ H,i<=xs.length->Pv i σ H->SqT K H a xs)
  (hs:∀ i x σ H,xs[i]?=some x->Pv i σ H->g x σ H fun σ2 H2=>tb { D with nx:=Pv (i+1),ct:=Pv (i+1),bk:=D.nx } σ2 H2) (hd:∀ σ H,Pv xs.length σ H->D.nx σ H) :
  ∃ W:Nat->Nat->St->Hp->Prop,(∃ m,W 0 m σ H)/\∀ i m σ H,W i m σ H ->
   ((Itt K a).stop i H/\D.nx σ H)∨((Itt K a).go i H/\∃ N:St->Hp->Prop,(∀ σ' H',N σ' H'->∃ m',m'<m/\W (i+1) m' σ' H')/\∀ x H',(Itt K a).yld i H x H'->g x σ H' fun σ2 H2=>tb { D with nx:=N,ct:=N,bk:=D.nx } σ2 H2):=by
 refine⟨fun i m σ H=>m=xs.length - i/\i<=xs.length/\Pv i σ H,⟨xs.length,by simp,YaV _,h0⟩,?_⟩;rintro i m σ H ⟨rfl,hi,p⟩;have q:=hl i σ H hi p;by_cases hlt:i<xs.length
 ·refine .inr ⟨⟨xs,xs[i],q,by simp[hlt]⟩,Pv (i+1),fun σ' H' p'=>⟨xs.length - (i+1),by (clear hi;omega),rfl,hlt,p'⟩,fun x H' y=>?_⟩;obtain⟨e,y⟩:=y;subst e;exact hs i x σ _ (y xs q) p
 ·have e:i=xs.length:=by omega
  subst e;exact .inl ⟨⟨xs,q,Yag _⟩,hd σ H p⟩
theorem Za7 {lo:Int}{n:Nat}{g:TG}{tb:TS}{D:Ends}{σ:St}{H:Hp} (Pv:Nat->St->Hp->Prop) (h0:Pv 0 σ H)
  (hs:∀ i σ H,i<n->Pv i σ H->g (.int (lo+i)) σ H fun σ2 H2=>tb { D with nx:=Pv (i+1),ct:=Pv (i+1),bk:=D.nx } σ2 H2) (hd:∀ σ H,Pv n σ H->D.nx σ H) :
  ∃ W:Nat->Nat->St->Hp->Prop,(∃ m,W 0 m σ H)/\∀ i m σ H,W i m σ H ->
   ((Itr lo n).stop i H/\D.nx σ H)∨((Itr lo n).go i H/\∃ N:St->Hp->Prop,(∀ σ' H',N σ' H'->∃ m',m'<m/\W (i+1) m' σ' H')/\∀ x H',(Itr lo n).yld i H x H'->g x σ H' fun σ2 H2=>tb { D with nx:=N,ct:=N,bk:=D.nx } σ2 H2):=by
 refine⟨fun i m σ H=>m=n - i/\i<=n/\Pv i σ H,⟨n,by simp,YaV _,h0⟩,?_⟩;rintro i m σ H ⟨rfl,hi,p⟩;by_cases hlt:i<n
 ·refine .inr ⟨hlt,Pv (i+1),fun σ' H' p'=>⟨n - (i+1),by (clear hi;omega),rfl,hlt,p'⟩,fun x H' y=>?_⟩;obtain⟨e,y⟩:=y;subst e y;exact hs i σ _ hlt p
 ·have e:i=n:=by omega
  subst e;exact .inl ⟨Yag _,hd σ H p⟩
end L2
namespace L2
open PySem PySem.Spec PyProof.Rows
abbrev R2:=V->V->Hp->VK->Prop
def OpR (X:Cx) (f:Value->Value->Sem Value) (r:R2):Prop :=
 ∀ (pins:List (Addr × Obj)) (s:Shared) (σ:St) (H:Hp) (x y:V) (v u:Value) (Q:VK),Inv X pins σ H s->RelV x v->RelV y u->r x y H Q ->
  wpAny (model X.prog X.w) X.A (f v u) (EP X pins σ Q) X.xe s
def UnR (X:Cx) (f:Value->Sem Value) (r:V->Hp->VK->Prop):Prop :=
 ∀ (pins:List (Addr × Obj)) (s:Shared) (σ:St) (H:Hp) (x:V) (v:Value) (Q:VK),Inv X pins σ H s->RelV x v->r x H Q ->
  wpAny (model X.prog X.w) X.A (f v) (EP X pins σ Q) X.xe s
def Zca (X:Cx) (f:Value) (r:List V->Hp->VK->Prop):Prop :=
 ∀ (pins:List (Addr × Obj)) (s:Shared) (σ:St) (H:Hp) (xs:List V) (us:List Value) (Q:VK),Inv X pins σ H s->Vals xs us->r xs H Q ->
  wpAny (model X.prog X.w) X.A (call f us) (EP X pins σ Q) X.xe s
def TruR (X:Cx) (r:V->Hp->(Bool->Hp->Prop)->Prop):Prop :=
 ∀ (pins:List (Addr × Obj)) (s:Shared) (σ:St) (H:Hp) (x:V) (v:Value) (Q:Bool->Hp->Prop),Inv X pins σ H s->RelV x v->r x H Q ->
  wpAny (model X.prog X.w) X.A (truthy v) (TP X pins σ Q) X.xe s
def tOp (r:R2) (ta tb:TE):TE:=fun σ H Q=>ta σ H fun x H1=>tb σ H1 fun y H2=>r x y H2 Q
def tUn (r:V->Hp->VK->Prop) (ta:TE):TE:=fun σ H Q=>ta σ H fun x H1=>r x H1 Q
def rI (C:Int->Int->Prop) (g:Int->Int->V):R2:=fun x y H Q=>∃ i j,x=.int i/\y=.int j/\C i j/\Q (g i j) H
def rI0 (g:Int->Int->V):R2:=fun x y H Q=>∃ i j,x=.int i/\y=.int j/\Q (g i j) H
def rU (g:Int->V):V->Hp->VK->Prop:=fun x H Q=>∃ i,x=.int i/\Q (g i) H
section
variable {X:Cx}{a b c:Expr}{ta tb tc:TE}{pos:Pos}
theorem binT (ha:PE X a ta) (hb:PE X b tb) {pins:List (Addr × Obj)}{s:Shared}{σ:St}{H:Hp}{R:V->V->Hp->Prop} (I:Inv X pins σ H s)
  (h:ta σ H fun x H1=>tb σ H1 fun y H2=>R x y H2) {Q:Value->Shared->Prop}{f:Value->Value->Sem Value}
  (hf:∀ v u s2 x y H2,Inv X pins σ H2 s2->RelV x v->RelV y u->R x y H2->wpAny (model X.prog X.w) X.A (f v u) Q X.xe s2) :
  wpAny (model X.prog X.w) X.A (eval a X.env) (fun v s₁=>wpAny (model X.prog X.w) X.A (eval b X.env) (fun u s₂=>wpAny (model X.prog X.w) X.A (f v u) Q X.xe s₂) X.xe s₁) X.xe s:=by
 refine thn (ha pins s σ H _ I h) fun v s1 ⟨x,H1,I1,r1,q1⟩=>?_;refine thn (hb pins s1 σ H1 _ I1 q1) fun u s2 ⟨y,H2,I2,r2,q2⟩=>?_;exact hf v u s2 x y H2 I2 r1 r2 q2
theorem Zau {op:Operator}{r:R2} (ho:OpR X (binaryOp op) r) (ha:PE X a ta) (hb:PE X b tb):PE X (.BinOp a op b pos) (tOp r ta tb):=by
 intro pins s σ H Q I h;exact wpAny_BinOp (binT ha hb I h fun v u s2 x y H2 I2 rx ry q=>ho pins s2 σ H2 x y v u Q I2 rx ry q)
theorem Zei {op:UnaryOp}{r:V->Hp->VK->Prop} (ho:UnR X (unaryOp op) r) (ha:PE X a ta):PE X (.UnaryOp op a pos) (tUn r ta):=by
 intro pins s σ H Q I h;exact UnaryOp_ (thn (ha pins s σ H _ I h) fun v s1 ⟨x,H1,I1,r1,q1⟩=>ho pins s1 σ H1 x v Q I1 r1 q1)
theorem opI {f:Value->Value->Sem Value}{C:Int->Int->Prop}{g:Int->Int->Int}
  (rule:∀ (i j:Int) (t u:Tok) (s:Shared) (Q:Value->Shared->Prop) (E:Value->Shared->Prop),C i j->Q (.int (g i j) s.toks) { s with toks:=s.toks+1 }->wpAny (model X.prog X.w) X.A (f (.int i t) (.int j u)) Q E s) :
  OpR X f (rI C fun i j=>.int (g i j)):=by
 intro pins s σ H x y v u Q I rx ry h;obtain⟨i,j,rfl,rfl,hc,q⟩:=h;obtain⟨t,rfl⟩:=rx;obtain⟨t',rfl⟩:=ry;exact rule i j t t' s _ _ hc ⟨.int (g i j),H,I.tok _,⟨_,rfl⟩,q⟩
theorem opI0 {f:Value->Value->Sem Value}{g:Int->Int->Int}
  (rule:∀ (i j:Int) (t u:Tok) (s:Shared) (Q:Value->Shared->Prop) (E:Value->Shared->Prop),Q (.int (g i j) s.toks) { s with toks:=s.toks+1 }->wpAny (model X.prog X.w) X.A (f (.int i t) (.int j u)) Q E s) :
  OpR X f (rI0 fun i j=>.int (g i j)):=by
 intro pins s σ H x y v u Q I rx ry h;obtain⟨i,j,rfl,rfl,q⟩:=h;obtain⟨t,rfl⟩:=rx;obtain⟨t',rfl⟩:=ry;exact rule i j t t' s _ _ ⟨.int (g i j),H,I.tok _,⟨_,rfl⟩,q⟩
theorem opB0 {f:Value->Value->Sem Value}{g:Int->Int->Bool}
  (rule:∀ (i j:Int) (t u:Tok) (s:Shared) (Q:Value->Shared->Prop) (E:Value->Shared->Prop),Q (.bool (g i j)) s->wpAny (model X.prog X.w) X.A (f (.int i t) (.int j u)) Q E s) :
  OpR X f (rI0 fun i j=>.bl (g i j)):=by
 intro pins s σ H x y v u Q I rx ry h;obtain⟨i,j,rfl,rfl,q⟩:=h;obtain⟨t,rfl⟩:=rx;obtain⟨t',rfl⟩:=ry;exact rule i j t t' s _ _ ⟨.bl (g i j),H,I,rfl,q⟩
def CDiv (i j:Int):Prop:=0<j/\j<1073741824
def CPow (i j:Int):Prop:=0<=j/\j<=1000000/\i.natAbs<2 ^ 64
def CMul (i j:Int):Prop:=(-(2 ^ 64)<i/\i<2 ^ 64)∨(-(2 ^ 64)<j/\j<2 ^ 64)
theorem CMul.ok {i j:Int} (h:CMul i j):IntMulOk i j:=by
 rcases h with ⟨h1,h2⟩ | ⟨h1,h2⟩
 ·exact .of_left (intBits_le_64 h1 h2)
 ·exact .of_right (intBits_le_64 h1 h2)
theorem ZaZ:OpR X (binaryOp .Add) (rI0 fun i j=>.int (i+j)):=opI0 fun _ _ _ _ _ _ _ q=>add_int q
theorem ZdB:OpR X (binaryOp .Sub) (rI0 fun i j=>.int (i - j)):=opI0 fun _ _ _ _ _ _ _ q=>sub_int q
theorem ZdC:OpR X (binaryOp .Mult) (rI CMul fun i j=>.int (i*j)):=opI fun _ _ _ _ _ _ _ hc q=>mul_int q hc.ok
theorem ZlI:OpR X (binaryOp .FloorDiv) (rI CDiv fun i j=>.int (i / j)):=opI fun i j _ _ _ _ _ hc q=>by
 have h1:(0:Int)<j:=hc.1;have h2:j<1073741824:=hc.2;exact floordiv_int (by (clear h2;omega)) (by rw[Yec i (by (clear h2;omega))];exact q) (.inl (PyProof.noPylong_small (by omega)))
theorem ZdD:OpR X (binaryOp .Mod) (rI (fun _ j=>0<j) fun i j=>.int (i % j)):=opI fun i j _ _ _ _ _ hc q=>by
 have h1:(0:Int)<j:=hc;exact mod_int' (by (clear h1;omega)) (by rw[Int.fmod_eq_emod_of_nonneg i (by (clear h1;omega))];exact q)
theorem Zgr:OpR X (binaryOp .Pow) (rI CPow fun i j=>.int (i ^ j.toNat)):=opI fun _ _ _ _ _ _ _ hc q=>pow_int_small hc.1 hc.2.1 hc.2.2 q
theorem unI {f:Value->Sem Value}{g:Int->Int}
  (rule:∀ (i:Int) (t:Tok) (s:Shared) (Q:Value->Shared->Prop) (E:Value->Shared->Prop),Q (.int (g i) s.toks) { s with toks:=s.toks+1 }->wpAny (model X.prog X.w) X.A (f (.int i t)) Q E s) :
  UnR X f (rU fun i=>.int (g i)):=by
 intro pins s σ H x v Q I rx h;obtain⟨i,rfl,q⟩:=h;obtain⟨t,rfl⟩:=rx;exact rule i t s _ _ ⟨.int (g i),H,I.tok _,⟨_,rfl⟩,q⟩
theorem ZbV:UnR X (unaryOp .USub) (rU fun i=>.int (-i)):=unI fun _ _ _ _ _ q=>neg_int q
end
def scal:V->V->Bool
 | .non,.non=>true | .non,.int _=>true | .int _,.non=>true | .non,.bl _=>true | .bl _,.non=>true | .non,.str _=>true | .str _,.non=>true
 | .int _,.int _=>true | .bl _,.bl _=>true | .str _,.str _=>true | .byt _,.byt _=>true
 | .int _,.str _=>true | .str _,.int _=>true | .bl _,.str _=>true | .str _,.bl _=>true
 | _,_=>false
def rEq:R2:=fun x y H Q=>scal x y=true/\Q (.bl (decide (x=y))) H
def rNe:R2:=fun x y H Q=>scal x y=true/\Q (.bl (!decide (x=y))) H
theorem Zjb {i j:Int}:decide (V.int i=V.int j)=(i == j):=by
 rw[YcD];simp
theorem Zk3 {i j:Bool}:decide (V.bl i=V.bl j)=(i == j):=by
 rw[YcD];simp
theorem Zja {i j:Str}:decide (V.str i=V.str j)=(i == j):=by
 rw[YcD];simp
theorem Zjc {i j:Array UInt8}:decide (V.byt i=V.byt j)=(i.toList == j.toList):=by
 rw[YcD];cases i;cases j;simp
section
variable {X:Cx}{a b c:Expr}{ta tb tc:TE}{pos:Pos}
theorem Zax {pins:List (Addr × Obj)}{σ:St}{H:Hp}{s:Shared}{Q:VK}{k k':Bool} (I:Inv X pins σ H s) (q:Q (.bl k) H) (e:k=k'):EP X pins σ Q (.bool k') s:=by
 subst e;exact⟨.bl k,H,I,rfl,q⟩
theorem ZnI:OpR X (compareOp .Eq) rEq:=by
 intro pins s σ H x y v u Q I rx ry h;obtain⟨hs,q⟩:=h
 cases x with
 | non=>
  cases rx
  cases y with
  | non=>cases ry;exact PySem.EqNone.eq_none_none (Zax I q (by simp))
  | bl j=>cases ry;exact PySem.EqNone.eq_none_bool (Zax I q (by simp))
  | int j=>obtain⟨t',rfl⟩:=ry;exact PySem.EqNone.eq_none_int (Zax I q (by simp))
  | str j=>obtain⟨t',rfl⟩:=ry;exact PySem.EqNone.eq_none_str (Zax I q (by simp))
  | _=>exact absurd (show false=true from hs) YaO
 | bl i=>
  cases rx
  cases y with
  | non=>cases ry;exact PySem.EqNone.eq_bool_none (Zax I q (by simp))
  | bl j=>cases ry;exact eq_bool (Zax I q Zk3)
  | str j=>obtain⟨t',rfl⟩:=ry;exact PySem.EqMixed.eq_bool_str (Zax I q (by simp))
  | _=>exact absurd (show false=true from hs) YaO
 | int i=>
  obtain⟨t,rfl⟩:=rx
  cases y with
  | non=>cases ry;exact PySem.EqNone.eq_int_none (Zax I q (by simp))
  | int j=>obtain⟨t',rfl⟩:=ry;exact eq_int (Zax I q Zjb)
  | str j=>obtain⟨t',rfl⟩:=ry;exact PySem.EqMixed.eq_int_str (Zax I q (by simp))
  | _=>exact absurd (show false=true from hs) YaO
 | str i=>
  obtain⟨t,rfl⟩:=rx
  cases y with
  | non=>cases ry;exact PySem.EqNone.eq_str_none (Zax I q (by simp))
  | bl j=>cases ry;exact PySem.EqMixed.eq_str_bool (Zax I q (by simp))
  | int j=>obtain⟨t',rfl⟩:=ry;exact PySem.EqMixed.eq_str_int (Zax I q (by simp))
  | str j=>obtain⟨t',rfl⟩:=ry;exact eq_str (Zax I q Zja)
  | _=>exact absurd (show false=true from hs) YaO
 | byt i=>
  obtain⟨t,rfl⟩:=rx
  cases y with
  | byt j=>obtain⟨t',rfl⟩:=ry;exact PySem.W.eq_bytes (Zax I q Zjc)
  | _=>exact absurd (show false=true from hs) YaO
 | _=>cases y <;> exact absurd (show false=true from hs) YaO
theorem ZnH:OpR X (compareOp .NotEq) rNe:=by
 intro pins s σ H x y v u Q I rx ry h;obtain⟨hs,q⟩:=h
 cases x with
 | non=>
  cases rx
  cases y with
  | non=>cases ry;exact PySem.EqNone.ne_none_none (Zax I q (by simp))
  | bl j=>cases ry;exact PySem.EqNone.ne_none_bool (Zax I q (by simp))
  | int j=>obtain⟨t',rfl⟩:=ry;exact PySem.EqNone.ne_none_int (Zax I q (by simp))
  | str j=>obtain⟨t',rfl⟩:=ry;exact PySem.EqNone.ne_none_str (Zax I q (by simp))
  | _=>exact absurd (show false=true from hs) YaO
 | bl i=>
  cases rx
  cases y with
  | non=>cases ry;exact PySem.EqNone.ne_bool_none (Zax I q (by simp))
  | bl j=>cases ry;exact ne_bool (Zax I q (congrArg not Zk3))
  | str j=>obtain⟨t',rfl⟩:=ry;exact PySem.EqMixed.ne_bool_str (Zax I q (by simp))
  | _=>exact absurd (show false=true from hs) YaO
 | int i=>
  obtain⟨t,rfl⟩:=rx
  cases y with
  | non=>cases ry;exact PySem.EqNone.ne_int_none (Zax I q (by simp))
  | int j=>obtain⟨t',rfl⟩:=ry;exact ne_int (Zax I q (congrArg not Zjb))
  | str j=>obtain⟨t',rfl⟩:=ry;exact PySem.EqMixed.ne_int_str (Zax I q (by simp))
  | _=>exact absurd (show false=true from hs) YaO
 | str i=>
  obtain⟨t,rfl⟩:=rx
  cases y with
  | non=>cases ry;exact PySem.EqNone.ne_str_none (Zax I q (by simp))
  | bl j=>cases ry;exact PySem.EqMixed.ne_str_bool (Zax I q (by simp))
  | int j=>obtain⟨t',rfl⟩:=ry;exact PySem.EqMixed.ne_str_int (Zax I q (by simp))
  | str j=>obtain⟨t',rfl⟩:=ry;exact ne_str (Zax I q (congrArg not Zja))
  | _=>exact absurd (show false=true from hs) YaO
 | byt i=>
  obtain⟨t,rfl⟩:=rx
  cases y with
  | byt j=>obtain⟨t',rfl⟩:=ry;exact PySem.W.ne_bytes (Zax I q (congrArg not Zjc))
  | _=>exact absurd (show false=true from hs) YaO
 | _=>cases y <;> exact absurd (show false=true from hs) YaO
theorem Zh7:OpR X (compareOp .Lt) (rI0 fun i j=>.bl (decide (i<j))):=opB0 fun _ _ _ _ _ _ _ q=>lt_int q
theorem Zg9:OpR X (compareOp .LtE) (rI0 fun i j=>.bl (decide (i<=j))):=opB0 fun _ _ _ _ _ _ _ q=>le_int q
theorem Zh8:OpR X (compareOp .Gt) (rI0 fun i j=>.bl (decide (j<i))):=opB0 fun _ _ _ _ _ _ _ q=>gt_int q
theorem ZlH:OpR X (compareOp .GtE) (rI0 fun i j=>.bl (decide (j<=i))):=opB0 fun _ _ _ _ _ _ _ q=>ge_int q
theorem ZmS:OpR X (compareOp .Is) (fun x y H Q=>y=.non/\Q (.bl (decide (x=.non))) H):=by
 intro pins s σ H x y v u Q I rx ry h;obtain⟨rfl,q⟩:=h;cases ry;refine is_none_gen (Zax I q ?_);cases x <;> first
  | (cases rx;rfl)
  | (obtain⟨t,rfl⟩:=rx;rfl)
theorem Zh6:OpR X (compareOp .IsNot) (fun x y H Q=>y=.non/\Q (.bl (!decide (x=.non))) H):=by
 intro pins s σ H x y v u Q I rx ry h;obtain⟨rfl,q⟩:=h;cases ry;refine isnot_none_gen (Zax I q ?_);cases x <;> first
  | (cases rx;rfl)
  | (obtain⟨t,rfl⟩:=rx;rfl)
theorem ZaI (b:Expr) {op:CmpOp} (h:op≠.In:=by decide) (h2:op≠.NotIn:=by decide):behindInMarks op b=false:=by
 have e1:(op == CmpOp.In)=false:=by cases op <;> first | rfl | exact absurd rfl h
 have e2:(op == CmpOp.NotIn)=false:=by cases op <;> first | rfl | exact absurd rfl h2
 cases b <;> simp[behindInMarks,e1,e2]
theorem ZfF {op:CmpOp}{r:R2} (ho:OpR X (compareOp op) r) (ha:PE X a ta) (hb:PE X b tb) (hm:behindInMarks op b=false):PE X (.Compare a [op] [b] pos) (tOp r ta tb):=by
 intro pins s σ H Q I h;exact wpAny_Compare1 (binT ha hb I h fun v u s2 x y H2 I2 rx ry q=>ho pins s2 σ H2 x y v u Q I2 rx ry q) hm
def Zmi (t:TE):TT:=fun σ H Q=>t σ H fun x H'=>∃ k,x=.bl k/\Q k H'
theorem ZaG {op:CmpOp}{r:R2} (ho:OpR X (compareOp op) r) (ha:PE X a ta) (hb:PE X b tb) (hm:behindInMarks op b=false):PT X (.Compare a [op] [b] pos) (Zmi (tOp r ta tb)):=by
 intro pins s σ H Q I h;refine wpAny_isTrue_Compare1 (thn (ha pins s σ H _ I h) fun v s1 ⟨x,H1,I1,r1,q1⟩=>thn (hb pins s1 σ H1 _ I1 q1) fun u s2 ⟨y,H2,I2,r2,q2⟩=>
  thn (ho pins s2 σ H2 x y v u _ I2 r1 r2 q2) fun c s3 ⟨z,H3,I3,r3,k,e,q3⟩=>?_) hm
 subst e;cases r3;exact wpAny_truthy_bool ⟨H3,I3,q3⟩
def Zmr (r r':R2) (ta tb tc:TE):TE:=fun σ H Q=>ta σ H fun x H1=>tb σ H1 fun y H2=>r x y H2 fun z H3=>∃ k,z=.bl k /\
 (if k=true then tc σ H3 fun w' H4=>r' y w' H4 Q else Q (.bl false) H3)
theorem Zgk {op op':CmpOp}{r r':R2} (ho:OpR X (compareOp op) r) (ho':OpR X (compareOp op') r') (ha:PE X a ta) (hb:PE X b tb) (hc:PE X c tc)
  (hm:lastMarks [op,op'] [b,c]=false:=by with_unfolding_all rfl):PT X (.Compare a [op,op'] [b,c] pos) (Zmi (Zmr r r' ta tb tc)):=by
 intro pins s σ H Q I h;refine isTrue_chain (thn (ha pins s σ H _ I h) fun v s1 ⟨x,H1,I1,r1,q1⟩=>test_link (thn (hb pins s1 σ H1 _ I1 q1) fun u s2 ⟨y,H2,I2,r2,q2⟩=>
  thn (ho pins s2 σ H2 x y v u _ I2 r1 r2 q2) fun d s3 ⟨z,H3,I3,r3,k,e,q3⟩=>?_)) hm
 subst e;cases r3;refine wpAny_truthy_bool ?_
 cases k with
 | false=>
  obtain⟨k',e',q'⟩:=q3;cases e';exact ite_ff ⟨H3,I3,q'⟩
 | true=>
  refine ite_tt (test_last (thn (hc pins s3 σ H3 _ I3 q3) fun w' s4 ⟨z',H4,I4,r4,q4⟩=>thn (ho' pins s4 σ H4 y z' u w' _ I4 r2 r4 q4) fun d' s5 ⟨z2,H5,I5,r5,k2,e2,q5⟩=>?_));subst e2;cases r5;exact wpAny_truthy_bool ⟨H5,I5,q5⟩
def TruV (K:Yac) (x:V) (H:Hp) (k:Bool):Prop :=
 match x with
 | .non=>k=false
 | .bl b=>k=b
 | .int i=>k=(i != 0)
 | .str y=>y.length<=sizeLine/\k=((y.length:Int) != 0)
 | .byt y=>y.size<=sizeLine/\k=((y.size:Int) != 0)
 | .ref p=>(∃ xs,SqL K H p xs/\k = !xs.isEmpty)∨(∃ xs,SqT K H p xs/\k = !xs.isEmpty)∨∃ kvs,H p=some (.dK kvs)/\k = !kvs.isEmpty
 | _=>False
theorem Zhi {κ:Type}{kvs:List (κ × V)}{vs:List (κ × Value)} (r:KV kvs vs):(!vs.isEmpty) = !kvs.isEmpty:=by
 cases r <;> rfl
theorem ZdO {xs:List V}{its:List Value} (r:Vals xs its):(!its.toArray.isEmpty) = !xs.isEmpty:=by
 cases r <;> simp
theorem Ze0:(sizeLine:Nat)<2 ^ 63:=by rw[sizeLine_eq];decide
theorem Zmf:TruR X (fun x H Q=>∃ k,TruV X.K x H k/\Q k H):=by
 intro pins s σ H x v Q I rx h;obtain⟨k,e,q⟩:=h;have hl:=Ze0;have hs:sizeLine=16777216:=sizeLine_eq
 cases x with
 | non=>
  cases rx;have e':k=false:=e;subst e';exact truthy_none ⟨H,I,q⟩
 | bl b=>
  cases rx;have e':k=b:=e;subst e';exact wpAny_truthy_bool ⟨H,I,q⟩
 | int i=>
  obtain⟨t,rfl⟩:=rx;have e':k=(i != 0):=e;subst e';exact PySem.P.truthy_int ⟨H,I,q⟩
 | str y=>
  obtain⟨t,rfl⟩:=rx;obtain⟨hy,e'⟩:y.length<=sizeLine/\k=((y.length:Int) != 0):=e;subst e';exact PySem.P.truthy_str (by (clear hs;omega)) ⟨H,I.tok _,q⟩
 | byt y=>
  obtain⟨t,rfl⟩:=rx;obtain⟨hy,e'⟩:y.size<=sizeLine/\k=((y.size:Int) != 0):=e;subst e';exact PySem.W.truthy_bytes (by (clear hl;omega)) ⟨H,I.tok _,q⟩
 | ref p=>
  cases rx;have e':(∃ xs,SqL X.K H p xs/\k = !xs.isEmpty)∨(∃ xs,SqT X.K H p xs/\k = !xs.isEmpty)∨∃ kvs,H p=some (.dK kvs)/\k = !kvs.isEmpty:=e;rcases e' with ⟨xs,hx,e'⟩ | ⟨xs,hx,e'⟩ | ⟨kvs,hx,e'⟩
  ·subst e';obtain⟨its,r,pl,hz⟩:=I.list hx;have hlen:=r.length;exact wpAny_truthy_list pl.isList (by simp only[Yal];(clear hs;omega)) ⟨H,I.tok _,by rw[ZdO r];exact q⟩
  ·subst e';obtain⟨its,r,pl,hz⟩:=I.tuple hx;have hlen:=r.length;exact truthy_tuple pl (by simp only[Yal];(clear hs;omega)) ⟨H,I.tok _,by rw[ZdO r];exact q⟩
  ·subst e';obtain⟨hz,hS,vs,r,m⟩:kvs.length<=sizeLine/\(p == sysModules)=false/\∃ vs,KV kvs vs/\s.heap.DictOf (Zay X.prog X.w) p vs:=I.hok p _ hx;have hlen:kvs.length=vs.length:=Ydg r;exact wpAny_truthy_dict hS m (by (clear hs;omega)) ⟨H,I.tok _,by rw[Zhi r];exact q⟩
 | _=>exact (show False from e).elim
theorem ZjT (ha:PE X a ta) (he:∀ whole,isTrue a X.env whole=(do let v <- whole;standAt a.pos;holding [v] (truthy v))) :
  PT X a (fun σ H Q=>ta σ H fun x H'=>∃ k,TruV X.K x H' k/\Q k H'):=by
 intro pins s σ H Q I h;exact isTrue_plain (thn (ha pins s σ H _ I h) fun v s1 ⟨x,H1,I1,r1,q1⟩=>Zmf pins s1 σ H1 x v Q I1 r1 q1) (he _)
theorem ZdU {x:V}{us:List Value} (r:Vals [x] us):∃ u,us=[u]/\RelV x u:=by
 cases r with
 | cons r1 r2=>cases r2;exact⟨_,rfl,r1⟩
theorem Zhw {x y:V}{us:List Value} (r:Vals [x,y] us):∃ u w',us=[u,w']/\RelV x u/\RelV y w':=by
 cases r with
 | cons r1 r2=>
  cases r2 with
  | cons r3 r4=>cases r4;exact⟨_,_,rfl,r1,r3⟩
theorem Zff (hc:X.calm=true):Zca X (.builtin "max") (fun xs H Q=>∃ i j,xs=[.int i,.int j]/\Q (.int (if j > i then j else i)) H):=by
 intro pins s σ H xs us Q I r h;obtain⟨i,j,rfl,q⟩:=h;obtain⟨u,w',rfl,⟨t,rfl⟩,⟨t',rfl⟩⟩:=Zhw r;refine max_two_ints (I.ok.hd hc) fun h' tk k=>⟨_,H,I.kept k,?_,q⟩
 by_cases hj:j > i
 ·rw[if_pos hj,if_pos hj];exact⟨_,rfl⟩
 ·rw[if_neg hj,if_neg hj];exact⟨_,rfl⟩
theorem Zbr (hc:X.calm=true):Zca X (.builtin "min") (fun xs H Q=>∃ i j,xs=[.int i,.int j]/\Q (.int (if j<i then j else i)) H):=by
 intro pins s σ H xs us Q I r h;obtain⟨i,j,rfl,q⟩:=h;obtain⟨u,w',rfl,⟨t,rfl⟩,⟨t',rfl⟩⟩:=Zhw r;refine min_two_ints (I.ok.hd hc) fun h' tk k=>⟨_,H,I.kept k,?_,q⟩
 by_cases hj:j<i
 ·rw[if_pos hj,if_pos hj];exact⟨_,rfl⟩
 ·rw[if_neg hj,if_neg hj];exact⟨_,rfl⟩
end
end L2
namespace L2
open PySem PySem.Spec PyProof.Rows
structure ObjM (h:Heap) (x dx C:Addr) (mA:Str->Option Value):Prop where
 obj:h.get? x=some (Ydy C dx)
 ns:h.Ns1 dx mA
 ne:dx≠x
theorem ZiA {h:Heap}{dx:Addr}{mA:Str->Option Value} (n:h.Ns1 dx mA):∃ od,h.get? dx=some od/\∀ name,YdI name od=some (mA name):=by
 obtain⟨o,es,ep,ho,hd,hk,_,hm⟩:=n;refine⟨o,ho,fun name=>?_⟩;have e:=hm name;unfold nsFind findBy at e;rw[<- Array.find?_toList] at e;unfold YdI;rw[hd];dsimp only;split
 ·rename_i y q;rw[q] at e;exact congrArg some e
 ·rename_i q;rw[q] at e;have a:es.toList.any (·.refKey)=false:=by
   rw[List.any_eq_false];intro y hy;obtain⟨z,t,hkey⟩:=hk y (Array.mem_toList_iff.mp hy);simp[DictEntry.refKey,hkey]
  have a':¬ es.toList.any (·.refKey)=true:=by rw[a];exact YaO
  rw[if_neg a'];exact congrArg some e
theorem ObjM.look {h:Heap}{x dx C:Addr}{mA:Str->Option Value} (I:ObjM h x dx C mA):∃ od,PySem.W.InstAt h x (Ydy C dx) C (some od)/\∀ name,YdI name od=some (mA name) :=
 let ⟨od,ho,hl⟩:=ZiA I.ns
 ⟨od,⟨I.obj,rfl,rfl,ho⟩,hl⟩
section
variable {prog:Program}{w:World}{A:Around}{E:Value->Shared->Prop}{s:Shared}{K:Yac}{x dx C f:Addr}{mA:Str->Option Value}{name:Str}{v:Value}
end
section
variable {P:Program}{w:World}{H H':Hp}{h h':Heap}{a C dx:Addr}{fs fs':List (Str × V)}
theorem ZlY (hok:HOk P w H h) (e:H a=some (.ins C dx fs)):∃ mA,ObjM h a dx C mA/\(∀ f,RelO (fs.lookup f) (mA f))/\PySem.Within mA (fs.map (·.1))/\fs.length<=1000/\H dx=some (.own a):=by
 obtain⟨d,z,ne,ob,mA,n,r,q⟩:=(show ObjOk P w H h a (.ins C dx fs) from hok a _ e)
 exact⟨mA,⟨ob,n,ne⟩,r,q,z,d⟩
end
structure Cls (K:Yac) (C:Addr):Prop where
 pg:YeI K C YcE=true
 hd:PySem.W.hasDictIn K C=true
 po:PySem.W.plainOver K C=true
 sa:YcF K (.ref C) "__setattr__"=some (some (.builtin "object.__setattr__"))
theorem Cls.get {K:Yac}{C:Addr} (c:Cls K C) (f:Str):YeI K C f=true:=c.pg
structure Con (K:Yac) (C:Addr) (f:Str) (v:V) (u:Value):Prop where
 at_:YcF K (.ref C) f=some (some u)
 rel:RelV v u
 get:Yey K u "__get__"=some none
 cp:PySem.W.copiedNames.contains f=false
structure Meth (K:Yac) (C:Addr) (m:Str) (f:Addr):Prop where
 at_:YcF K (.ref C) m=some (some (.ref f))
 fn:PySem.W.isFn K (.ref f)=true
 kp:Yaq K (.ref f)=true
section
variable {X:Cx}{pins:List (Addr × Obj)}{σ:St}{H:Hp}{s:Shared}{a C dx:Addr}{fs:List (Str × V)}{f:Str}{v:V}{A:Around}{E:Value->Shared->Prop}
end
section
variable {X:Cx}{o e value:Expr}{f:Str}{pos pos' tpos:Pos}{ta tv:TE}
end
section
variable {X:Cx}{pins:List (Addr × Obj)}{σ:St}{H:Hp}{s:Shared}{A:Around}{E:Value->Shared->Prop}{Q:Value->Shared->Prop}{c:Value}{b:Bool}
inductive TyOf (K:Yac) (H:Hp):V->Value->Prop where
 | non:TyOf K H .non (.type "NoneType")
 | bl (x:Bool):TyOf K H (.bl x) (.type "bool")
 | int (i:Int):TyOf K H (.int i) (.type "int")
 | str (x:Str):TyOf K H (.str x) (.type "str")
 | flt (x:UInt64):TyOf K H (.flt x) (.type "float")
 | lst {a:Addr}{xs:List V} (e:H a=some (.lst xs)):TyOf K H (.ref a) (.type "list")
 | frz {a:Addr}{o:Obj}{xs:List V} (e:H a=some (.frz o (.lst xs))):TyOf K H (.ref a) (.type "list")
 | tup {a:Addr}{xs:List V} (e:H a=some (.tup xs)):TyOf K H (.ref a) (.type "tuple")
 | dK {a:Addr}{kvs:List (Key × V)} (e:H a=some (.dK kvs)):TyOf K H (.ref a) (.type "dict")
 | dT {a:Addr}{kvs:List (List Key × V)} (e:H a=some (.dT kvs)):TyOf K H (.ref a) (.type "dict")
 | ins {a C dx:Addr}{fs:List (Str × V)} (e:H a=some (.ins C dx fs)) (cl:Cls K C) (ha:YcF K (.ref C) "__class__"=some (some (.builtin "object.__class__")))
   (hn:Yey K (.builtin "object.__class__") "__get__"=some (some (.builtin "getset_descriptor.__get__"))) (htk:PySem.W.takesIn K (.builtin "object.__class__")=some true)
   (hm:PySem.W.mroIn K C (.type "object")=some true):TyOf K H (.ref a) (.ref C)
theorem ZiT {x:V}{u t:Value} (I:Inv X pins σ H s) (rx:RelV x u) (ty:TyOf X.K H x t) (e:Yc8 X.K t c=some b) (h:∀ tk,Q (.bool b) { s with toks:=tk }) :
  wpAny (model X.prog X.w) A (call (.builtin "isinstance") [u,c]) Q E s:=by
 cases ty with
 | non=>cases (show u=Ych from rx);exact Ybu PySem.W.kitx_none I.kIn Yb1 e (fun z=>nomatch z) h
 | bl y=>cases (show u=YeM y from rx);exact Ybu PySem.W.kitx_bool I.kIn Yb1 e (fun z=>nomatch z) h
 | int i=>obtain⟨t,q⟩:=(show ∃ t,u=Yem i t from rx);cases q;exact Ybu PySem.W.kitx_int I.kIn Yb1 e (fun z=>nomatch z) h
 | str y=>obtain⟨t,q⟩:=(show ∃ t,u=Yel y t from rx);cases q;exact Ybu PySem.W.kitx_str I.kIn Yb1 e (fun z=>nomatch z) h
 | flt y=>obtain⟨t,q⟩:=(show ∃ t,u=Value.float y t from rx);cases q;exact Ybu PySem.W.kitx_float I.kIn Yb1 e (fun z=>nomatch z) h
 | @lst a xs ea=>
  cases (show u=Ya9 a from rx);obtain⟨_,_,n,_,h1⟩:=(show ObjOk X.prog X.w H s.heap a (.lst xs) from I.hok a _ ea)
  exact Ybu Yez I.kIn ⟨_,h1,rfl⟩ e (fun z=>nomatch z) h
 | @frz a ob xs ea=>
  cases (show u=Ya9 a from rx);obtain⟨_,_,_,n,_,h1⟩:=(show ObjOk X.prog X.w H s.heap a (.frz ob (.lst xs)) from I.hok a _ ea)
  exact Ybu Yez I.kIn ⟨_,h1,rfl⟩ e (fun z=>nomatch z) h
 | @tup a xs ea=>
  cases (show u=Ya9 a from rx);obtain⟨_,_,_,p⟩:=(show ObjOk X.prog X.w H s.heap a (.tup xs) from I.hok a _ ea)
  obtain⟨o,h1,h2,_⟩:=p;exact Ybu PySem.W.kitx_tuple I.kIn ⟨o,h1,h2⟩ e (fun z=>nomatch z) h
 | @dK a kvs ea=>
  cases (show u=Ya9 a from rx);obtain⟨_,_,vs,_,p⟩:=(show ObjOk X.prog X.w H s.heap a (.dK kvs) from I.hok a _ ea)
  obtain⟨o,es,ep,h1,h2,_⟩:=p;exact Ybu YeA I.kIn ⟨o,h1,h2.1⟩ e (fun z=>nomatch z) h
 | @dT a kvs ea=>
  cases (show u=Ya9 a from rx);obtain⟨_,_,xs,_,o,es,ep,h1,h2,_⟩:=(show ObjOk X.prog X.w H s.heap a (.dT kvs) from I.hok a _ ea)
  exact Ybu YeA I.kIn ⟨o,h1,h2.1⟩ e (fun z=>nomatch z) h
 | @ins a C dx fs ea cl ha hn htk hm=>
  cases (show u=Ya9 a from rx);obtain⟨mA,O,_⟩:=ZlY I.hok ea;obtain⟨od,J,_⟩:=O.look;exact Ybu (PySem.W.kitx_own (cl.get _) cl.hd ha hn htk hm) I.kIn J e (fun z=>nomatch z) h
end
end L2
namespace L2
open PySem PySem.Spec PyProof.Rows
structure Room (k:Nat) (A:Around):Prop where
 hd:A.handled=none
 dp:A.depth+3*k+5<recursionLimit
 un:A.units+16*k+200<cLine
 gd:A.guards=some []
theorem Room.mono {j k:Nat}{A:Around} (r:Room k A) (h:j<=k):Room j A:=⟨r.hd,by have:=r.dp;omega,by have:=r.un;omega,r.gd⟩
theorem Room.deeper {k:Nat}{A:Around} (r:Room (k+1) A) (env:Env):Room k (A.deeper env) :=
 ⟨r.hd,by have:=r.dp;show A.depth+1+3*k+5<_;omega,by have:=r.un;show A.units+3+16*k+200<_;omega,r.gd⟩
theorem Room.depth {k:Nat}{A:Around} (r:Room k A):A.depth<recursionLimit:=by have:=r.dp;omega
theorem Room.units {k:Nat}{A:Around} (r:Room k A):A.units+64<cLine:=by have:=r.un;omega
def tNil:TA:=fun _ H Q=>Q [] H
def Zle (ta:TE) (tr:TA):TA:=fun σ H Q=>ta σ H fun x H1=>tr σ H1 fun xs H2=>Q (x::xs) H2
section
variable {X:Cx}{e:Expr}{es:List Expr}{te:TE}{t:TA}{pos:Pos}
theorem Zad:PA X [] tNil:=fun _ _ _ _ H Q I h=>YeV ⟨[],H,I,.nil,h⟩
theorem Zaa (ha:PE X e te) (hr:PA X es t) (hs:starEach (e::es) X.env=(false,eval e X.env)::starEach es X.env:=by rfl):PA X (e::es) (Zle te t):=by
 intro pos pins s σ H Q I h;rw[hs];show wpAny _ _ (spliced ((false,eval e X.env)::backTo pos (starEach es X.env))) _ _ s;refine Ydm (thn (ha pins s σ H _ I h) fun u s1 ⟨x,H1,I1,r1,q1⟩=>?_);exact thn (hr pos pins s1 σ H1 _ I1 q1) fun us s2 ⟨xs,H2,I2,r2,q2⟩=>⟨x::xs,H2,I2,.cons r1 r2,q2⟩
def tTup (t:TA):TE:=fun σ H Q=>t σ H fun xs H1=>xs.length<=sizeLine/\∀ p,H1 p=none->Q (.ref p) (upd H1 p (.tup xs))
def tLst (t:TA):TE:=fun σ H Q=>t σ H fun xs H1=>xs.length<=sizeLine/\∀ p,H1 p=none->Q (.ref p) (upd H1 p (.lst xs))
theorem Zbj {x1} (h:PA X es t):PE X (.Tuple es x1 pos) (tTup t):=by
 intro pins s σ H Q I hq;refine wpAny_Tuple_spliced (thn (h pos pins s σ H _ I hq) fun us s1 ⟨xs,H1,I1,r,z,q⟩=>⟨by rw[<- r.length];exact z,?_⟩);have hf:H1 s1.heap.objs.size=none:=I1.hok.fresh (Yag _);refine⟨.ref s1.heap.objs.size,upd H1 s1.heap.objs.size (.tup xs),I1.laid (t':=s1.toks) (fun b u e=>Yab _ e) (Yag _) ?_,rfl,q _ hf⟩;exact⟨z,us,r,⟨_,Yav _ rfl,rfl,rfl,_,rfl⟩⟩
theorem ZaU (h:PA X es t):PE X (.List es pos) (tLst t):=by
 intro pins s σ H Q I hq;refine wpAny_List_spliced (thn (h pos pins s σ H _ I hq) fun us s1 ⟨xs,H1,I1,r,z,q⟩=>⟨by rw[<- r.length];exact z,?_⟩);have hf:H1 s1.heap.objs.size=none:=I1.hok.fresh (Yag _);refine⟨.ref s1.heap.objs.size,upd H1 s1.heap.objs.size (.lst xs),I1.laid (t':=s1.toks) (fun b u e=>Yab _ e) (Yag _) ?_,rfl,q _ hf⟩;exact⟨z,us,0,r,Yav _ rfl⟩
end
abbrev Sp:=List V->Hp->VK->XK->Prop
abbrev CXT:=List Env->Hp->Shared->XK->Value->Shared->Prop
structure Env0 (P:Program) (w:World) (K:Yac) (mg:Str->Option Value) (base:Heap) (A:Around) (outer:List Env) (s:Shared) (H:Hp):Prop where
 frames:A.frames=some outer
 mod:Mod K mg base
 bs:∀ b o,base.get? b=some o->s.heap.get? b=some o/\H b=none
 bsz:base.objs.size<=s.heap.objs.size
 funs:s.heap.FunFrames base outer
 frf:∀ b∈frs outer,H b=none
 hok:HOk P w H s.heap
 bare:AllBare s.gens
def CE (outer:List Env) (P:Program) (w:World) (H:Hp) (s:Shared) (Q:VK) (u:Value) (s':Shared):Prop :=
 ∃ v H',s'.os=s.os/\AllBare s'.gens/\Un (frs outer) [] H H' s.heap s'.heap/\HOk P w H' s'.heap/\RelV v u/\Q v H'
def CR (CX:CXT) (outer:List Env) (P:Program) (w:World) (H:Hp) (s:Shared) (Q:VK) (E:XK) (r:Result) (s':Shared):Prop :=
 match r with
 | .ok (.ret u)=>CE outer P w H s Q u s'
 | .ok _=>False
 | .error e=>CX outer H s E e s'
structure FnOk (P:Program) (w:World) (K:Yac) (mg:Str->Option Value) (base:Heap) (CX:CXT) (k:Nat) (f:Addr) (fd:FuncData) (ps:List Str) (sp:Sp):Prop where
 len:∀ vs H Q E,sp vs H Q E->vs.length=ps.length
 run:∀ (A:Around) (outer:List Env) (s:Shared) (H:Hp) (args:Args) (us:List Value) (vs:List V) (Q:VK) (E:XK),Room k A->Env0 P w K mg base A outer s H->BindsTo s fd args (ps.zip us)->Vals vs us->sp vs H Q E ->
  codeAny (model P w) A (.call (.ref f) args) (CR CX outer P w H s Q E) s
section
variable {X:Cx}{pins:List (Addr × Obj)}{σ:St}{H:Hp}{s s':Shared}
theorem Inv.env0 (I:Inv X pins σ H s):Env0 X.prog X.w X.K X.mg X.base X.A X.stack s H :=
 ⟨I.ok.frames,I.ok.mod,I.bs,Ybt I.ok.bsz I.sz,I.stack,I.stkFree,I.hok,I.bare⟩
theorem Inv.after {Q:VK}{u:Value} (I:Inv X pins σ H s) (h:CE X.stack X.prog X.w H s Q u s'):EP X pins σ Q u s':=by
 obtain⟨v,H',os,bare,un,hok,r,q⟩:=h;obtain⟨hh,g,d,t,os'⟩:=s';obtain rfl:os'=s.os:=os;exact⟨v,H',I.call (h':=hh) (g':=g) (d':=d) (t':=t) (ch:=[]) un hok bare (fun b z=>absurd z (by simp)),r,q⟩
end
def Zlf (sp:Sp) (dvs:List V) (E:XK) (t:TA):TE:=fun σ H Q=>t σ H fun vs H1=>sp (vs++dvs) H1 Q E
def Binds (K:Yac) (fd:FuncData) (ps:List Str) (ds:List Value):Prop :=
 ∀ (s:Shared) (us:List Value),K.In s.heap->(us++ds).length=ps.length->BindsTo s fd ⟨us,[]⟩ (ps.zip (us++ds))
theorem Binds.all {K:Yac}{fd:FuncData}{ps:List Str} (h:∀ us:List Value,us.length=ps.length->bindArgs fd ⟨us,[]⟩=pure (ps.zip us)):Binds K fd ps []:=fun s us _ hl=>by
 rw[YbC] at hl ⊢;exact .of_eq (h us hl)
def Zjv (CX:CXT) (X:Cx) (E:XK):Prop:=∀ (pins:List (Addr × Obj)) (σ:St) (H:Hp) (s:Shared) (e:Value) (s':Shared),Inv X pins σ H s->CX X.stack H s E e s'->X.xe e s'
section
variable {X:Cx}{CX:CXT}{k:Nat}{f C:Addr}{fd:FuncData}{ps:List Str}{sp:Sp}{dvs:List V}{ds:List Value}{E:XK}{x m:Str}{p pos apos:Pos}{e o:Expr}{es:List Expr}{ta:TE}{t:TA}
theorem ZkO {pins:List (Addr × Obj)}{σ:St}{H:Hp}{s:Shared}{Q:VK}{us:List Value}{vs:List V} (F:FnOk X.prog X.w X.K X.mg X.base CX k f fd ps sp) (hr:Room k X.A) (hb:Binds X.K fd ps ds) (hd:Vals dvs ds) (hx:Zjv CX X E)
  (I:Inv X pins σ H s) (r:Vals vs us) (h:sp (vs++dvs) H Q E):wpAny (model X.prog X.w) X.A (call (.ref f) us) (EP X pins σ Q) X.xe s:=by
 have r2:Vals (vs++dvs) (us++ds):=r.append hd;have hl:(us++ds).length=ps.length:=by rw[<- r2.length];exact F.len _ _ _ _ h
 refine wpAny_call (codeAny_mono (F.run X.A X.stack s H ⟨us,[]⟩ (us++ds) (vs++dvs) Q E hr I.env0 (hb s us I.kIn hl) r2 h) fun r s' hq=>?_)
 cases r with
 | error e=>exact hx pins σ H s e s' I hq
 | ok fl=>
  cases fl with
  | ret u=>exact I.after hq
  | next=>exact Yck hq
  | brk=>exact Yck hq
  | cont=>exact Yck hq
theorem ZlD (F:FnOk X.prog X.w X.K X.mg X.base CX k f fd ps sp) (hr:Room k X.A) (hg:Gl X x) (hm:X.mg x=some (.ref f)) (hk:Yaq X.K (.ref f)=true) (hb:Binds X.K fd ps ds) (hd:Vals dvs ds) (hx:Zjv CX X E)
  (ha:PA X (e::es) t) (hdb:(x == ("__debug__":Str))=false:=by decide) (he:starEach (e::es) X.env=(false,eval e X.env)::starEach es X.env:=by rfl) (hpl:(backTo pos (starEach es X.env)).any (·.1)=false:=by rfl) :
  PE X (.Call (.Name x p) (e::es) [] pos) (Zlf sp dvs E t):=by
 intro pins s σ H Q I h;refine wpAny_Call_Name_kw (ZiF I hg hm ?_ hdb);refine Yeq (h₀:=X.base) I.ok.mod.kin hk (thn (ha pos pins s σ H _ I h) fun us s1 ⟨vs,H1,I1,r,q⟩=>⟨I1.kIn,?_⟩) he hpl;exact ZkO F hr hb hd hx I1 r q
structure Mk (K:Yac) (C f:Addr):Prop where
 makes:PySem.W.makesIn K C=true
 init:YcF K (.ref C) "__init__"=some (some (.ref f))
 fn:PySem.W.isFn K (.ref f)=true
 kp:Yaq K (.ref C)=true
end
section
variable {X:Cx}{CX:CXT}{k:Nat}{f C:Addr}{fd:FuncData}{ps ks:List Str}{sp:Sp}{E:XK}{x m:Str}{p pos apos kpos:Pos}{e o:Expr}{es:List Expr}{kws:List Keyword}{te ta:TE}{t tk:TA}{nm:Option Str}
structure KBinds (K:Yac) (fd:FuncData) (ps ks:List Str) (g:List Value->List Value->List Value) (gV:List V->List V->List V):Prop where
 to:∀ (s:Shared) (us ws:List Value),K.In s.heap->(g us ws).length=ps.length->BindsTo s fd ⟨us,ks.zip ws⟩ (ps.zip (g us ws))
 rel:∀ {vs:List V}{us:List Value}{zs:List V}{ws:List Value},Vals vs us->Vals zs ws->Vals (gV vs zs) (g us ws)
variable {g:List Value->List Value->List Value}{gV:List V->List V->List V}
end
structure FnScope (N P:List Str) (sc:Scope):Prop where
 kind:sc.kind=.function
 co:sc.isCoroutine=false
 gen:sc.isGenerator=false
 nd:N.Nodup
 pre:N.take P.length=P
 par:∀ x∈P,sc.names.lookup x=some .local ∨ sc.names.lookup x=some .cell
 nofree:∀ y∈sc.names,y.2≠.free
theorem Zfj {kindOf:Str->Option NameKind}{x:Str}:∀ {binds:List (Str × Value)}{m:Str->Option Value},(∀ v,(x,v) ∉ binds)->bindL kindOf binds m x=m x
 | [],_,_=>rfl
 | (n,v)::r,m,h=>by
  unfold bindL;rw[Zfj fun w hw=>h w (Yam _ hw)];split
  ·have:x≠n:=by rintro rfl;exact h v Yai
   simp[this]
  ·rfl
theorem Zfl {kindOf:Str->Option NameKind}{x:Str}:∀ {binds:List (Str × Value)}{m:Str->Option Value},(∀ v,(x,v) ∉ binds)->bindC kindOf binds m x=m x
 | [],_,_=>rfl
 | (n,v)::r,m,h=>by
  unfold bindC;rw[Zfl fun w hw=>h w (Yam _ hw)];split
  ·rfl
  ·have:x≠n:=by rintro rfl;exact h v Yai
   simp[this]
theorem Zfk {kindOf:Str->Option NameKind}{x:Str}{v:Value}:∀ {P:List Str}{vs:List Value}{i:Nat}{m:Str->Option Value},P.Nodup->P[i]?=some x->vs[i]?=some v->kindOf x=some .local ->
  bindL kindOf (P.zip vs) m x=some v
 | [],_,_,_,_,h,_,_=>by simp at h
 | _::_,[],_,_,_,_,h,_=>by simp at h
 | p::P,w::vs,0,m,nd,h1,h2,hk=>by
  simp at h1 h2;subst h1;subst h2;show bindL kindOf ((p,w)::P.zip vs) m p=_;unfold bindL;rw[Zfj fun v hv=>(YbS.mp nd).1 (YdN hv).1,if_pos hk];simp
 | p::P,w::vs,i+1,m,nd,h1,h2,hk=>by
  show bindL kindOf ((p,w)::P.zip vs) m x=_;unfold bindL;exact Zfk (i:=i) (YbS.mp nd).2 (by simpa using h1) (by simpa using h2) hk
theorem Zfm {kindOf:Str->Option NameKind}{x:Str}{v:Value}:∀ {P:List Str}{vs:List Value}{i:Nat}{m:Str->Option Value},P.Nodup->P[i]?=some x->vs[i]?=some v->kindOf x≠some .local ->
  bindC kindOf (P.zip vs) m x=some v
 | [],_,_,_,_,h,_,_=>by simp at h
 | _::_,[],_,_,_,_,h,_=>by simp at h
 | p::P,w::vs,0,m,nd,h1,h2,hk=>by
  simp at h1 h2;subst h1;subst h2;show bindC kindOf ((p,w)::P.zip vs) m p=_;unfold bindC;rw[Zfl fun v hv=>(YbS.mp nd).1 (YdN hv).1,if_neg hk];simp
 | p::P,w::vs,i+1,m,nd,h1,h2,hk=>by
  show bindC kindOf ((p,w)::P.zip vs) m x=_;unfold bindC;exact Zfm (i:=i) (YbS.mp nd).2 (by simpa using h1) (by simpa using h2) hk
def Zda (N:List Str) (vs:List V):St:=vs.map some++Yae (N.length - vs.length) none
def cxOf (CX:CXT) (P:Program) (w:World) (K:Yac) (mg:Str->Option Value) (base:Heap) (N:List Str) (qual:Str) (scope:Scope) (f:Addr) (cd:Value) (A:Around) (outer:List Env) (s:Shared) (H:Hp) (E:XK):Cx where
 prog:=P
 w:=w
 K:=K
 mg:=mg
 base:=base
 A:=A.deeper (envOfC qual scope s.heap.objs.size f cd)
 N:=N
 s₀:=s
 H₀:=H
 env:=envOfC qual scope s.heap.objs.size f cd
 outer:=outer
 stack:=envOfC qual scope s.heap.objs.size f cd::outer
 ex:=[]
 calm:=true
 fn:=fun _=>true
 pn:=[]
 xe:=fun e s'=>wpAny (model P w) (A.deeper (envOfC qual scope s.heap.objs.size f cd)) (leaving (envOfC qual scope s.heap.objs.size f cd) e) (fun _ s''=>CX outer H s E e s'') (fun e' s''=>CX outer H s E e' s'') s'
theorem ZgK {sc:Scope}{n:Nat}{x:Str} (h:sc.names.lookup x=some .cell):∃ c,(cellsFrom n sc.names []).lookup x=some c:=by
 have q:=Yd7 sc.names n [] (.inl h);exact Yd3.mp q
theorem ZiU {CX:CXT}{P:Program}{w:World}{K:Yac}{mg:Str->Option Value}{base:Heap}{N ps:List Str}{qual:Str}{scope:Scope}{f:Addr}{cd:Value}{A:Around}{outer:List Env}{s s1:Shared}{H:Hp}{E:XK}{us:List Value}{vs:List V}
  (S:FnScope N ps scope) (hd:A.handled=none) (e0:Env0 P w K mg base A outer s H) (hl:vs.length=ps.length) (r:Vals vs us)
  (x:InCallC s s.heap.objs.size (bindL (envOfC qual scope s.heap.objs.size f cd).kindOf (ps.zip us) fun _=>none) (cellsFrom (s.heap.objs.size+1) scope.names []) (bindC (envOfC qual scope s.heap.objs.size f cd).kindOf (ps.zip us) fun _=>none) s1) :
  Inv (cxOf CX P w K mg base N qual scope f cd A outer s H E) [] (Zda N vs) H s1:=by
 have hpl:ps.length<=N.length:=by have:=congrArg YdR S.pre;rw[YaA] at this;(clear hl;omega)
 obtain⟨h1,tk,rfl,hk⟩:=x.done;have noA:∀ b:Addr,b ∉ (cxOf CX P w K mg base N qual scope f cd A outer s H E).ex:=fun b z=>absurd (show b∈([]:List Addr) from z) (by simp);refine⟨⟨e0.mod,S.kind,rfl,rfl,Yag _,fun y z c h1 h2=>?_,fun y hy=>?_,fun y c _ h=>?_,fun _=>hd,Around.frames_deeper e0.frames,.inr ⟨rfl,rfl⟩,fun b z=>absurd z (noA b),e0.bs,e0.bsz,fun b _ _=>noA b,fun b z=>absurd z (noA b),e0.funs,e0.frf⟩,
  rfl,e0.bare,Un.kept hk,⟨_,x.toInCall.ns,fun i y v h1 h2 h3=>?_⟩,fun y c h=>⟨_,x.cell y c h⟩,e0.hok.fresh (Yag _),fun y c h=>?_,fun p hp=>absurd (show p∈([]:List (Addr × Obj)) from hp) (by simp),e0.hok.kept hk,?_⟩
 ·exact name_of_addr x.apart (Ybs h1) (Ybs h2)
 ·have hy:scope.names.lookup y=some .cell∨scope.names.lookup y=some .free:=hy;rcases hy with hy | hy
  ·exact ZgK hy
  ·exact absurd rfl (S.nofree _ (Ybs hy))
 ·exact Ya8 (x.above y c (Ybs h))
 ·have hi:i<vs.length:=by
   unfold Zda at h2;by_cases hi:i<vs.length
   ·exact hi
   ·rw[YaI (by simpa using hi)] at h2;rw[Yeh] at h2;split at h2 <;> cases h2
  have ha:vs[i]?=some v:=by
   unfold Zda at h2;rw[YaL (by simpa using hi),Yas] at h2
   cases e:vs[i]? with
   | none=>rw[e] at h2;cases h2
   | some a=>rw[e] at h2;cases h2;rfl
  obtain⟨u,hu,rv⟩:=r.get ha;have hp:ps[i]?=some y:=by
   rw[<- S.pre,YbT (by (clear hpl;omega))];exact h1
  have ndP:ps.Nodup:=by rw[<- S.pre];exact S.nd.sublist (List.take_sublist _ _)
  refine⟨u,rv,?_⟩;rcases S.par y (YaE hp) with k | k
  ·exact .inl ⟨k,Zfk ndP hp hu k⟩
  ·obtain⟨c,e⟩:=ZgK (n:=s.heap.objs.size+1) k;refine .inr ⟨.inl k,c,e,?_⟩;have q:=x.cell y c e;rw[Zfm ndP hp hu (by show scope.names.lookup y≠_;rw[k];decide)] at q;exact q
 ·exact e0.hok.fresh (Ya8 (x.above y c (Ybs h)))
 ·unfold Zda;show _=N.length;rw[Yaj,Yad,Ya7];omega
theorem Zna {CX:CXT}{P:Program}{w:World}{K:Yac}{mg:Str->Option Value}{base:Heap}{k:Nat}{f:Addr}{name qual:Str}{params:Arguments}{body:List Stmt}{scope:Scope}{dV kV doc pm cdv ct oc:Value}{an od:Option Addr}
  {osl:Array (Option Value)}{N ps:List Str}{sp:Sp} (lk:K.lookup f=some ⟨oc,od,.func (Yax name qual params body scope dV kV doc pm an cdv ct),osl⟩) (hcd:Yat K cdv qual=true) (S:FnScope N ps scope)
  (len:∀ vs H Q E,sp vs H Q E->vs.length=ps.length)
  (hbody:∀ (A:Around) (outer:List Env) (s:Shared) (H:Hp) (vs:List V) (Q:VK) (E:XK),Room k (A.deeper (envOfC qual scope s.heap.objs.size f cdv))->sp vs H Q E ->
   ∃ t,PSs (cxOf CX P w K mg base N qual scope f cdv A outer s H E) body t/\t { nx:=fun _ H'=>Q .non H',rt:=Q } (Zda N vs) H) :
  FnOk P w K mg base CX (k+1) f (Yax name qual params body scope dV kV doc pm an cdv ct) ps sp:=by
 refine⟨len,fun A outer s H args us vs Q E hr e0 hb r hsp=>?_⟩;have hl:=len _ _ _ _ hsp;have KX:K.In s.heap:=e0.mod.kin.keeps fun b o e=>(e0.bs b o e).1
 have lim:s.heap.NoLimit:=e0.mod.nolimit.keeps fun b o e=>(e0.bs b o e).1
 have hkind:∀ y∈ps.zip us,scope.names.lookup y.1=some .local ∨ (scope.names.lookup y.1=some .cell/\((cellsFrom (s.heap.objs.size+1) scope.names []).lookup y.1).isSome=true):=fun ⟨n,v⟩ hy=>by
  rcases S.par n (YdN hy).1 with q | q
  ·exact .inl q
  ·exact .inr ⟨q,Yd7 _ _ _ (.inl q)⟩
 refine codeAny_call_function hr.depth (KX _ _ lk) rfl S.co S.gen rfl (PySem.W.codeRec_of KX hcd) (hb _ _ _ _ ?_);refine wpAny_newFunctionEnv_cells S.kind hkind fun env he s1 x=>?_;subst he;refine⟨lim.keeps x.toInCall.keep,codeAny_func ?_⟩;obtain⟨t,ht,hq⟩:=hbody A outer s H vs Q E (hr.deeper _) hsp;have I:Inv (cxOf CX P w K mg base N qual scope f cdv A outer s H E) [] (Zda N vs) H s1:=ZiU S hr.hd e0 hl r x;refine wpAny_mono (ht [] s1 (Zda N vs) H _ I hq) (fun fl s' hs=>?_) fun e s' hs=>hs;have fin:∀ {σ':St}{H':Hp}{v:V}{u:Value},Inv (cxOf CX P w K mg base N qual scope f cdv A outer s H E) [] σ' H' s'->RelV v u->Q v H'->CE outer P w H s Q u s' :=
  fun {σ' H' v u} J rv q=>⟨v,H',J.os,J.bare,J.base,J.hok,rv,q⟩
 cases fl with
 | ret u=>
  obtain⟨v,σ',H',J,rv,q⟩:=hs;exact fin J rv q
 | next=>
  obtain⟨σ',H',J,q⟩:=hs;exact fin (v:=V.non) (u:=Ych) J rfl q
 | brk=>
  obtain⟨_,_,_,q⟩:=hs;exact Yck q
 | cont=>
  obtain⟨_,_,_,q⟩:=hs;exact Yck q
end L2
namespace L2
open PySem PySem.Spec PyProof.Rows
section
variable {X:Cx}{x:Str}{p pos:Pos}{e:Expr}{es:List Expr}{t:TA}{id T:String}{r:List V->Hp->VK->Prop}
def tCB (r:List V->Hp->VK->Prop) (t:TA):TE:=fun σ H Q=>t σ H fun vs H1=>r vs H1 Q
theorem Zar (hc:Zca X (.builtin id) r) (hg:Gl X x) (hm:X.mg x=none) (hv:bootBuiltins x=some (.builtin id)) (ha:PA X (e::es) t) (hn:x≠"__name__":=by decide) (hdb:(x == ("__debug__":Str))=false:=by decide)
  (he:starEach (e::es) X.env=(false,eval e X.env)::starEach es X.env:=by rfl) (hpl:(backTo pos (starEach es X.env)).any (·.1)=false:=by rfl):PE X (.Call (.Name x p) (e::es) [] pos) (tCB r t):=by
 intro pins s σ H Q I h;refine wpAny_Call_Name_kw (ZdL I hg hm hv ?_ hn hdb);exact PyProof.Rows.callWith_builtin1 (thn (ha pos pins s σ H _ I h) fun us s1 ⟨vs,H1,I1,r1,q1⟩=>hc pins s1 σ H1 vs us Q I1 r1 q1) he hpl
theorem ZaQ (hc:Zca X (.type T) r) (hg:Gl X x) (hm:X.mg x=none) (hv:bootBuiltins x=some (.type T)) (ha:PA X (e::es) t) (hn:x≠"__name__":=by decide) (hdb:(x == ("__debug__":Str))=false:=by decide)
  (he:starEach (e::es) X.env=(false,eval e X.env)::starEach es X.env:=by rfl) (hpl:(backTo pos (starEach es X.env)).any (·.1)=false:=by rfl):PE X (.Call (.Name x p) (e::es) [] pos) (tCB r t):=by
 intro pins s σ H Q I h;refine wpAny_Call_Name_kw (ZdL I hg hm hv ?_ hn hdb);exact YbV (thn (ha pos pins s σ H _ I h) fun us s1 ⟨vs,H1,I1,r1,q1⟩=>hc pins s1 σ H1 vs us Q I1 r1 q1) he hpl
end
end L2
namespace HT
open PySem PyProof.Rows
section
open PySem.SeqAt
open PySem.AutoSeq1 (wpAny_loadPart')
open PySem.MeetsSeq PySem.MeetsSeq2 PySem.MeetsSeq3
end
section
variable {prog:Program}{w:World}{A:Around}{E:Value->Shared->Prop}{s:Shared}
theorem cat_tup {t b:Addr}{vs ws:List Value}{Q:Value->Shared->Prop} (ht:IsTup s.heap t vs.toArray) (hb:IsTup s.heap b ws.toArray) (hv:vs≠[])
  (h1:ws=[]->Q (.ref t) s) (h2:ws≠[]->Q (.ref s.heap.objs.size) { s with heap:=s.heap.push { cls:=.type "tuple",data:=.seq (vs++ws).toArray } })
  (hsz:vs.length+ws.length<=sizeLine):wpAny (model prog w) A (binaryOp .Add (.ref t) (.ref b)) Q E s:=by
 obtain⟨⟨cls,dd,data,sl⟩,ho,hc,n,hd⟩:=id ht;obtain⟨⟨cls2,dd2,data2,sl2⟩,ho2,hc2,n2,hd2⟩:=id hb;simp only at hc hd hc2 hd2;subst hc hd hc2 hd2;have e:vs.toArray++ws.toArray=(vs++ws).toArray:=by simp
 by_cases hw:ws=[]
 ·exact concat_meets ⟨_,ho,rfl⟩ ⟨_,ho2,rfl⟩ noFill_tuple_add seq_tuple_add YcV YcS (YcJ _ _)
   (tuple_addW1 t b vs.toArray ws.toArray n n2 dd dd2 sl sl2 (by simpa using hv) (by simp[hw])) ⟨ho,ho2,h1 hw⟩
 ·refine concat_meets ⟨_,ho,rfl⟩ ⟨_,ho2,rfl⟩ noFill_tuple_add seq_tuple_add YcV YcS (YcJ _ _)
   (tuple_addW2 t b vs.toArray ws.toArray n n2 dd dd2 sl sl2 (by simpa using hv) (by simpa using hw) (by rw[Yal,Yal];exact hsz)) ⟨ho,ho2,?_⟩
  rw[e];exact h2 hw
def sIx (n d:Nat):Option Int->Nat
 | none=>d
 | some v=>if v<0 then (v+(n:Int)).toNat else min v.toNat n
theorem sIx_nat (n d k:Nat):sIx n d (some (k:Int))=min k n:=by
 show (if (k:Int)<0 then ((k:Int)+(n:Int)).toNat else min (k:Int).toNat n)=min k n;rw[if_neg (by omega),Ybf]
theorem ZmB (n d:Nat) (hd:d<=n) (o:Option Int):sIx n d o<=n:=by
 cases o with
 | none=>exact hd
 | some v=>
  show (if v<0 then (v+(n:Int)).toNat else min v.toNat n)<=n;by_cases hv:v<0
  ·rw[if_pos hv];(clear hd;omega)
  ·rw[if_neg hv];exact Nat.min_le_right _ _
theorem clip_eq (v:Int) (n d:Nat):(if v<0 then max (v+(n:Int)) 0 else min v (n:Int))=((sIx n d (some v):Nat):Int):=by
 show (if v<0 then max (v+(n:Int)) 0 else min v (n:Int))=(((if v<0 then (v+(n:Int)).toNat else min v.toNat n):Nat):Int);by_cases hv:v<0
 ·simp only[if_pos hv];(clear hv;omega)
 ·simp only[if_neg hv];omega
theorem Zhr (lo hi:Option Int) (n:Nat):Ycx lo hi 1 (n:Int)=(((sIx n 0 lo:Nat):Int),((sIx n n hi:Nat):Int)):=by
 have h1:¬ ((1:Int)<0):=by omega
 unfold Ycx;simp only[h1,if_false];refine Prod.ext ?_ ?_
 ·cases lo with
  | none=>rfl
  | some v=>exact clip_eq v n 0
 ·cases hi with
  | none=>rfl
  | some v=>exact clip_eq v n n
theorem Zg8 (i j:Nat):Yb4 (i:Int) (j:Int) 1=j - i:=by
 unfold Yb4;have h1:(1:Int) > 0:=by omega
 simp only[h1,if_true,Int.ediv_one];split <;> (clear h1;omega)
theorem Zdm {v:Value}{o:Option Int}{Q:Option Int->Shared->Prop} (p:IsPart v o) (h:Q o s):wpAny (model prog w) A (Builtin.Slice.slicePartIndex v) Q E s:=by
 cases p with
 | none=>exact slicePart_none h
 | int i t=>exact slicePart_int h
theorem ZcA {sl:Addr}{vl vu:Value}{lo hi:Option Int}{n:Nat}{Q:Int × Int × Nat->Shared->Prop} (hs:s.heap.IsSliceOf sl vl vu .none) (pl:IsPart vl lo) (pu:IsPart vu hi)
  (h:Q (((sIx n 0 lo:Nat):Int),1,sIx n n hi - sIx n 0 lo) s):wpAny (model prog w) A (Ydj (.ref sl) (pure (n:Int))) Q E s:=by
 obtain⟨os,hos,hcs,hds⟩:=id hs;unfold Ydj Builtin.Slice.sliceFields;refine wpAny_bind (wpAny_bind (wpAny_field hos hds (x:=vl) rfl (wpAny_bind (wpAny_field hos hds (x:=vu) rfl (wpAny_bind (wpAny_field hos hds (x:=.none) rfl (wpAny_pure ?_)))))));refine wpAny_bind (slicePart_none ?_);show wpAny _ _ (if ((1:Int) == 0)=true then _ else _) _ _ s;rw[if_neg (by decide)];refine wpAny_bind (Zdm pl (wpAny_bind (Zdm pu (wpAny_bind (wpAny_pure ?_)))));show wpAny _ _ (match Ycx lo hi 1 (n:Int) with | (lo,hi)=>pure (lo,(1:Int),Yb4 lo hi 1)) _ _ s;rw[Zhr lo hi n];show wpAny _ _ (pure (((sIx n 0 lo:Nat):Int),(1:Int),Yb4 ((sIx n 0 lo:Nat):Int) ((sIx n n hi:Nat):Int) 1)) _ _ s;rw[Zg8];exact wpAny_pure h
theorem Zj0 (xs:Array Value) (i k:Nat):((Ybi k).filterMap fun (m:Nat)=>xs[((i:Int)+(m:Int)*1).toNat]?).toArray=((xs.toList.drop i).take k).toArray:=by
 have e:(fun (m:Nat)=>xs[((i:Int)+(m:Int)*1).toNat]?)=fun m=>xs[i+m]?:=by
  funext m
  have:((i:Int)+(m:Int)*1).toNat=i+m:=by omega
  rw[this]
 rw[e];have:=pick_run xs i k;rw[Ydo] at this;have e2:((fun x=>xs[x]?) ∘ fun x=>i+x)=fun m=>xs[i+m]?:=rfl;rw[e2] at this;rw[this]
theorem getItem_tuple_cut {t sl:Addr}{items:Array Value}{vl vu:Value}{lo hi:Option Int}{Q:Value->Shared->Prop} (ht:IsTup s.heap t items) (hs:s.heap.IsSliceOf sl vl vu .none) (pl:IsPart vl lo) (pu:IsPart vu hi)
  (hw:¬ (sIx items.size 0 lo=0/\sIx items.size items.size hi=items.size))
  (h:Q (.ref s.heap.objs.size) { s with heap:=s.heap.push { cls:=.type "tuple",data:=.seq ((items.toList.drop (sIx items.size 0 lo)).take (sIx items.size items.size hi - sIx items.size 0 lo)).toArray } })
  (hsz:items.size<=sizeLine):wpAny (model prog w) A (getItem (.ref t) (.ref sl)) Q E s:=by
 have htake:sizeOk (.seq ((items.toList.drop (sIx items.size 0 lo)).take (sIx items.size items.size hi - sIx items.size 0 lo)).toArray):=by
  show ((items.toList.drop (sIx items.size 0 lo)).take (sIx items.size items.size hi - sIx items.size 0 lo)).toArray.size<=sizeLine;rw[Yal,YaA,Yb0,YaY]
  (clear hw;omega)
 have hj:sIx items.size items.size hi<=items.size:=ZmB _ _ (Yag _) hi;obtain⟨os,hos,hcs,hds⟩:=id hs;have hTs:s.TypeIs (.ref sl) "slice":=⟨os,hos,hcs⟩
 unfold getItem
 try with_reducible refine wpAny_holding ?_
 first | refine wpAny_bind (wpAny_pure ?_) | skip
 refine wpAny_bind (wpAny_sequenceKey ht.typeIs (by decide) ?_);refine wpAny_bind (wpAny_callSpecial?_slot (name:=YcM "__getitem__") ht.typeIs Yci
  (wpAny_call_entry Yci ht.typeIs entry_tuple_getitem ?_ (args_tuple_getitem _ _)))
 show wpAny _ _ (Builtin.Tuple.tupleItemsOf (.ref t) >>= _) _ _ s;refine wpAny_bind (tupleItemsOf_ ht ?_);refine wpAny_bind (wpAny_typeOf hTs ?_);rw[if_pos (by decide)];refine wpAny_bind (ZcA hs pl pu ?_);have hno:¬ ((((sIx items.size 0 lo:Nat):Int) == 0 && (1:Int) == 1 && (sIx items.size items.size hi - sIx items.size 0 lo) == items.size)=true):=by
  intro q;rw[Ycy,Ycy] at q;have q1:((sIx items.size 0 lo:Nat):Int)=0:=eq_of_beq q.1.1;have q2:sIx items.size items.size hi - sIx items.size 0 lo=items.size:=eq_of_beq q.2;exact hw ⟨by (clear q2 q hj hsz hw;omega),by (clear q1 q hsz hw;omega)⟩
 show wpAny _ _ (if (((sIx items.size 0 lo:Nat):Int) == 0 && (1:Int) == 1 && (sIx items.size items.size hi - sIx items.size 0 lo) == items.size)=true then _ else _) _ _ s;rw[if_neg hno,Zj0]
 first
  | exact wpAny_bind (m:=Yb8 _) (wpAny_newObj_type (wpAny_pure ⟨_,rfl,wpAny_pure h⟩) htake)
  | exact wpAny_bind (m:=Yb8 _) (wpAny_newObj_type (wpAny_bind (wpAny_pure (wpAny_pure ⟨_,rfl,wpAny_pure h⟩))) htake)
  | exact wpAny_bind (wpAny_bind (m:=Yb8 _) (wpAny_newObj_type (wpAny_pure (wpAny_pure ⟨_,rfl,wpAny_pure h⟩)) htake))
  | exact wpAny_bind (wpAny_bind (m:=Yb8 _) (wpAny_newObj_type (wpAny_pure ⟨_,rfl,wpAny_pure h⟩) htake))
end
end HT
namespace L2
open PySem PySem.Spec PyProof.Rows
abbrev TO:=St->Hp->(Option Int->Hp->Prop)->Prop
def PO (X:Cx) (e:Option Expr) (t:TO):Prop :=
 ∀ (pins:List (Addr × Obj)) (s:Shared) (σ:St) (H:Hp) (Q:Option Int->Hp->Prop),Inv X pins σ H s->t σ H Q ->
  wpAny (model X.prog X.w) X.A (evalPart e X.env) (fun u s'=>∃ o H',Inv X pins σ H' s'/\IsPart u o/\Q o H') X.xe s
def Zld:TO:=fun _ H Q=>Q none H
def Znp (t:TE):TO:=fun σ H Q=>t σ H fun x H1=>∃ i,x=.int i/\Q (some i) H1
theorem Zhj {ns:List Int}:∀ {us:List Value},Vals (ns.map V.int) us->IntsAre us ns:=by
 induction ns with
 | nil=>intro us r;rw[Ycl] at r;cases r;exact .nil
 | cons n ns ih=>
  intro us r;rw[YaD] at r
  cases r with
  | cons r1 r2=>
   obtain⟨t,e⟩:=r1;subst e;exact .cons n t (ih r2)
section
variable {X:Cx}{e:Expr}{te:TE}{lo hi:Option Expr}{tl th:TO}{pos p2:Pos}
theorem Zeh:PO X none Zld:=by
 intro pins s σ H Q I h;rw[evalPart_none];exact wpAny_pure ⟨none,H,I,.none,h⟩
theorem ZbO (h:PE X e te):PO X (some e) (Znp te):=by
 intro pins s σ H Q I hw;rw[evalPart_some];refine thn (h pins s σ H _ I hw) fun u s1 ⟨x,H1,I1,r1,q1⟩=>?_;obtain⟨i,rfl,q⟩:=q1;obtain⟨t,rfl⟩:=r1;exact⟨some i,H1,I1,.int i t,q⟩
def SlR (X:Cx) (r:V->Option Int->Option Int->Hp->VK->Prop):Prop :=
 ∀ (pins:List (Addr × Obj)) (s:Shared) (σ:St) (H:Hp) (x:V) (v vl vu:Value) (lo hi:Option Int) (sl:Addr) (Q:VK),Inv X pins σ H s->RelV x v->s.heap.IsSliceOf sl vl vu .none->IsPart vl lo->IsPart vu hi->r x lo hi H Q ->
  ∃ T id,typeLookup (.type T) "__getitem__"=pure (some (.builtin id))/\s.TypeIs v T/\wpAny (model X.prog X.w) X.A (getItem v (.ref sl)) (EP X pins σ Q) X.xe s
def tSl (r:V->Option Int->Option Int->Hp->VK->Prop) (te:TE) (tl th:TO):TE:=fun σ H Q=>te σ H fun x H1=>tl σ H1 fun l H2=>th σ H2 fun u H3=>r x l u H3 Q
theorem ZcF {r:V->Option Int->Option Int->Hp->VK->Prop} (hr:SlR X r) (he:PE X e te) (hl:PO X lo tl) (hu:PO X hi th):PE X (.Subscript e (.Slice lo hi none p2) pos) (tSl r te tl th):=by
 intro pins s σ H Q I h;refine Subscript_ (thn (he pins s σ H _ I h) fun v s1 ⟨x,H1,I1,r1,q1⟩=>?_);refine wpAny_Slice (thn (hl pins s1 σ H1 _ I1 q1) fun vl s2 ⟨l,H2,I2,pl,q2⟩=>thn (hu pins s2 σ H2 _ I2 q2) fun vu s3 ⟨u,H3,I3,pu,q3⟩=>?_);rw[evalPart_none];refine wpAny_pure ?_;have I4:Inv X pins σ H3 { s3 with heap:=s3.heap.push { cls:=.type "slice",data:=.fields #[vl,vu,.none] } }:=I3.kept (t':=s3.toks) fun b ob q=>Yab _ q;obtain⟨T,id,hT,ht,hg⟩:=hr pins { s3 with heap:=s3.heap.push { cls:=.type "slice",data:=.fields #[vl,vu,.none] } } σ H3 x v vl vu l u s3.heap.objs.size Q I4 r1 (YdM ..) pl pu q3;show wpAny (model X.prog X.w) X.A (subscriptTail e (.Slice lo hi none p2) v (.ref s3.heap.objs.size)) (EP X pins σ Q) X.xe { s3 with heap:=s3.heap.push { cls:=.type "slice",data:=.fields #[vl,vu,.none] } };exact tail_any (ops:=[.ref s3.heap.objs.size,v]) ht hT hg (by with_unfolding_all rfl)
def cutV (xs:List V) (lo hi:Option Int):List V:=(xs.drop (HT.sIx xs.length 0 lo)).take (HT.sIx xs.length xs.length hi - HT.sIx xs.length 0 lo)
theorem Zc2 (xs:List V) (lo hi:Option Int):(cutV xs lo hi).length<=xs.length:=by
 unfold cutV;rw[YaA,Yb0];omega
def rSlT (K:Yac):V->Option Int->Option Int->Hp->VK->Prop:=fun x lo hi H Q=>∃ a xs,x=.ref a/\SqT K H a xs /\
 ¬ (HT.sIx xs.length 0 lo=0/\HT.sIx xs.length xs.length hi=xs.length)/\∀ p,H p=none->Q (.ref p) (upd H p (.tup (cutV xs lo hi)))
theorem ZkM:SlR X (rSlT X.K):=by
 intro pins s σ H x v vl vu lo hi sl Q I rx hs pl pu h;obtain⟨a,xs,rfl,hx,hw,q⟩:=h;cases rx;obtain⟨its,r,ht,hz⟩:=I.tuple hx;have hlen:its.toArray.size=xs.length:=by rw[Yal];exact r.length.symm
 refine⟨"tuple",_,Yci.lookup,ht.typeIs,?_⟩;refine HT.getItem_tuple_cut ht hs pl pu (by rw[hlen];exact hw) ?_ (by rw[hlen];exact hz);rw[hlen];refine⟨.ref s.heap.objs.size,_,I.laid (t':=s.toks) (o:=.tup (cutV xs lo hi)) (fun b ob q=>Yab _ q) (Yag _) ?_,rfl,q _ (I.hok.fresh (Yag _))⟩;exact⟨Ybt (Zc2 xs lo hi) hz,_,(r.drop (HT.sIx xs.length 0 lo)).take (HT.sIx xs.length xs.length hi - HT.sIx xs.length 0 lo),IsTupD.new _ _⟩
def ZnD (K:Yac):R2:=fun x y H Q=>∃ a b xs ys,x=.ref a/\y=.ref b/\SqT K H a xs/\SqT K H b ys/\xs≠[]/\xs.length+ys.length<=sizeLine /\
 (ys=[]->Q (.ref a) H)/\(ys≠[]->∀ p,H p=none->Q (.ref p) (upd H p (.tup (xs++ys))))
theorem Vals.nil_iff {xs:List V}{us:List Value} (r:Vals xs us):us=[]↔xs=[]:=by
 cases r with
 | nil=>simp
 | cons _ _=>simp
theorem Zh9:OpR X (binaryOp .Add) (ZnD X.K):=by
 intro pins s σ H x y v u Q I rx ry h;obtain⟨a,b,xs,ys,rfl,rfl,ha,hb,hx,hz,q1,q2⟩:=h;cases rx;cases ry;obtain⟨its,r1,p1,_⟩:=I.tuple ha;obtain⟨its2,r2,p2,_⟩:=I.tuple hb;refine HT.cat_tup p1 p2 (fun z=>hx (r1.nil_iff.mp z)) (fun z=>⟨.ref a,H,I,rfl,q1 (r2.nil_iff.mp z)⟩) (fun z=>?_) (by rw[<- r1.length,<- r2.length];exact hz);refine⟨.ref s.heap.objs.size,_,I.laid (t':=s.toks) (o:=.tup (xs++ys)) (fun b ob q=>Yab _ q) (Yag _) ?_,rfl,q2 (fun w=>z (r2.nil_iff.mpr w)) _ (I.hok.fresh (Yag _))⟩;exact⟨by rw[Yaj];exact hz,_,r1.append r2,IsTupD.new _ _⟩
end
end L2
namespace L2
open PySem PySem.Spec PyProof.Rows
def ixN (n:Nat) (i:Int):Option Nat:=if 0<=i then (if i<n then some i.toNat else none) else if -(n:Int)<=i then some (i+n).toNat else none
def atI {α:Type} (xs:List α) (i:Int):Option α:=(ixN xs.length i).bind fun j=>xs[j]?
theorem ZiN {n:Nat}{i:Int}{j:Nat} (h:ixN n i=some j):seqIndex? i n=some j/\j<n/\-(n:Int)<=i/\i<n:=by
 unfold ixN at h;by_cases h0:0<=i
 ·rw[if_pos h0] at h;by_cases h1:i<n
  ·rw[if_pos h1] at h;have e:i.toNat=j:=Yaw h;exact⟨by rw[seqIndex_of h0 h1,e],by omega,by (clear e h1;omega),h1⟩
  ·rw[if_neg h1] at h;cases h
 ·rw[if_neg h0] at h;by_cases h1:-(n:Int)<=i
  ·rw[if_pos h1] at h;have e:(i+n).toNat=j:=Yaw h;exact⟨by rw[seqIndex_neg (by (clear e h1;omega)) h1,e],by omega,h1,by (clear e h1;omega)⟩
  ·rw[if_neg h1] at h;cases h
theorem Zjr {α:Type}{xs:List α}{i:Int}{v:α} (h:atI xs i=some v):∃ j,seqIndex? i xs.length=some j/\xs[j]?=some v/\j<xs.length/\-(xs.length:Int)<=i/\i<xs.length:=by
 unfold atI at h
 cases e:ixN xs.length i with
 | none=>rw[e] at h;cases h
 | some j=>
  rw[e] at h;obtain⟨h1,h2,h3,h4⟩:=ZiN e;exact⟨j,h1,h,h2,h3,h4⟩
theorem ZeD {α:Type}{xs:List α}{j:Nat}{v:α} (h:xs[j]?=some v):atI xs (j:Int)=some v:=by
 have hj:j<xs.length:=(Yaa.mp h).1
 have e:ixN xs.length (j:Int)=some j:=by
  unfold ixN;rw[if_pos (by (clear hj;omega)),if_pos (by omega)];simp
 unfold atI;rw[e];exact h
theorem ZgO {α:Type} (xs:List α) (v:α):atI (xs++[v]) (-1)=some v:=by
 have hl:(xs++[v]).length=xs.length+1:=by simp
 have e:ixN (xs++[v]).length (-1)=some xs.length:=by
  unfold ixN;rw[hl,if_neg (by decide),if_pos (by (clear hl;omega))];congr 1
  (clear hl;omega)
 unfold atI;rw[e];show (xs++[v])[xs.length]?=some v;simp
def Zju (b:Expr):Prop:=∀ o i,subscripted b false o i=operate [o,i] (getItem o i)
def IxR (X:Cx) (r:R2):Prop :=
 ∀ (value slice:Expr) (pins:List (Addr × Obj)) (s:Shared) (σ:St) (H:Hp) (x y:V) (v u:Value) (Q:VK),Inv X pins σ H s->RelV x v->RelV y u->r x y H Q ->
  subscripted slice false v u=operate [v,u] (getItem v u)->wpAny (model X.prog X.w) X.A (subscriptTail value slice v u) (EP X pins σ Q) X.xe s
def MtR (X:Cx) (id:String) (r:V->List V->Hp->VK->Prop):Prop :=
 ∀ (pins:List (Addr × Obj)) (s:Shared) (σ:St) (H:Hp) (x:V) (xs:List V) (v:Value) (us:List Value) (Q:VK),Inv X pins σ H s->RelV x v->Vals xs us->r x xs H Q ->
  wpAny (model X.prog X.w) X.A (call (.builtin id) (v::us)) (EP X pins σ Q) X.xe s
section
variable {X:Cx}{a b:Expr}{ta tb:TE}{pos:Pos}
theorem ZaV {r:R2} (hr:IxR X r) (ha:PE X a ta) (hb:PE X b tb) (hs:Zju b):PE X (.Subscript a b pos) (tOp r ta tb):=by
 intro pins s σ H Q I h;exact Subscript_ (binT ha hb I h fun v u s2 x y H2 I2 rx ry q=>hr a b pins s2 σ H2 x y v u Q I2 rx ry q (hs _ _))
def rIxL (K:Yac):R2:=fun x y H Q=>∃ p xs i v,x=.ref p/\y=.int i/\SqL K H p xs/\atI xs i=some v/\Q v H
def rIxT (K:Yac):R2:=fun x y H Q=>∃ p xs i v,x=.ref p/\y=.int i/\SqT K H p xs/\atI xs i=some v/\Q v H
theorem Za0:IxR X (rIxL X.K):=by
 intro value slice pins s σ H x y v u Q I rx ry h hs;obtain⟨p,xs,i,z,rfl,rfl,hq,he,q⟩:=h;cases rx;obtain⟨t,rfl⟩:=ry;obtain⟨its,r,pl,hz⟩:=I.list hq;obtain⟨j,h1,h2,h3,h4,h5⟩:=Zjr he;obtain⟨w,ew,rw'⟩:=r.get h2;have hl:=r.length;have hn:=Ze0;have fin:EP X pins σ Q w s:=⟨z,H,I,rw',q⟩
 by_cases h0:0<=i
 ·have hj:i.toNat=j:=by
   rw[seqIndex_of h0 h5] at h1;exact Yaw h1
  exact item_listR pl.isList h0 (by (clear hj h0 hl h4 h3;omega)) (by rw[hj];simpa using ew) fin hs
 ·have hj:(i+(its.toArray.size:Int)).toNat=j:=by
   rw[seqIndex_neg (by (clear hn hl h5 h4 h3 hz;omega)) h4] at h1;rw[Yal,<- hl];exact Yaw h1
  exact subscriptTail_builtinR (x:=w) pl.isList.typeIs slot_list_getitem.lookup
   (wpAny_getItem_list_neg (Q:=fun r s'=>r=w/\EP X pins σ Q r s') pl.isList (by (clear hj hn hl h5 h4 h3 hz;omega)) (by rw[Yal] <;> (clear hj h0 hn h5 h3 hz;omega)) (by (clear hj h0 hl h5 h3;omega)) (by rw[hj];simpa using ew) ⟨rfl,fin⟩) hs
theorem Za9:IxR X (rIxT X.K):=by
 intro value slice pins s σ H x y v u Q I rx ry h hs;obtain⟨p,xs,i,z,rfl,rfl,hq,he,q⟩:=h;cases rx;obtain⟨t,rfl⟩:=ry;obtain⟨its,r,pl,hz⟩:=I.tuple hq;obtain⟨j,h1,h2,h3,h4,h5⟩:=Zjr he;obtain⟨w,ew,rw'⟩:=r.get h2;have hl:=r.length;have hn:=Ze0;have fin:EP X pins σ Q w s:=⟨z,H,I,rw',q⟩
 exact subscriptTail_builtinR (x:=w) pl.typeIs slot_tuple_getitem.lookup
  (getItem_tuple (j:=j) (Q:=fun r s'=>r=w/\EP X pins σ Q r s') pl (by (clear hl h5 h3;omega)) (by (clear hl h4 h3;omega)) (by rw[Yal,<- hl];exact h1) (by simpa using ew) ⟨rfl,fin⟩) hs
theorem Zhg (its:List Value) (n j:Nat) (u:Value):YbI (·.setIfInBounds j u) { cls:=.type "list",data:=.seq its.toArray n }={ cls:=.type "list",data:=.seq (its.set j u).toArray n }:=by
 simp[YbI]
theorem Inv.lst {pins:List (Addr × Obj)}{σ:St}{H:Hp}{s:Shared}{p:Addr}{xs:List V} (I:Inv X pins σ H s) (h:H p=some (.lst xs)) :
  ∃ (its:List Value) (n:Nat),Vals xs its/\s.heap.get? p=some { cls:=.type "list",data:=.seq its.toArray n }/\xs.length<=sizeLine:=by
 obtain⟨z,its,n,r,e⟩:=I.hok p _ h;exact⟨its,n,r,e,z⟩
theorem Inv.lstUpd {pins:List (Addr × Obj)}{σ:St}{H:Hp}{s:Shared}{p:Addr}{xs ys:List V}{its its':List Value}{n n':Nat}{f:Obj->Obj} (I:Inv X pins σ H s) (h:H p=some (.lst xs))
  (ho:s.heap.get? p=some { cls:=.type "list",data:=.seq its.toArray n }) (hf:f { cls:=.type "list",data:=.seq its.toArray n }={ cls:=.type "list",data:=.seq its'.toArray n' }) (r:Vals ys its') (hz:ys.length<=sizeLine) (t:Nat) :
  Inv X pins σ (upd H p (.lst ys)) { s with heap:=s.heap.update p f,toks:=t }:=by
 have e:(s.heap.update p f).get? p=some { cls:=.type "list",data:=.seq its'.toArray n' }:=by
  rw[Yev f ho (by rw[hf] <;> rfl),hf]
 refine I.write (x:=p) (e:=p) (by rw[h];trivial) (.inl rfl) (fun b u hb q=>(Yep _ _ (Yba hb)).trans q) ⟨_,e⟩ ?_;exact⟨hz,its',n',r,e⟩
def ZnA:V->V->V->Hp->(Hp->Prop)->Prop:=fun o i v H Q=>∃ p xs k j,o=.ref p/\i=.int k/\H p=some (.lst xs)/\ixN xs.length k=some j/\Q (upd H p (.lst (xs.set j v)))
theorem Zed:PSet X ZnA:=by
 intro pins s σ H o i v ov iv u Q I ro ri rv h;obtain⟨p,xs,k,j,rfl,rfl,hp,hj,q⟩:=h;cases ro;obtain⟨t,rfl⟩:=ri;obtain⟨its,n,r,ho,hz⟩:=I.lst hp;obtain⟨h1,h2,h3,h4⟩:=ZiN hj;have hl:=r.length;have hn:=Ze0;have I':Inv X pins σ (upd H p (.lst (xs.set j v))) { s with heap:=s.heap.update p (YbI (·.setIfInBounds j u)) } :=
  I.lstUpd hp ho (Zhg its n j u) (r.set rv j) (by rw[List.length_set];exact hz) s.toks
 by_cases h0:0<=k
 ·have hk:k.toNat=j:=by
   rw[seqIndex_of h0 h4] at h1;exact Yaw h1
  exact PySem.W.ki_setAt ho h0 (by (clear hk h0 hl h3 h2;omega)) (by rw[Yal,<- hl];exact h4) (by rw[hk];exact⟨_,I',q⟩)
 ·have hk:(k+(its.toArray.size:Int)).toNat=j:=by
   rw[seqIndex_neg (by (clear hn hl h4 h3 h2 hz;omega)) h3] at h1;rw[Yal,<- hl];exact Yaw h1
  exact PySem.W.ki_setBack ho (by (clear hk hn hl h4 h3 h2 hz;omega)) (by rw[Yal,<- hl];exact h3) (by (clear hk h0 hl h4 h2;omega)) (by rw[hk];exact⟨_,I',q⟩)
theorem ZeP (lo hi:Option Int) (n:Nat):(sliceBounds lo hi none n).1=((HT.sIx n 0 lo:Nat):Int)/\(sliceBounds lo hi none n).2.1=((HT.sIx n n hi:Nat):Int)/\(sliceBounds lo hi none n).2.2=1:=by
 refine⟨?_,?_,rfl⟩
 ·cases lo with
  | none=>simp[sliceBounds,HT.sIx]
  | some i=>
   simp only[sliceBounds,HT.sIx,YeO,show (1:Int) > 0 by decide,if_true];by_cases h:i<0
   ·simp only[h,if_true] <;> omega
   ·simp only[h,if_false] <;> (clear h;omega)
 ·cases hi with
  | none=>simp[sliceBounds,HT.sIx]
  | some i=>
   simp only[sliceBounds,HT.sIx,YeO,show (1:Int) > 0 by decide,if_true];by_cases h:i<0
   ·simp only[h,if_true] <;> omega
   ·simp only[h,if_false] <;> (clear h;omega)
theorem Zec (its:List Value) (lo hi:Option Int):slicePick its.toArray lo hi none=((its.drop (HT.sIx its.length 0 lo)).take (HT.sIx its.length its.length hi - HT.sIx its.length 0 lo)).toArray:=by
 obtain⟨h1,h2,h3⟩:=ZeP lo hi its.toArray.size;unfold slicePick;rw[h1,h2,h3];simp only[sliceRange_one,pick_run,Yal] <;> rfl
def rSlL (K:Yac):V->Option Int->Option Int->Hp->VK->Prop:=fun x lo hi H Q=>∃ a xs,x=.ref a/\SqL K H a xs/\∀ p,H p=none->Q (.ref p) (upd H p (.lst (cutV xs lo hi)))
theorem ZhR:SlR X (rSlL X.K):=by
 intro pins s σ H x v vl vu lo hi sl Q I rx hs pl pu h;obtain⟨a,xs,rfl,hx,q⟩:=h;cases rx;obtain⟨its,r,ht,hz⟩:=I.list hx;have hlen:=r.length;refine⟨"list",_,slot_list_getitem.lookup,ht.isList.typeIs,?_⟩;refine wpAny_getItem_list_slice ht.isList hs pl pu .none (by simp) ?_ (by rw[Yal] <;> omega);rw[Zec,<- hlen];refine⟨.ref s.heap.objs.size,_,I.laid (t':=s.toks) (o:=.lst (cutV xs lo hi)) (fun b ob q=>Yab _ q) (Yag _) ?_,rfl,q _ (I.hok.fresh (Yag _))⟩;exact⟨Ybt (Zc2 xs lo hi) hz,_,0,(r.drop (HT.sIx xs.length 0 lo)).take (HT.sIx xs.length xs.length hi - HT.sIx xs.length 0 lo),Yav _ rfl⟩
theorem ZaC:Zca X (.builtin "len") (fun xs H Q=>∃ p ys,xs=[.ref p]/\(SqL X.K H p ys∨SqT X.K H p ys)/\Q (.int ys.length) H):=by
 intro pins s σ H xs us Q I r h;obtain⟨p,ys,rfl,hq,q⟩:=h;obtain⟨u,rfl,rx⟩:=ZdU r;cases rx;have hn:=Ze0;rcases hq with hq | hq
 ·obtain⟨its,r',pl,hz⟩:=I.list hq;have hlen:=r'.length;exact Calls.call_len_list pl.isList (by simp only[Yal] <;> omega) ⟨.int ys.length,H,I.tok _,⟨s.toks+1,by rw[Yal,hlen]⟩,q⟩
 ·obtain⟨its,r',pl,hz⟩:=I.tuple hq;have hlen:=r'.length;exact len_tuple pl (by simp only[Yal] <;> omega) ⟨.int ys.length,H,I.tok _,⟨s.toks+1,by rw[Yal,hlen]⟩,q⟩
theorem Zfg:Zca X (.type "list") (fun xs H Q=>∃ p ys,xs=[.ref p]/\(SqL X.K H p ys∨SqT X.K H p ys)/\∀ l,H l=none->Q (.ref l) (upd H l (.lst ys))):=by
 intro pins s σ H xs us Q I r h;obtain⟨p,ys,rfl,hq,q⟩:=h;obtain⟨u,rfl,rx⟩:=ZdU r;cases rx;have fin:∀ (its:List Value),Vals ys its->ys.length<=sizeLine->∀ (h':Heap) (c':Nat),(∀ b o',s.heap.get? b=some o'->h'.get? b=some o') ->
   h'.get? s.heap.objs.size=some { cls:=.type "list",dict:=none,data:=.seq its.toArray c',slots:=#[] }->EP X pins σ Q (.ref s.heap.objs.size) { s with heap:=h' }:=fun its r' hz h' c' kp e=>
  ⟨.ref s.heap.objs.size,_,I.laid (t':=s.toks) kp (Yag _) (show ObjOk X.prog X.w _ h' _ (.lst ys) from⟨hz,its,c',r',e⟩),rfl,q _ (I.hok.fresh (Yag _))⟩
 rcases hq with hq | hq
 ·obtain⟨its,r',pl,hz⟩:=I.list hq;have hlen:=r'.length;obtain⟨o,ho,hc,n,hd⟩:=pl.isList;exact call_list_seq p (.inl rfl) ho hc hd (fun h' c' kp e=>fin its r' hz h' c' kp e) (by simp only[Yal] <;> omega)
 ·obtain⟨its,r',pl,hz⟩:=I.tuple hq;have hlen:=r'.length;obtain⟨o,ho,hc,n,hd⟩:=pl;exact call_list_seq p (.inr rfl) ho hc hd (fun h' c' kp e=>fin its r' hz h' c' kp e) (by simp only[Yal] <;> omega)
theorem ZaE:Zca X (.type "tuple") (fun xs H Q=>∃ p ys,xs=[.ref p]/\((SqL X.K H p ys/\∀ l,H l=none->Q (.ref l) (upd H l (.tup ys)))∨(SqT X.K H p ys/\Q (.ref p) H))):=by
 intro pins s σ H xs us Q I r h;obtain⟨p,ys,rfl,h⟩:=h;obtain⟨u,rfl,rx⟩:=ZdU r;cases rx;rcases h with ⟨hq,q⟩ | ⟨hq,q⟩
 ·obtain⟨its,r',pl,hz⟩:=I.list hq;have hlen:=r'.length;refine call_tuple_list pl.isList (fun h' kp=>?_) (by simp only[Yal] <;> omega);have I1:Inv X pins σ H { s with heap:=h' }:=I.kept (t':=s.toks) kp;have I2:Inv X pins σ (upd H h'.objs.size (.tup ys)) { s with heap:=h'.push { cls:=.type "tuple",data:=.seq its.toArray } } :=
   I1.laid (t':=s.toks) (fun b o e=>Yab _ e) (Yag _) (show ObjOk X.prog X.w _ _ _ (.tup ys) from⟨hz,its,r',IsTupD.new _ _⟩)
  exact⟨.ref h'.objs.size,_,I2,rfl,q _ (I1.hok.fresh (Yag _))⟩
 ·obtain⟨its,r',pl,hz⟩:=I.tuple hq;exact call_tuple_same pl ⟨.ref p,H,I,rfl,q⟩
def tyV (K:Yac) (T:String) (x:V) (H:Hp):Prop:=match x with
 | .str _=>T="str"
 | .int _=>T="int"
 | .ref p=>(T="list"/\∃ xs,SqL K H p xs)∨(T="tuple"/\∃ o,K.lookup p=some o/\o.cls=.type "tuple"/\o.dict=none) ∨
   (T="dict"/\((∃ kvs,H p=some (.dK kvs))∨∃ kvs,H p=some (.dT kvs)))∨(T="set"/\∃ S n,H p=some (.set S n))
 | _=>False
theorem Zme {pins:List (Addr × Obj)}{σ:St}{H:Hp}{s:Shared}{T:String}{x:V}{v:Value} (I:Inv X pins σ H s) (r:RelV x v) (ty:tyV X.K T x H) :
  s.TypeIs v T/\∀ a,v=.ref a->∃ ob,s.heap.get? a=some ob/\ob.dict=none:=by
 cases x with
 | str z=>
  obtain⟨t,rfl⟩:=r;cases (show T="str" from ty);exact⟨typeIs_str s z t,fun _ e=>nomatch e⟩
 | int i=>
  obtain⟨t,rfl⟩:=r;cases (show T="int" from ty);exact⟨typeIs_int s i t,fun _ e=>nomatch e⟩
 | ref p=>
  cases r;rcases ty with ⟨rfl,xs,hq⟩ | ⟨rfl,o,hk,hc,hd⟩ | ⟨rfl,hk⟩ | ⟨rfl,S,n,hk⟩
  ·obtain⟨its,_,pl,_⟩:=I.list hq;refine⟨pl.isList.typeIs,fun a e=>?_⟩;cases e;obtain⟨o,n,e,c,hd,_⟩:=pl;exact⟨o,e,hd⟩
  ·refine⟨⟨o,I.kIn p o hk,hc⟩,fun a e=>?_⟩;cases e;exact⟨o,I.kIn _ o hk,hd⟩
  ·have z:∃ o,s.heap.get? p=some o/\o.ExactDict:=by
    rcases hk with ⟨kvs,hk⟩ | ⟨kvs,hk⟩
    ·obtain⟨_,_,_,_,o,_,_,e,ex,_⟩:=I.hok p _ hk;exact⟨o,e,ex⟩
    ·obtain⟨_,_,_,_,o,_,_,e,ex,_⟩:=I.hok p _ hk;exact⟨o,e,ex⟩
   obtain⟨o,e,ex⟩:=z;refine⟨⟨o,e,ex.1⟩,fun a e2=>?_⟩;cases e2;exact⟨o,e,ex.2.1⟩
  ·obtain⟨o,_,_,_,e,ex,_⟩:=I.hok p _ hk;refine⟨⟨o,e,ex.1⟩,fun a e2=>?_⟩;cases e2;exact⟨o,e,ex.2.1⟩
 | _=>exact Yck ty
def tBM (K:Yac) (T:String) (r:V->List V->Hp->VK->Prop) (to:TE) (t:TA):TE:=fun σ H Q=>to σ H fun x H1=>tyV K T x H1/\t σ H1 fun xs H2=>r x xs H2 Q
variable {o e:Expr}{es:List Expr}{to:TE}{t:TA}{name:Str}{apos cpos:Pos}{T id:String}{r:V->List V->Hp->VK->Prop}
theorem ZeW (pa:PlainAttrs T) (slot:Slot T name id) (hty:typeOf (.builtin id)=pure (.type "method_descriptor")) (hm:MtR X id r) (ho:PE X o to) (ha:PA X (e::es) t)
  (hbase:attributeBase o name X.env (eval o X.env)=eval o X.env:=by rfl)
  (hfew:((backTo cpos (starEach (e::es) X.env)).all (fun x=>!x.1) && (backToKw cpos (keywordEach [] X.env)).all (fun x=>x.1.isSome)
   && decide ((e::es).length+([]:List Keyword).length+(if ([]:List Keyword).isEmpty then 0 else 1)<30))=true:=by rfl)
  (hline:(apos.endLine == cpos.line)=true:=by rfl) (hs:starEach (e::es) X.env=(false,eval e X.env)::starEach es X.env:=by rfl) (hplain:(backTo cpos (starEach es X.env)).any (·.1)=false:=by rfl) :
  PE X (.Call (.Attribute o name apos) (e::es) [] cpos) (tBM X.K T r to t):=by
 intro pins s σ H Q I h;refine wpAny_Call_method_late hbase hfew hline rfl (thn (ho pins s σ H _ I h) fun v s1 ⟨x,H1,I1,r1,ty,q1⟩=>?_);obtain⟨h1,h2⟩:=Zme I1 r1 ty;refine⟨T,id,pa,slot,hty,h1,h2,?_⟩;have hA:=ha cpos pins s1 σ H1 _ I1 q1;rw[hs] at hA ⊢;refine Yc5 (by show (false || (backTo cpos (starEach es X.env)).any (·.1))=false;rw[hplain] <;> rfl) (Yex ?_);exact thn hA fun us s2 ⟨vs,H2,I2,r2,q2⟩=>hm pins s2 σ H2 x vs v us Q I2 r1 r2 q2
end
end L2
namespace L2
open PySem PySem.Spec PyProof.Rows
def MtM (X:Cx) (id:String) (r:V->List V->Hp->VK->Prop):Prop :=
 ∀ (pins:List (Addr × Obj)) (s:Shared) (σ:St) (H:Hp) (x:V) (xs:List V) (v:Value) (us:List Value) (Q:VK),Inv X pins σ H s->RelV x v->Vals xs us->r x xs H Q ->
  wpAny (model X.prog X.w) X.A (call (.builtin id) (v::us)) (EP X pins σ Q) X.xe s
theorem Vals.one:∀ {x:V}{us:List Value},Vals [x] us->∃ u,us=[u]/\RelV x u
 | _,_,.cons r .nil=>⟨_,rfl,r⟩
theorem Vals.eraseIdx:∀ {xs:List V}{us:List Value} (i:Nat),Vals xs us->Vals (xs.eraseIdx i) (us.eraseIdx i)
 | _,_,_,.nil=>.nil
 | _,_,0,.cons _ t=>t
 | _,_,i+1,.cons r t=>.cons r (Vals.eraseIdx i t)
theorem Vals.reverse {xs:List V}{us:List Value} (h:Vals xs us):Vals xs.reverse us.reverse:=by
 induction h with
 | nil=>exact .nil
 | cons r t ih=>rw[YbH,YbH];exact Vals.append ih (.cons r .nil)
theorem Vals.rep {xs:List V}{us:List Value} (h:Vals xs us):∀ k:Nat,Vals (Yae k xs).flatten (Yae k us).flatten
 | 0=>.nil
 | k+1=>by
  rw[Ybl,Ybl,YaF,YaF];exact Vals.append h (Vals.rep h k)
theorem Ze1 {α:Type}:∀ (l:List α) (i:Nat),(l.eraseIdx i).length<=l.length
 | [],_=>Yag _
 | _::_,0=>Yc0 _
 | _::r,i+1=>Nat.succ_le_succ (Ze1 r i)
theorem Zc1 (its:List Value):∀ (k:Nat) (acc:List Value),
  Ydb (fun x1 x2=>x1++x2) acc.toArray (Yae k its.toArray)=(acc++(Yae k its).flatten).toArray
 | 0,acc=>by simp
 | k+1,acc=>by
  have e:acc.toArray++its.toArray=(acc++its).toArray:=by simp
  have e2:(acc++its)++(Yae k its).flatten=acc++(Yae (k+1) its).flatten:=by
   rw[Ybl,YaF,YaG]
  rw[<- e2,<- Zc1 its k (acc++its),<- e,Ybl,List.foldl_cons]
section
variable {X:Cx}{pins:List (Addr × Obj)}{σ:St}{H:Hp}{s:Shared}{l b:Addr}{xs ys zs:List V}
theorem Inv.lset {its its':List Value}{n:Nat}{f:Array Value->Array Value}{t':Nat} (I:Inv X pins σ H s) (hH:H l=some (.lst xs))
  (e:s.heap.get? l=some { cls:=.type "list",data:=.seq its.toArray n }) (hf:f its.toArray=its'.toArray) (hv:Vals ys its') (hz:ys.length<=sizeLine) :
  Inv X pins σ (upd H l (.lst ys)) { s with heap:=s.heap.update l (YbI f),toks:=t' }:=by
 have q:=PySem.IsL.update e f;rw[hf] at q;refine I.write (x:=l) (e:=l) (by rw[hH];exact trivial) (.inl rfl) (fun b' u hb hu=>(Yep s.heap (YbI f) (Yba hb)).trans hu) ⟨_,q⟩ ?_;exact⟨hz,its',_,hv,q⟩
theorem Inv.lnew {its:List Value}{t':Nat} (I:Inv X pins σ H s) (hv:Vals ys its) (hz:ys.length<=sizeLine) :
  Inv X pins σ (upd H s.heap.objs.size (.lst ys)) { s with heap:=s.heap.push { cls:=.type "list",data:=.seq its.toArray },toks:=t' } :=
 I.laid (fun _ _ q=>Yab _ q) (Yag _) ⟨hz,its,0,hv,Yav _ rfl⟩
theorem Inv.fresh (I:Inv X pins σ H s):H s.heap.objs.size=none:=I.hok.fresh (Yag _)
theorem Inv.lstM (I:Inv X pins σ H s) (hH:H l=some (.lst xs)):xs.length<=sizeLine/\∃ (its:List Value) (n:Nat),Vals xs its/\xs.length=its.length/\s.heap.get? l=some { cls:=.type "list",data:=.seq its.toArray n }:=by
 obtain⟨z,its,n,r,e⟩:=I.hok l _ hH;exact⟨z,its,n,r,r.length,e⟩
theorem Zeo {n:Nat} (h:n<=sizeLine):YbA n=false:=by
 unfold YbA;exact decide_eq_false (by omega)
end
section
variable {X:Cx}
def Zlw:V->List V->Hp->VK->Prop:=fun x vs H Q=>∃ l xs y,x=.ref l/\vs=[y]/\H l=some (.lst xs)/\xs.length<sizeLine/\Q .non (upd H l (.lst (xs++[y])))
theorem Za6:MtM X "list.append" Zlw:=by
 intro pins s σ H x vs v us Q I rx rv h;obtain⟨l,xs,y,rfl,rfl,hH,hz,q⟩:=h;cases rx;obtain⟨u,rfl,ru⟩:=rv.one;obtain⟨z,its,n,r,hl,e⟩:=I.lstM hH;refine call_meets F.slot_list_append ⟨_,e,rfl⟩ F.entry_list_append (F.args_list_append_2 _ _) (PySem.list_append l its.toArray n u (by rw[Yal];(clear z;omega))) ⟨e,?_⟩;refine⟨.non,_,I.lset (its':=its++[u]) hH e (by simp) (r.append (.cons ru .nil)) ?_,rfl,q⟩;rw[Yaj,List.length_singleton]
 (clear hl z;omega)
def Zlv:V->List V->Hp->VK->Prop:=fun x vs H Q=>∃ l b xs zs,x=.ref l/\vs=[.ref b]/\H l=some (.lst xs)/\H b=some (.lst zs)/\xs.length+zs.length<=sizeLine/\Q .non (upd H l (.lst (xs++zs)))
theorem Ziu:MtM X "list.extend" Zlv:=by
 intro pins s σ H x vs v us Q I rx rv h;obtain⟨l,b,xs,zs,rfl,rfl,hH,hB,hz,q⟩:=h;cases rx;obtain⟨u,rfl,ru⟩:=rv.one;cases ru;obtain⟨z,its,n,r,hl,e⟩:=I.lstM hH;obtain⟨z2,its2,n2,r2,hl2,e2⟩:=I.lstM hB;have hsz:its.toArray.size+its2.toArray.size<=sizeLine:=by rw[Yal,Yal];(clear z2 z;omega)
 have hlong:¬ (!its.toArray.isEmpty && YbA (its.toArray.size+its2.toArray.size))=true:=by
  rw[Zeo hsz,Bool.and_false];exact YaO
 refine call_meets F.slot_list_extend ⟨_,e,rfl⟩ F.entry_list_extend (F.args_list_extend_2 _ _)
  (AutoSeq1.list_extend_list_list_0 l its.toArray n b its2.toArray n2 hlong (by rw[Yal];(clear hlong hsz hl2 z2 z;omega)) (by (clear hlong hl2 z2 hl z hz;omega))) ⟨e,e2,?_⟩
 refine⟨.non,_,I.lset (its':=its++its2) hH e (by simp) (r.append r2) ?_,rfl,q⟩;rw[Yaj]
 (clear hlong hsz hl2 z2 hl z;omega)
def ZmG:V->List V->Hp->VK->Prop:=fun x vs H Q=>∃ l xs i k y,x=.ref l/\vs=[.int i]/\H l=some (.lst xs)/\-(2 ^ 63)<=i/\i<2 ^ 63/\seqIndex? i xs.length=some k/\xs[k]?=some y/\Q y (upd H l (.lst (xs.eraseIdx k)))
theorem Zkn:MtM X "list.pop" ZmG:=by
 intro pins s σ H x vs v us Q I rx rv h;obtain⟨l,xs,i,k,y,rfl,rfl,hH,h1,h2,hk,hy,q⟩:=h;cases rx;obtain⟨u,rfl,ru⟩:=rv.one;obtain⟨t,rfl⟩:=ru;obtain⟨z,its,n,r,hl,e⟩:=I.lstM hH;obtain⟨w,hw,rw'⟩:=r.get hy;refine call_meets F.slot_list_pop ⟨_,e,rfl⟩ F.entry_list_pop (F.args_list_pop_2 _ _)
  (MeetsSeq.list_pop_at l its.toArray n i t k w (fitsIndex_both h1 h2) (by rw[Yal,<- hl];exact hk) (by rw[<- Yan];exact hw) (by rw[Yal];(clear h2 h1;omega))) ⟨e,?_⟩
 refine⟨y,_,I.lset (its':=its.eraseIdx k) hH e ?_ (r.eraseIdx k) ?_,rw',q⟩
 ·show its.toArray.eraseIdxIfInBounds k=(its.eraseIdx k).toArray;rw[List.eraseIdxIfInBounds_toArray]
 ·have:=Ze1 xs k
  (clear hl h2 h1;omega)
def rCat:R2:=fun x y H Q=>∃ l b xs zs,x=.ref l/\y=.ref b/\H l=some (.lst xs)/\H b=some (.lst zs)/\xs.length+zs.length<=sizeLine/\∀ p,H p=none->Q (.ref p) (upd H p (.lst (xs++zs)))
theorem ZdE:OpR X (binaryOp .Add) rCat:=by
 intro pins s σ H x y v u Q I rx ry h;obtain⟨l,b,xs,zs,rfl,rfl,hH,hB,hz,q⟩:=h;cases rx;cases ry;obtain⟨z,its,n,r,hl,e⟩:=I.lstM hH;obtain⟨z2,its2,n2,r2,hl2,e2⟩:=I.lstM hB;refine PySem.P.add_list e e2 ?_ (by rw[Yal,Yal];(clear z2 z;omega));have ea:its.toArray++its2.toArray=(its++its2).toArray:=by simp
 rw[ea];exact⟨.ref _,_,I.lnew (t':=s.toks) (r.append r2) (by rw[Yaj];(clear hl2 z2 hl z;omega)),rfl,q _ I.fresh⟩
def rRep:R2:=fun x y H Q=>∃ l k xs,x=.ref l/\y=.int k/\H l=some (.lst xs)/\-(2 ^ 63)<=k/\k<2 ^ 63/\xs.length*k.toNat<=sizeLine /\
 ∀ p,H p=none->Q (.ref p) (upd H p (.lst (Yae k.toNat xs).flatten))
theorem ZfL {α:Type} (xs:List α) (k:Nat):(Yae k xs).flatten.length=k*xs.length:=by
 induction k with
 | zero=>simp
 | succ k ih=>rw[Ybl,YaF,Yaj,ih,Nat.succ_mul,Nat.add_comm]
theorem ZeX:OpR X (binaryOp .Mult) rRep:=by
 intro pins s σ H x y v u Q I rx ry h;obtain⟨l,k,xs,rfl,rfl,hH,h1,h2,hz,q⟩:=h;cases rx;obtain⟨t,rfl⟩:=ry;obtain⟨z,its,n,r,hl,e⟩:=I.lstM hH;have hlen:its.toArray.size*k.toNat<=sizeLine:=by rw[Yal,<- hl];exact hz
 have hcap:¬ its.toArray.size*k.toNat > (2 ^ 63 - 1) / 8:=by
  have:(sizeLine:Nat)<=(2 ^ 63 - 1) / 8:=by decide
  (clear hl z hz h2 h1;omega)
 have hfit:¬ (!Builtin.List.listFitsIndex k)=true:=by
  rw[fitsIndex_both h1 h2];exact YaO
 have hlong:¬ YbA (its.toArray.size*k.toNat)=true:=by
  rw[Zeo hlen];exact YaO
 have hnew:Ydb (fun x1 x2=>x1++x2) #[] (Yae (if its.toArray.isEmpty=true then 0 else k.toNat) its.toArray)=(Yae k.toNat its).flatten.toArray:=by
  have f0:∀ m:Nat,Ydb (fun x1 x2=>x1++x2) #[] (Yae m its.toArray)=(Yae m its).flatten.toArray:=fun m=>by
   have:=Zc1 its m [];rw[Yb6] at this;exact this
  rw[f0]
  cases its with
  | nil=>simp
  | cons a r'=>rw[if_neg (by simp)]
 refine wpAny_binaryOp_repeat_ref (T:="list") (U:="int") (by decide) ⟨_,e,rfl⟩ (fun s'=>typeIs_int s' k t) noFill_list_mul F.fills_int_mul F.slot_int_rmul repeat_list F.slot_int_index.lookup
  (call_meets F.slot_int_rmul (typeIs_int s k t) F.entry_int_rmul (F.args_int_rmul_2 _ _) (int___rmul___int_list k t l its.toArray n)
   ⟨e,rfl,⟨_,e,rfl⟩,call_meets F.slot_list_mul ⟨_,e,rfl⟩ F.entry_list_mul (F.args_list_mul_2 _ _) (AutoListH.list___mul___list_int_3 l its.toArray n k t hfit hcap hlong) ⟨e,?_⟩⟩)
 rw[hnew];exact⟨.ref _,_,I.lnew (t':=s.toks) (r.rep k.toNat) (by rw[ZfL,YeC];exact hz),rfl,q _ I.fresh⟩
end
section
variable {prog:Program}{w:World}{A:Around}{E:Value->Shared->Prop}{s:Shared}
set_option maxRecDepth 100000 in
end
section
variable {X:Cx}
end
end L2
namespace Att
open PySem PySem.W PySem.Calls PyProof.Rows
theorem ZcY {P:Params}{h:Heap}:∀ (ns:List Int) (vs:List Value),WellAll P h vs (ns.map WData.int)->IntsAre vs ns:=by
 intro ns
 induction ns with
 | nil=>
  intro vs w;rw[Ycl] at w;cases w;exact .nil
 | cons n ns ih=>
  intro vs w;rw[YaD] at w
  cases w with
  | cons a b=>
   cases a;exact .cons _ _ (ih _ b)
theorem ZhS {l:OpenLaw}{n:Nat} (hn:l.most=some n) {P:Params}{h:Heap}{args:List WData}{vals:List Value}
  (hpre:l.row.toRowW.claim.pre args=true) (hwl:WellAll P h vals args) :
  ∃ a vs ns,vals=[Ya9 a]/\args=[WData.list (ns.map WData.int)]/\h.get? a=some { cls:=.type "list",data:=.seq vs.toArray }/\IntsAre vs ns/\ns.length<=n:=by
 have hsh:WShape.hasAll [] args [.list .int]=true:=(pre_splitW hpre).1
 have hc:l.pre.holds [] { args:=args }=true:=(pre_splitW hpre).2
 obtain⟨d,r,rfl,h1,h2⟩:=hasAllW_cons hsh;obtain rfl:=hasAllW_nil h2;obtain⟨xs,rfl,h3⟩:=hasW_list h1;obtain⟨ns,rfl⟩:=items_int h3;have hlen:ns.length<=n:=by
  unfold OpenLaw.pre at hc;have h4:(WTm.not (.lt (.lit (.int (n:Int))) (.len (.arg 0)))).holds [] { args:=[.list (ns.map .int)] }=true:=by
   have h4:=(holds_andW hc).1
   rw[hn] at h4;exact h4
  have h5:=condW_of h4 (w_not (w_lt w_lit (w_len_list (w_arg rfl))));rw[Yad] at h5;refine YdK fun q=>?_;have q':(n:Int)<((ns.length:Nat):Int):=by omega
  first
   | (rw[decide_eq_true q'] at h5;exact absurd h5 (by decide))
   | (simp at h5;omega)
 cases hwl with
 | cons w1 w2=>
  cases w2
  cases w1 with
  | list ho hall=>exact⟨_,_,ns,rfl,rfl,ho,ZcY ns _ hall,hlen⟩
theorem ZhY (l:OpenLaw) (args:List WData):l.row.toRowW.claim.post args (.bool true) args=true :=
 postW_of (r:=l.row.toRowW) (X:=(true == true))
  (show WShape.has [] (.bool true) .bool=true by first | rfl | decide | simp[WShape.has,WShape.arms,WShape.armsAll])
  (show (WTm.eq .res (.lit (.bool true))).value [] { args:=args,res:=some (.bool true),after:=args }=some (.bool (true == true)) from w_eq_bool (w_res rfl) w_lit) rfl
theorem attach_call {l:OpenLaw}{n:Nat}{q:Program}{loose:List Str}{XP:(Str->Option Value)->Heap->Prop}{YP:World->Heap->Prop}{d:DefRec}
  (hn:l.most=some n) (hdf:d.params.defaults=[])
  (call:∀ (w:World) (s₀ s₁:Shared) (mg mb:Str->Option Value) (fa:Addr) (o:Obj) (pm cd doc:Value) (a:Addr) (vs:List Value) (ns:List Int),
   Ground q loose [] XP w s₀ mg mb s₁.heap->YP w s₁.heap ->
   s₁.heap.get? fa=some o->o.data=.func (docDef d.name d.params d.body d.scope pm cd doc)->s₁.heap.CodeRec cd d.name->mg d.name=some (.ref fa) ->
   s₁.heap.get? a=some { cls:=.type "list",data:=.seq vs.toArray }->IntsAre vs ns->ns.length<=n->s₁.gens=#[] ->
   codeAny (model l.prog w) callerA (.call (.ref fa) ⟨[.ref a],[]⟩) (fun r s'=>r=.ok (.ret (.bool true))/\OldK s₁.heap s'.heap/\s'.os=s₁.os/\AllBare s'.gens) s₁) :
  WalkO q loose XP YP l.row.toRowW d [] (fun f vs=>YeN f vs):=by
 intro w s₀ s₁ mg mb G Y fa o pm cd doc dV kV ho hd hcd hD hmg hg args vals as hpre hlay hrd hwl hlo;obtain rfl:dV=.none:=Dflts.none hD hdf;obtain rfl:kV=.none:=Dflts.noKw hD;obtain⟨a,vs,ns,rfl,rfl,hobj,hints,hlen⟩:=ZhS hn hpre hwl;refine enter_call (codeAny_mono (call w s₀ s₁ mg mb fa o pm cd doc a vs ns G Y ho (fd_plain hd) hcd hmg hobj hints hlen hg) fun r s' hq=>?_);obtain⟨rfl,h2,h3,h4⟩:=hq;exact⟨.inl ⟨.bool true,.bool true,[],rfl,fun _=>rfl,.bool true,ZhY l _,fun _=>⟨YbY,fun _ hm=>(nomatch hm)⟩⟩,h2,h3,h4⟩
section
variable {prog:Program}{w:World}{A:Around}{E:Value->Shared->Prop}{s:Shared}{K:Frag}
def Zn0 (h:Heap) (L d:Addr):List (Addr × Obj):=(Ybi h.objs.size).filterMap fun a=>if a=L∨a=d then none else (h.get? a).map fun o=>(a,o)
end
end Att
namespace L2
open PySem PySem.Spec PyProof.Rows
theorem ZeG:∀ {vs:List Value}{ns:List Int},IntsAre vs ns->Vals (ns.map V.int) vs
 | _,_,.nil=>.nil
 | _,_,.cons n t h=>.cons ⟨t,rfl⟩ (ZeG h)
def Only (H:Hp):Prop:=∀ b,H b=none∨∃ o xs,H b=some (.frz o (.lst xs))
theorem Zks {P:Program}{w:World}{K:Yac}{mg mb:Str->Option Value}{CX:CXT}{k:Nat}{fa a:Addr}{fd:FuncData}{x:Str}{sp:Sp}{s₁:Shared}{vs:List Value}{ns:List Int}
  (KX:K.In s₁.heap) (hns:s₁.heap.Ns mainGlobals mg) (hb:s₁.heap.Ns builtinsNs mb) (hbb:∀ x:Str,x≠"__name__"->mb x=bootBuiltins x) (hlim:s₁.heap.NoLimit) (hg:s₁.gens=#[])
  (ha:s₁.heap.get? a=some { cls:=.type "list",data:=.seq vs.toArray }) (hi:IntsAre vs ns) (hl:ns.length<=sizeLine) (hr:Room k callerA)
  (F:∀ base:Heap,K.In base->base.Ns mainGlobals mg->FnOk P w K mg base CX k fa fd [x] sp) (hbind:∀ (s:Shared) (u:Value),BindsTo s fd ⟨[u],[]⟩ [(x,u)])
  (hsp:∀ H:Hp,Only H->SqL K H a (ns.map V.int)->sp [.ref a] H (fun v _=>v=.bl true) fun _ _ _=>False)
  (hCX:∀ H e s',CX [] H s₁ (fun _ _ _=>False) e s'->False) :
  codeAny (model P w) callerA (.call (.ref fa) ⟨[.ref a],[]⟩) (fun r s'=>r=.ok (.ret (.bool true))/\OldK s₁.heap s'.heap/\s'.os=s₁.os/\AllBare s'.gens) s₁:=by
 have rv:=ZeG hi;have lenV:=hi.length;have core:∀ H:Hp,Only H->SqL K H a (ns.map V.int)->HOk P w H s₁.heap->(∀ b,H b≠none->b=a)->(H a≠none->K.lookup a=none) ->
   codeAny (model P w) callerA (.call (.ref fa) ⟨[.ref a],[]⟩) (fun r s'=>r=.ok (.ret (.bool true))/\OldK s₁.heap s'.heap/\s'.os=s₁.os/\AllBare s'.gens) s₁:=by
  intro H hO hS hok hA hK;have base_of:∀ {b:Addr}{o:Obj},s₁.heap.get? b=some o->H b=none->(hidT s₁.heap H).get? b=some o:=fun e n=>Zky e n;have noA:∀ {b:Addr}{o:Obj}{es:Array DictEntry}{ep:Nat},s₁.heap.get? b=some o->o.data=.dict es ep->H b=none:=fun {b o es ep} e d=>by
   cases q:H b with
   | none=>rfl
   | some u=>
    have e':b=a:=hA b (by rw[q];simp);subst e';rw[ha] at e;cases e;have d':Data.seq vs.toArray _=Data.dict es ep:=d;cases d'
  have nsK:∀ {b:Addr}{m:Str->Option Value},s₁.heap.Ns b m->(hidT s₁.heap H).Ns b m:=fun {b m} ⟨o,es,ep,e,d,r⟩=>⟨o,es,ep,base_of e (noA e d),d,r⟩
  have hKb:K.In (hidT s₁.heap H):=fun b o e=>base_of (KX b o e) (by
   cases q:H b with
   | none=>rfl
   | some u=>
    have e':b=a:=hA b (by rw[q];simp);subst e';rw[hK (by rw[q];simp)] at e;cases e)
  have hM:Mod K mg (hidT s₁.heap H):=⟨hKb,nsK hns,⟨mb,nsK hb,hbb⟩,let ⟨mc,h1,h2⟩:=hlim;⟨mc,nsK h1,h2⟩⟩
  have e0:Env0 P w K mg (hidT s₁.heap H) callerA [] s₁ H:=⟨rfl,hM,fun b o e=>ZlO e,Nat.le_of_eq (ZiW _ _),trivial,fun b hb=>absurd (show b∈([]:List Addr) from hb) (by simp),hok,.of_eq hg⟩
  refine codeAny_mono ((F _ hKb (nsK hns)).run callerA [] s₁ H ⟨[.ref a],[]⟩ [.ref a] [.ref a] _ _ hr e0 (hbind s₁ (.ref a)) (.cons rfl .nil) (hsp H hO hS)) fun r s' h=>?_
  cases r with
  | error e=>exact (hCX H e s' h).elim
  | ok fl=>
   cases fl with
   | next=>exact Yck h
   | brk=>exact Yck h
   | cont=>exact Yck h
   | ret u=>
    obtain⟨v,H',os,bare,un,hok',r',q⟩:=h;have q':v=.bl true:=q;subst q';obtain rfl:u=YeM true:=r';refine⟨rfl,OldK.of_keep fun b o e=>?_,os,bare⟩
    cases q:H b with
    | none=>exact un.keep b o e q (by intro z;exact absurd (show b∈([]:List Addr) from z) (by simp)) (by simp)
    | some u=>
     rcases hO b with z | ⟨ob,xs,z⟩
     ·rw[q] at z;cases z
     ·have z2:=un.frzs b ob _ z;obtain⟨e1,_⟩:=hok b _ z;obtain⟨e2,_⟩:=hok' b _ z2;rw[e] at e1;cases e1;exact e2
 cases hk:K.lookup a with
 | some o=>
  have e:=KX a o hk;rw[ha] at e;cases e;refine core (fun _=>none) (fun _=>.inl rfl) (.inr ⟨_,vs.toArray,_,hk,rfl,rfl,rfl,by rw[Yal,lenV];exact hl,by simpa using rv⟩) (fun b u z=>by have z':(none:Option HO)=some u:=z;cases z') (fun b z=>absurd rfl z) fun z=>absurd rfl z
 | none=>
  refine core (fun b=>if b=a then some (.frz { cls:=.type "list",data:=.seq vs.toArray } (.lst (ns.map V.int))) else none) (fun b=>?_) (.inl (.inr ⟨{ cls:=.type "list",data:=.seq vs.toArray },if_pos rfl⟩)) (fun b u z=>?_) (fun b z=>?_) fun _=>hk
  ·by_cases hb:b=a
   ·exact .inr ⟨_,_,if_pos hb⟩
   ·exact .inl (if_neg hb)
  ·by_cases hb:b=a
   ·have z':=(if_pos hb).symm.trans z;cases z';subst hb;exact⟨ha,by rw[Yad];exact hl,vs,_,rv,ha⟩
   ·have z':=(if_neg hb).symm.trans z;cases z'
  ·by_cases hb:b=a
   ·exact hb
   ·exact absurd (if_neg hb) z
end L2
namespace L2
open PySem PySem.Spec PyProof.Rows
theorem walk_of {l:Ydz}{n k:Nat}{q:Program}{loose:List Str}{XP:(Str->Option Value)->Heap->Prop}{YP:World->Heap->Prop}{d:DefRec}{K:Params->Yac}{CX:World->CXT}{sp:World->Sp}{x:Str}
  (hn:l.most=some n) (hn2:n<=sizeLine) (hdf:d.params.defaults=[]) (hr:Room k callerA)
  (hY:∀ (w:World) (h:Heap),YP w h->(K w.params).In h)
  (F:∀ (w:World) (mg:Str->Option Value) (fa:Addr) (h:Heap),(K w.params).In h->h.Ns mainGlobals mg->mg d.name=some (.ref fa) ->
   ∃ fd:FuncData,(∀ (s:Shared) (u:Value),BindsTo s fd ⟨[u],[]⟩ [(x,u)]) /\
    ∀ base:Heap,(K w.params).In base->base.Ns mainGlobals mg->FnOk l.prog w (K w.params) mg base (CX w) k fa fd [x] (sp w))
  (hsp:∀ (w:World) (H:Hp) (a:Addr) (ns:List Int),ns.length<=n->Only H->SqL (K w.params) H a (ns.map V.int)->sp w [.ref a] H (fun v _=>v=.bl true) fun _ _ _=>False)
  (hCX:∀ (w:World) (H:Hp) (s:Shared) (e:Value) (s':Shared),CX w [] H s (fun _ _ _=>False) e s'->False) :
  Ye6 q loose XP YP l.row.toRowW d [] (fun f vs=>YeN f vs):=by
 refine Att.attach_call hn hdf fun w s₀ s₁ mg mb fa o pm cd doc a vs ns G Y ho hd hcd hmg hobj hints hlen hg=>?_;have KX:=hY w _ Y;obtain⟨fd,hb,hF⟩:=F w mg fa _ KX G.T.g hmg;exact Zks KX G.T.g G.T.b G.T.builtins G.T.nolimit hg hobj hints (Ybt hlen hn2) hr hF hb (fun H hO hS=>hsp w H a ns hlen hO hS) fun H e s'=>hCX w H s₁ e s'
end L2
namespace L2
open PySem PySem.Spec PyProof.Rows
def Zal (s:Stmt):Arguments:=match s with
 | .FunctionDef _ a _ _ _ _ _ _ _ _=>a
 | _=>{ posonlyargs:=[],args:=[],vararg:=none,kwonlyargs:=[],kw_defaults:=[],kwarg:=none,defaults:=[] }
def Zaj (s:Stmt):List Stmt:=match s with
 | .FunctionDef _ _ b _ _ _ _ _ _ _=>b
 | _=>[]
def Zac (s:Stmt):Scope:=match s with
 | .FunctionDef _ _ _ _ _ _ sc _ _ _=>sc
 | _=>{ kind:=.function,names:=[],isGenerator:=false,isCoroutine:=false }
abbrev CX0:CXT:=fun _ _ _ _ _ _=>False
abbrev E0:XK:=fun _ _ _=>False
theorem ZmP {X:Cx}:Zjv CX0 X E0:=fun _ _ _ _ _ _ _ h=>h.elim
structure Fun (K:Yac) (x qual:Str) (st:Stmt) (f:Addr) (fd:FuncData):Prop where
 ex:∃ (oc:Value) (od:Option Addr) (kV doc pm:Value) (an:Option Addr) (cdv ct:Value) (osl:Array (Option Value)),
  fd=Yax x qual (Zal st) (Zaj st) (Zac st) .none kV doc pm an cdv ct/\K.lookup f=some ⟨oc,od,.func fd,osl⟩/\Yat K cdv qual=true
 kp:Yaq K (.ref f)=true
section
variable {P:Program}{w:World}{K:Yac}{mg:Str->Option Value}{base:Heap}
theorem Fun.ok {x qual:Str}{st:Stmt}{f:Addr}{fd:FuncData}{N ps:List Str}{k:Nat}{sp:Sp} (F:Fun K x qual st f fd) (S:FnScope N ps (Zac st)) (len:∀ vs H Q E,sp vs H Q E->vs.length=ps.length)
  (hbody:∀ (cdv:Value) (A:Around) (outer:List Env) (s:Shared) (H:Hp) (vs:List V) (Q:VK) (E:XK),Room k (A.deeper (envOfC qual (Zac st) s.heap.objs.size f cdv))->sp vs H Q E ->
   ∃ t,PSs (cxOf CX0 P w K mg base N qual (Zac st) f cdv A outer s H E).nox (Zaj st) t/\t { nx:=fun _ H'=>Q .non H',rt:=Q } (Zda N vs) H):FnOk P w K mg base CX0 (k+1) f fd ps sp:=by
 obtain⟨oc,od,kV,doc,pm,an,cdv,ct,osl,rfl,lk,hcd⟩:=F.ex;refine Zna lk hcd S len fun A outer s H vs Q E hr hsp=>?_;obtain⟨t,h,q⟩:=hbody cdv A outer s H vs Q E hr hsp;exact⟨t,h.nox,q⟩
theorem Fun.binds {x qual:Str}{st:Stmt}{f:Addr}{fd:FuncData}{ps:List Str} (F:Fun K x qual st f fd)
  (h:∀ (kV doc pm:Value) (an:Option Addr) (cdv ct:Value) (us:List Value),us.length=ps.length->bindArgs (Yax x qual (Zal st) (Zaj st) (Zac st) .none kV doc pm an cdv ct) ⟨us,[]⟩=pure (ps.zip us)):Binds K fd ps []:=by
 obtain⟨oc,od,kV,doc,pm,an,cdv,ct,osl,rfl,lk,hcd⟩:=F.ex;exact .all (h kV doc pm an cdv ct)
theorem Zav {x qual:Str}{st:Stmt}{f:Addr}{oc:Value}{od an:Option Addr}{osl:Array (Option Value)}{kV doc pm cdv ct:Value} (l:K.lookup f=some ⟨oc,od,.func (Yax x qual (Zal st) (Zaj st) (Zac st) .none kV doc pm an cdv ct),osl⟩)
  (c:Yat K cdv qual=true) (k:Yaq K (.ref f)=true):Fun K x qual st f (Yax x qual (Zal st) (Zaj st) (Zac st) .none kV doc pm an cdv ct):=⟨⟨oc,od,kV,doc,pm,an,cdv,ct,osl,rfl,l,c⟩,k⟩
end
theorem ZnW {A:Around}{k:Nat} (hr:Room k A):A.units+1<cLine:=YeZ (Nat.add_le_add_left (by decide:1<=64) _) hr.units
theorem Zas {n:Nat} (h:n<=1000):n<sizeLine:=YeZ h (by decide)
section
variable {X:Cx}
theorem pv (i:Nat) {x:Str}{pos:Pos} (hN:X.N[i]?=some x:=by rfl) (hv:Vis X.env.scope x:=by first | exact YaK rfl | exact Yen (YaK rfl) | exact Yen (Yen rfl)) (hd:(x == ("__debug__":Str))=false:=by decide)
  (hcd:(x == ("__classdict__":Str))=false:=by decide):PE X (.Name x pos) (tVar i):=ZkR hN hv hd hcd
end
theorem iteF {A B:Prop} (h:B):if false=true then A else B:=by
 rw[if_neg YaO];exact h
theorem iteT {A B:Prop} (h:A):if true=true then A else B:=by
 rw[if_pos rfl];exact h
theorem ite2 {c A B:Prop} [Decidable c] (h1:c->A) (h2:¬ c->B):if c then A else B:=by
 by_cases h:c
 ·rw[if_pos h];exact h1 h
 ·rw[if_neg h];exact h2 h
def Same (H H':Hp):Prop:=∀ b o,H b=some o->H' b=some o
theorem Same.refl (H:Hp):Same H H:=fun _ _ h=>h
theorem Same.trans {H H1 H2:Hp} (a:Same H H1) (b:Same H1 H2):Same H H2:=fun c o h=>b c o (a c o h)
theorem Same.free {H H':Hp} (e:Same H H') {l:Addr} (h:H' l=Option.none):H l=Option.none:=by
 cases q:H l with
 | none=>rfl
 | some o=>
  rw[e l o q] at h;cases h
theorem Same.seq {K:Yac}{H H':Hp}{a:Addr}{xs:List V} (e:Same H H') (h:SqL K H a xs):SqL K H' a xs:=by
 rcases h with (h | ⟨o,h⟩) | h
 ·exact .inl (.inl (e _ _ h))
 ·exact .inl (.inr ⟨o,e _ _ h⟩)
 ·exact .inr h
end L2
set_option maxHeartbeats 4000000
namespace L2
open PySem PySem.Spec PyProof.Rows
def Zbq (env:Env):List (Str × NameKind)->List (Str × Addr)->List (Str × Addr)
 | [],cs=>cs
 | (n,k)::r,cs=>Zbq env r (if k == .free then (n,(env.cells.lookup n).getD 0)::cs else cs)
abbrev clOf (scope:Scope) (env:Env):List (Str × Addr):=Zbq env scope.names []
theorem Zb7 {env:Env}:∀ (names:List (Str × NameKind)) (cs:List (Str × Addr)),(∀ x∈names,x.2=.free->∃ c,env.cells.lookup x.1=some c) ->
  (forIn names cs fun (x:Str × NameKind) r=>do
   if x.2 == .free then
    let c <- cellOf env x.1
    pure (Ya4 ((x.1,c)::r))
   else pure (Ya4 r):Sem (List (Str × Addr)))=pure (Zbq env names cs)
 | [],cs,_=>rfl
 | (n,k)::r,cs,h=>by
  rw[YdS];have ih:=fun cs'=>Zb7 (env:=env) r cs' fun x hx=>h x (Yam _ hx);by_cases hk:k=.free
  ·subst hk;obtain⟨c,hc⟩:=h (n,.free) Yai rfl;have hc':env.cells.lookup n=some c:=hc;have ec:cellOf env n=pure c:=by unfold cellOf;rw[hc']
   dsimp only;rw[if_pos (by rfl),ec];show (forIn r ((n,c)::cs) _:Sem _)=_;rw[ih]
   conv=>rhs;unfold Zbq
   rw[if_pos (by rfl),hc'];rfl
  ·have hb:(k == YbR)=false:=by simpa using hk
   dsimp only;rw[if_neg (by rw[hb];decide)];show (forIn r cs _:Sem _)=_;rw[ih]
   conv=>rhs;unfold Zbq
   rw[if_neg (by rw[hb];decide)]
theorem ZbC {scope:Scope}{env:Env} (h:∀ x∈scope.names,x.2=.free->∃ c,env.cells.lookup x.1=some c):closureFor scope env=pure (clOf scope env):=by
 unfold closureFor;have e:=Zb7 (env:=env) scope.names [] h;simp only[bind_pure];exact e
theorem Zfd {env:Env}{x:Str}{c:Addr}:∀ (names:List (Str × NameKind)) (cs:List (Str × Addr)),(Zbq env names cs).lookup x=some c->((x,YbR)∈names/\c=(env.cells.lookup x).getD 0)∨cs.lookup x=some c
 | [],_,h=>.inr h
 | (n,k)::r,cs,h=>by
  unfold Zbq at h;rcases Zfd r _ h with ⟨h1,h2⟩ | h1
  ·exact .inl ⟨Yam _ h1,h2⟩
  ·by_cases hk:k=.free
   ·subst hk;rw[if_pos (by rfl),Ybw] at h1
    cases e:x == n with
    | true=>
     rw[e] at h1;have en:x=n:=eq_of_beq e;subst en;exact .inl ⟨Yai,(Yaw h1).symm⟩
    | false=>rw[e] at h1;exact .inr h1
   ·have hb:(k == YbR)=false:=by simpa using hk
    rw[if_neg (by rw[hb];decide)] at h1;exact .inr h1
theorem Zjk {env:Env}{x:Str}:∀ (names:List (Str × NameKind)) (cs:List (Str × Addr)),(∃ c,cs.lookup x=some c)->∃ c,(Zbq env names cs).lookup x=some c
 | [],_,h=>h
 | (n,k)::r,cs,h=>by
  unfold Zbq;refine Zjk r _ ?_;split
  ·rw[Ybw];split
   ·exact⟨_,rfl⟩
   ·exact h
  ·exact h
theorem ZgJ {env:Env}{x:Str}:∀ (names:List (Str × NameKind)) (cs:List (Str × Addr)),(x,YbR)∈names->∃ c,(Zbq env names cs).lookup x=some c
 | [],_,h=>by simp at h
 | (n,k)::r,cs,h=>by
  unfold Zbq;rcases Yau.mp h with e | h
  ·cases e;refine Zjk r _ ?_;rw[if_pos (by rfl),Ybw];exact⟨(env.cells.lookup x).getD 0,by simp⟩
  ·exact ZgJ r _ h
theorem Zg6 {scope:Scope}{env:Env}{x:Str} (hcell:∀ y∈scope.names,y.2≠.cell) (h:(relabel scope env).names.lookup x=some .cell∨(relabel scope env).names.lookup x=some .free):(x,YbR)∈scope.names:=by
 have hm:∃ k,(x,k)∈(relabel scope env).names/\(k=.cell∨k=.free):=by
  rcases h with h | h
  ·exact⟨_,Ybs h,.inl rfl⟩
  ·exact⟨_,Ybs h,.inr rfl⟩
 obtain⟨k,hm,hk⟩:=hm;obtain⟨⟨n,k'⟩,h1,h2⟩:=Yay.mp hm;dsimp only at h2;split at h2
 ·rename_i hc;have:k'=.free:=by
   simp only[Ycy,beq_iff_eq] at hc;exact hc.1.1
  cases h2;subst this;exact h1
 ·cases h2;rcases hk with rfl | rfl
  ·exact absurd rfl (hcell _ h1)
  ·exact h1
theorem Zbm {env:Env}{x:Str}:∀ {names:List (Str × NameKind)},names.lookup x=some .free ->
  (names.map fun (n,k)=>if (k == YbR && env.scope.kind == .function && env.kindOf n == some .cell) then (n,Ye0) else (n,k)).lookup x=some .cell ∨
  (names.map fun (n,k)=>if (k == YbR && env.scope.kind == .function && env.kindOf n == some .cell) then (n,Ye0) else (n,k)).lookup x=some .free
 | [],h=>by simp at h
 | (n,k)::r,h=>by
  have ih:=@Zbm env x r;rw[YaD];dsimp only
  cases hx:x == n with
  | true=>
   simp only[Ybw,hx] at h;cases h;split
   ·left;simp[Ybw,hx]
   ·right;simp[Ybw,hx]
  | false=>
   simp only[Ybw,hx] at h;split
   ·simp only[Ybw,hx];exact ih h
   ·simp only[Ybw,hx];exact ih h
section
variable {prog:Program}{w:World}{A:Around}{R:Result->Shared->Prop}{s:Shared}
theorem ZbS {elt target iter:Expr}{ifs:List Expr}{scope:Scope}{pos:Pos}{it acc:Value}{env:Env} (I:Nat->Shared->Prop)
  (turn:∀ n s,I n s->wpAny (model prog w) A (pyNext it) (fun r s₁=>match r with
   | none=>R (.ok .next) s₁
   | some v=>wpAny (model prog w) A (letOwnedTupleGo target it v) (fun _ s₁'=>wpAny (model prog w) A (assign target env v) (fun _ s₂=>
     wpAny (model prog w) A (forIn ifs true fun c r=>if r=true then do let ok <- isTrue c env (eval c env);pure (Ya4 ok) else pure (Ya4 r)) (fun ok s₃=>
      if ok=true then wpAny (model prog w) A (eval elt env) (fun x s₄=>
       wpAny (model prog w) A (call (.builtin "list.append") [acc,x]) (fun _ s₅=>∃ m,m<n/\I m s₅) (fun _ _=>False) s₄) (fun _ _=>False) s₃
      else ∃ m,m<n/\I m s₃) (fun _ _=>False) s₂) (fun _ _=>False) s₁') (fun _ _=>False) s₁) (fun _ _=>False) s)
  (n:Nat) (h:I n s) :
  codeAny (model prog w) A (.compLoop (.ListComp elt [⟨target,iter,ifs,0⟩] scope pos) 0 it acc env) R s:=by
 refine codeAny_loop rfl I (fun n s hI=>?_) n h;show wpAny _ A ((compTurn (.ListComp elt [⟨target,iter,ifs,0⟩] scope pos) 0 it acc env).onRaise (fun x=>do noteFrame x env;theTreesLotGoes x)) _ _ s;refine wpAny_noted ?_;rw[compTurn_list];refine wpAny_bind (wpAny_standAt (wpAny_bind (wpAny_mono (turn n s hI) (fun r s₁ h₁=>?_) fun _ _ h'=>h'.elim)))
 cases r with
 | none=>exact wpAny_pure h₁
 | some v=>
  refine wpAny_bind (wpAny_mono h₁ (fun _ s₁' h₁=>?_) fun _ _ h'=>h'.elim);refine wpAny_bind (wpAny_mono h₁ (fun _ s₂ h₂=>wpAny_bind (wpAny_mono h₂ (fun ok s₃ h₃=>?_) fun _ _ h'=>h'.elim)) fun _ _ h'=>h'.elim)
  cases ok with
  | false=>exact wpAny_pure ⟨rfl,h₃⟩
  | true=>
   exact wpAny_bind (wpAny_bind (wpAny_mono h₃ (fun x s₄ h₄=>wpAny_bind (wpAny_mono h₄ (fun _ s₅ h₅=>wpAny_pure (wpAny_pure ⟨rfl,h₅⟩)) fun _ _ h'=>h'.elim)) fun _ _ h'=>h'.elim))
end
def PTs (X:Cx) (ifs:List Expr) (t:TT):Prop :=
 ∀ (pins:List (Addr × Obj)) (s:Shared) (σ:St) (H:Hp) (Q:Bool->Hp->Prop),Inv X pins σ H s->t σ H Q ->
  wpAny (model X.prog X.w) X.A (forIn ifs true fun c r=>if r=true then do let ok <- isTrue c X.env (eval c X.env);pure (Ya4 ok) else pure (Ya4 r)) (TP X pins σ Q) X.xe s
def Zlc:TT:=fun _ H Q=>Q true H
theorem Zba {X:Cx}:PTs X [] Zlc:=fun _ _ _ H _ I h=>wpAny_tests_nil ⟨H,I,h⟩
def Cx.blk (X:Cx) (scope:Scope) (own:List Str) (js:List Nat) (s₂:Shared) (H₂:Hp) (C:Addr) (fp:List Addr) (pins:List (Addr × Obj)):Cx where
 prog:=X.prog
 w:=X.w
 K:=X.K
 mg:=X.mg
 base:=X.base
 A:=X.A
 N:=own++js.map fun j=>X.N.getD j YcE
 s₀:=s₂
 H₀:=H₂
 env:=compEnvC scope (clOf scope X.env) C X.env
 outer:=X.stack
 stack:=X.stack
 ex:=fp
 fn:=fun _=>false
 calm:=X.calm
 pn:=X.pn++pins
 xe:=fun _ _=>False
def blkσ (own:List Str) (js:List Nat) (σ:St):St:=own.map (fun _=>none)++js.map fun j=>(σ[j]?).join
section
variable {X:Cx}{pins:List (Addr × Obj)}{σ:St}{H H':Hp}{s s':Shared}{scope:Scope}{own:List Str}{js:List Nat}{C:Addr}{fp:List Addr}
structure CompOk (X:Cx) (scope:Scope) (own:List Str) (js:List Nat):Prop where
 kind:scope.kind=.function
 cell:∀ y∈scope.names,y.2≠.cell
 free:∀ y∈scope.names,y.2=.free->X.env.kindOf y.1=some .cell∨X.env.kindOf y.1=some .free
 names:∀ y∈scope.names,y.2=.local -> scope.names.lookup y.1=some .local
 out:∀ j∈js,∃ x,X.N[j]?=some x/\scope.names.lookup x=some .free
theorem CompOk.cl (c:CompOk X scope own js) (I:Inv X pins σ H s):∀ x∈scope.names,x.2=.free->∃ c,X.env.cells.lookup x.1=some c:=fun x hx hf=>I.ok.has x.1 (c.free x hx hf)
theorem CompOk.look (c:CompOk X scope own js) (I:Inv X pins σ H s) {x:Str}{a:Addr} (h:(clOf scope X.env).lookup x=some a):X.env.cells.lookup x=some a:=by
 rcases Zfd _ _ h with ⟨h1,h2⟩ | h1
 ·obtain⟨c',e⟩:=c.cl I (x,.free) h1 rfl;have e':X.env.cells.lookup x=some c':=e;rw[e'] at h2 ⊢;subst h2;rfl
 ·simp at h1
theorem Zk5 (c:CompOk X scope own js) (I:Inv X pins σ H s) (hC:s.heap.objs.size<=C) (hf:∀ b∈fp,FpOk X pins H b) (ho:∀ b∈fp,∃ o,s.heap.get? b=some o):(X.blk scope own js s H C fp pins).Ok where
 mod:=I.ok.mod
 kind:=c.kind
 glob:=I.ok.glob
 blt:=I.ok.blt
 above:=hC
 inj:=fun x y a h1 h2=>I.ok.inj x y a (c.look I h1) (c.look I h2)
 has:=fun x hx=>ZgJ _ _ (Zg6 c.cell hx)
 cab:=fun x a h=>by cases h
 hd:=I.ok.hd
 frames:=I.ok.frames
 stk:=.inl rfl
 exf:=fun b hb=>by
  obtain⟨o,e⟩:=ho b hb;exact⟨YaB (Yak (Yah e) hC),fun x a h=>(hf b hb).2.2.2.2.1 x a (c.look I h)⟩
 bs:=I.bs
 bsz:=Ybt I.ok.bsz I.sz
 noex:=fun b o e hb=>by
  rcases (hf b hb).2.2.2.1 with z | z
  ·exact I.ok.noex b o e z
  ·exact absurd (Yak (Yah e) (Ybt I.ok.bsz z)) (Ybb _)
 exfs:=fun b hb hm=>by
  rcases Yau.mp (I.stkSub b hm) with z | z
  ·exact (hf b hb).2.1 z
  ·exact (hf b hb).2.2.1 z
 funs:=I.stack
 frf:=I.stkFree
theorem Zc7 (own:List Str) (js:List Nat) (σ:St) (X:Cx):(blkσ own js σ).length=(own++js.map fun j=>X.N.getD j YcE).length:=by
 unfold blkσ;simp
theorem Zfi {acc:Addr}{m:Str->Option Value}{tk:Nat}{h':Heap} (c:CompOk X scope own js) (I:Inv X pins σ H s) (hC:s.heap.objs.size<=C) (hf:∀ b∈fp,FpOk X pins H b) (ho:∀ b∈fp,∃ o,s.heap.get? b=some o)
  (hn:h'.Ns C m) (k:∀ b u,s.heap.get? b=some u->h'.get? b=some u) (hacc:s.heap.objs.size<=acc) (haC:acc≠C) (hl:h'.get? acc=some { cls:=.type "list",data:=.seq ([]:List Value).toArray 0 }) :
  Inv (X.blk scope own js s H C fp pins) [] (blkσ own js σ) (upd H acc (.lst [])) { s with heap:=h',toks:=tk }:=by
 have ok:=Zk5 c I hC hf ho;have fresh:∀ {a:Addr},s.heap.objs.size<=a->H a=none:=fun h=>I.hok.fresh h;have neA:∀ b o,s.heap.get? b=some o->b≠acc:=fun b o e=>YaB (Yak (Yah e) hacc);refine⟨ok,rfl,I.bare,Un.laid k hacc (fresh hacc),⟨m,hn,fun i x v e1 e2 e3=>?_⟩,fun x a e=>?_,?_,fun x a e=>?_,fun p hp=>?_,I.hok.laid k hacc ⟨YaV _,[],0,.nil,hl⟩,Zc7 own js σ X⟩
 ·
  have hi:own.length<=i:=by
   refine YdK fun hi=>?_;unfold blkσ at e2;rw[YaL (by simpa using hi),Yas] at e2
   cases q:own[i]? with
   | none=>rw[q] at e2;cases e2
   | some z=>rw[q] at e2;cases e2
  have e1':(js.map fun j=>X.N.getD j YcE)[i - own.length]?=some x:=by
   have e1:(own++js.map fun j=>X.N.getD j YcE)[i]?=some x:=e1
   rwa [YaI hi] at e1
  have e2':(js.map fun j=>(σ[j]?).join)[i - own.length]?=some (some v):=by
   unfold blkσ at e2;rw[YaI (by simpa using hi)] at e2;simpa using e2
  rw[Yas] at e1' e2'
  cases q:js[i - own.length]? with
  | none=>rw[q] at e1';cases e1'
  | some j=>
   rw[q] at e1' e2';obtain⟨x',hx',hfree⟩:=c.out j (YaE q);have ex:x'=x:=by
    have:X.N.getD j YcE=x:=Yaw e1';rw[YaC,hx'] at this;exact this
   subst ex;have eσ:σ[j]?=some (some v):=by
    have e2'':(σ[j]?).join=some v:=Yaw e2'
    cases r:σ[j]? with
    | none=>rw[r] at e2'';cases e2''
    | some z=>rw[r] at e2'';cases z with
     | none=>cases e2''
     | some y=>cases e2'';rfl
   have hmem:(x',YbR)∈scope.names:=Ybs hfree;have hkX:=c.free _ hmem rfl;have vis:Vis X.env.scope x':=by
    rcases hkX with z | z
    ·exact .inr (.inl z)
    ·exact .inr (.inr z)
   obtain⟨m0,hn0,hl0⟩:=I.loc;obtain⟨u,r,l⟩:=hl0 j x' v hx' eσ vis;refine⟨u,r,.inr ⟨Zbm hfree,?_⟩⟩;obtain⟨a,ha⟩:=ZgJ (env:=X.env) scope.names [] hmem;refine⟨a,ha,?_⟩;have haX:=c.look I ha;rcases l with ⟨z,_⟩ | ⟨_,a',ha',⟨o,ho',hd⟩⟩
   ·have z:X.env.kindOf x'=some .local:=z;rcases hkX with y | y
    ·have y:X.env.kindOf x'=some .cell:=y;rw[z] at y;cases y
    ·have y:X.env.kindOf x'=some .free:=y;rw[z] at y;cases y
   ·rw[haX] at ha';cases ha';exact⟨o,k _ o ho',hd⟩
 ·obtain⟨v,o,ho',hd⟩:=I.cell x a (c.look I e);exact⟨v,o,k _ o ho',hd⟩
 ·show upd H acc (.lst []) C=none;rw[Zaf (Yba haC)];exact fresh hC
 ·have e':=c.look I e;obtain⟨v,o,ho',hd⟩:=I.cell x a e';rw[Zaf (neA a o ho')];exact I.freeC x a e'
 ·have hp:p∈X.pn++pins:=by simpa[Cx.blk] using hp
  obtain⟨e,n,ne,nf,d⟩:=I.pin p hp;refine⟨k _ _ e,by rw[Zaf (neA _ _ e)];exact n,YaB (Yak (Yah e) hC),fun z=>?_,d⟩;rcases Yau.mp (I.stkSub _ z) with q | q
  ·exact ne q
  ·exact nf q
theorem Zf1 {τ:St}{pl:List (Addr × Obj)} (I:Inv X pins σ H s) (hf:∀ b∈fp,FpOk X pins H b) (J:Inv (X.blk scope own js s H C fp pins) pl τ H' s'):Inv X pins σ H' s' :=
 I.call' J.os J.base J.hok J.bare fun b hb=>⟨(hf b hb).2.2.2.1,(hf b hb).2.1,(hf b hb).2.2.2.2.1,(hf b hb).2.2.2.2.2⟩
theorem Inv.other {h':Heap} (I:Inv X pins σ H s) (hs:YcL C s.heap h') (hn:H C=none) (hL:C≠X.env.locals) (h1:X.s₀.heap.objs.size<=C) (h2:∀ x c,X.env.cells.lookup x=some c->c≠C) (h3:∀ p∈X.pn++pins,p.1≠C) :
  Inv X pins σ H { s with heap:=h' } :=
 I.turned (t':=s.toks) (fun b o hb e=>(hs.2 b hb).trans e) hn hL (.inr h1) h2 h3
end
def Zfn (own:List Str) (g:TG):Prop:=∀ (js:List Nat) (σ:St) (x:V) (H:Hp) (Q:St->Hp->Prop),g x (blkσ own js σ) H Q ->
 g x (blkσ own js σ) H fun τ H'=>(∀ (j:Nat) v,(blkσ own js σ)[j]?=some (some v)->τ[j]?=some (some v))/\Q τ H'
theorem ZaT {own:List Str}{js:List Nat}{σ:St}{i:Nat}{v:V} (hi:i<own.length):(blkσ own js σ)[i]?≠some (some v):=by
 unfold blkσ;rw[YaL (by simpa using hi),Yas]
 cases own[i]? with
 | none=>intro h;cases h
 | some z=>intro h;cases h
theorem ZbB {own:List Str}{i:Nat} (hi:i<own.length:=by decide):Zfn own (Zbc i):=fun js σ x H Q h=>⟨fun j v e=>by
 have hj:j≠i:=by rintro rfl;exact ZaT hi e
 rw[YaX (Yba hj)];exact e,h⟩
theorem ZcZ {K:Yac}{own:List Str}{i k:Nat} (hi:i<own.length:=by decide) (hk:k<own.length:=by decide):Zfn own (gTup K 2 (Zc0 (Zbc i) (Zc0 (Zbc k) gNil))):=fun js σ x H Q h=>by
 obtain⟨a,xs,rfl,hq,hl,v,r,rfl,w,r',rfl,e,h⟩:=h;refine⟨a,_,rfl,hq,hl,v,_,rfl,w,r',rfl,e,fun j z e=>?_,h⟩;have hj:j≠i:=by rintro rfl;exact ZaT hi e
 have hj':j≠k:=by rintro rfl;exact ZaT hk e
 rw[YaX (Yba hj'),YaX (Yba hj)];exact e
def Zcv (own:List Str) (js:List Nat) (g:TG) (tt:TT) (te:TE) (σ:St) (J:It) (H1:Hp) (Q:VK):Prop :=
 ∀ acc,H1 acc=none->∃ (W:Nat->Hp->Prop) (n:Nat),W 0 (upd H1 acc (.lst []))/\∀ i H2,W i H2 ->
  (J.stop i H2/\Q (.ref acc) H2)∨(i<n/\J.go i H2/\∀ x H3,J.yld i H2 x H3->g x (blkσ own js σ) H3 fun τ H4=>tt τ H4 fun c H5=>
   if c=true then te τ H5 fun y H6=>∃ ys,H6 acc=some (.lst ys)/\ys.length<sizeLine/\W (i+1) (upd H6 acc (.lst (ys++[y]))) else W (i+1) H5)
def Zmq (own:List Str) (js:List Nat) (wi:TI) (g:TG) (tt:TT) (te:TE):TE:=fun σ H Q=>wi σ H fun J H1=>Zcv own js g tt te σ J H1 Q
section
variable {X:Cx}{scope:Scope}{own:List Str}{js:List Nat}{elt iter target:Expr}{ifs:List Expr}{wi:TI}{g:TG}{tt:TT}{te:TE}{pos:Pos}
theorem Zjo {pins:List (Addr × Obj)}{σ:St}{H2:Hp}{s₂:Shared}{it:Addr}{fp:List Addr}{tn:Nat->Heap->Prop}{J:It}{Q:VK}{E:Value->Shared->Prop}{RR:Value->Addr->Result->Shared->Prop}
  (c:CompOk X scope own js) (hc:X.calm=true) (hgk:Zfn own g)
  (hg:∀ s H C fp pins,PG (X.blk scope own js s H C fp pins) target g) (ht:∀ s H C fp pins,PTs (X.blk scope own js s H C fp pins) ifs tt) (he:∀ s H C fp pins,PE (X.blk scope own js s H C fp pins) elt te)
  (I:Inv X pins σ H2 s₂) (T:Turn X.prog X.w X.K target J fp it tn) (st:tn 0 s₂.heap) (hf:∀ b∈fp,FpOk X pins H2 b) (h:Zcv own js g tt te σ J H2 Q)
  (hRR:∀ acc C H' s' m,s₂.heap.objs.size<=C->H' C=none->Inv X pins σ H' s'->s'.heap.Ns C m->Q (.ref acc) H'->RR (.ref acc) C (.ok .next) s') :
  wpAny (model X.prog X.w) X.A (newList []) (fun acc s₃=>wpAny (model X.prog X.w) X.A (newFunctionEnv scope X.env.globals (clOf scope X.env) [] X.env.qual none .none (some X.env)) (fun cenv s₄=>
   codeAny (model X.prog X.w) X.A (.compStart (.ListComp elt [⟨target,iter,ifs,0⟩] scope pos) 0 (.ref it) acc { cenv with scope:=relabel scope X.env }) (RR acc cenv.locals) s₄) E s₃) E s₂:=by
 refine wpAny_newObj_type (wpAny_newFunctionEnv c.cell (by intro y hy;simp at hy) (fun h₁ hns₁ hsb₁=>?_) c.kind);dsimp only at hns₁ hsb₁ ⊢;generalize hH2:s₂.heap.push { cls:=.type "list",dict:=none,data:=.seq ([]:List Value).toArray }=G2 at hns₁ hsb₁ ⊢;have hC:G2.objs.size=s₂.heap.objs.size+1:=by rw[<- hH2,Ybj]
 have hDC:s₂.heap.objs.size≠G2.objs.size:=by rw[hC];exact YaB (YbF _)
 have hCle:s₂.heap.objs.size<=G2.objs.size:=by rw[hC];exact Yc0 _
 have old:∀ b o,s₂.heap.get? b=some o->h₁.get? b=some o:=fun b o e=>hsb₁.extBut b o (YaB (Yak (Yah e) hCle)) (Yab _ (hH2 ▸ Yab _ e));have hacc:h₁.get? s₂.heap.objs.size=some { cls:=.type "list",data:=.seq ([]:List Value).toArray 0 }:=hsb₁.extBut _ _ hDC (Yab _ (hH2 ▸ Yav _ rfl));have ho2:∀ b∈fp,∃ o,s₂.heap.get? b=some o:=fun b hb=>let ⟨o,e,_⟩:=T.obj 0 _ st b hb;⟨o,e⟩
 have I0:∀ tk,Inv (X.blk scope own js s₂ H2 G2.objs.size fp pins) [] (blkσ own js σ) (upd H2 s₂.heap.objs.size (.lst [])) { s₂ with heap:=h₁,toks:=tk }:=fun tk=>
  Zfi c I hCle hf ho2 hns₁ old (Yag _) hDC hacc
 obtain⟨W,nn,w0,turn⟩:=h s₂.heap.objs.size (I.hok.fresh (Yag _));generalize hacc':s₂.heap.objs.size=acc at *;generalize hGC:G2.objs.size=C at *;have st1:tn 0 h₁:=T.keep 0 _ _ st fun b _ o e=>old b o e;have fOk:∀ {H':Hp},(∀ b∈fp,H' b=none)->∀ b∈fp,FpOk (X.blk scope own js s₂ H2 C fp pins) [] H' b:=fun hn b hb=>by
  obtain⟨f0,f1,f2,f3,f4,f5⟩:=hf b hb;obtain⟨o,e⟩:=ho2 b hb;refine⟨hn b hb,YaB (Yak (Yah e) (by rw[<- hacc'] at hCle;exact hCle)),fun z=>?_,.inl hb,fun x a h=>f4 x a (c.look I h),fun p hp=>f5 p (by simpa[Cx.blk] using hp)⟩;rcases Yau.mp (I.stkSub b z) with q | q
  ·exact f1 q
  ·exact f2 q
 have loop:∀ s₃:Shared,s₃={ s₂ with heap:=h₁,toks:=s₂.toks+([]:List (Str × Value)).length } ->
   codeAny (model X.prog X.w) X.A (.compLoop (.ListComp elt [⟨target,iter,ifs,0⟩] scope pos) 0 (.ref it) (.ref acc) (compEnvC scope (clOf scope X.env) C X.env)) (RR (.ref acc) C) s₃:=by
  rintro s₃ rfl;refine ZbS (fun n s'=>∃ i H',n=nn - i/\Inv (X.blk scope own js s₂ H2 C fp pins) [] (blkσ own js σ) H' s'/\tn i s'.heap/\(∀ b∈fp,H' b=none)/\W i H') ?_ nn ⟨0,_,rfl,I0 _,st1,fun b hb=>?_,w0⟩
  ·rintro n s3 ⟨i,H3,en,I3,st3,fr3,w3⟩;rcases turn i H3 w3 with ⟨stop,qn⟩ | ⟨hin,go,step⟩
   ·refine thn (T.done (X.blk scope own js s₂ H2 C fp pins) rfl rfl rfl hc i [] s3 _ H3 (fun _ _=>False) I3 (fOk fr3) st3 stop) fun r s4 ⟨hr,I4⟩=>?_;subst hr;obtain⟨m,hn,_⟩:=I4.loc;exact hRR acc C H3 s4 m hCle I4.free (Zf1 I hf I4) hn qn
   ·refine thn (T.item (X.blk scope own js s₂ H2 C fp pins) rfl rfl rfl hc i [] s3 _ H3 (fun _ _=>False) I3 (fOk fr3) st3 go) fun r s4 ⟨u,hr,h4⟩=>?_;subst hr;refine thn h4 fun _ s5 ⟨x,H5,I5,r5,y5,st5,fr5⟩=>?_;have I5':=I5.pinned (fOk fr5) (T.obj _ _ st5);have again:∀ {σ7:St}{H7:Hp}{s7:Shared},Inv (X.blk scope own js s₂ H2 C fp pins) ([]++Zcw fp s5.heap) σ7 H7 s7->(∀ (j:Nat) v,(blkσ own js σ)[j]?=some (some v)->σ7[j]?=some (some v))->W (i+1) H7 ->
      ∃ m,m<n/\∃ i H',m=nn - i/\Inv (X.blk scope own js s₂ H2 C fp pins) [] (blkσ own js σ) H' s7/\tn i s7.heap/\(∀ b∈fp,H' b=none)/\W i H':=fun {σ7 H7 s7} I7 hw w7=>by
     refine⟨nn - (i+1),by (clear hCle hDC hC hGC hacc';omega),i+1,H7,rfl,(I7.unpinned).weak ((Zc7 own js σ X).trans I7.len.symm) hw,T.keep _ _ _ st5 fun b hb o e=>(I7.pin (b,o) (Yao _ (Yao _ (ZaF hb e)))).1,fun b hb=>?_,w7⟩;obtain⟨o,e,d⟩:=T.obj _ _ st5 b hb;exact (I7.pin (b,o) (Yao _ (Yao _ (ZaF hb e)))).2.1
    refine thn (hg s₂ H2 C fp pins _ s5 _ H5 x u _ I5' r5 (hgk _ _ _ _ _ (step x H5 y5))) fun _ s6 ⟨σ6,H6,I6,kp,q6⟩=>?_;refine thn (ht s₂ H2 C fp pins _ s6 σ6 H6 _ I6 q6) fun ok s7 ⟨H7,I7,q7⟩=>?_
    cases ok with
    | false=>
     exact again I7 kp q7
    | true=>
     refine thn (he s₂ H2 C fp pins _ s7 σ6 H7 _ I7 q7) fun y s8 ⟨v,H8,I8,r8,ys,hl,hz,w8⟩=>?_;refine thn (Za6 (X:=X.blk scope own js s₂ H2 C fp pins) _ s8 σ6 H8 (.ref acc) [v] (.ref acc) [y] (fun _ H9=>W (i+1) H9) I8 rfl (.cons r8 .nil) ⟨acc,ys,v,rfl,rfl,hl,hz,w8⟩) fun _ s9 ⟨_,H9,I9,_,w9⟩=>?_;exact again I9 kp w9
  ·rw[Zaf ?_]
   ·exact (hf b hb).1
   ·obtain⟨o,e⟩:=ho2 b hb;rw[<- hacc'];exact YaB (Yah e)
 exact codeAny_compStart_list (loop _ rfl) (T.self _ 0 _ _ _ st1 (loop _ rfl))
theorem Zcq (c:CompOk X scope own js) (hc:X.calm=true) (hi:PI X target iter wi) (hgk:Zfn own g)
  (hg:∀ s H C fp pins,PG (X.blk scope own js s H C fp pins) target g) (ht:∀ s H C fp pins,PTs (X.blk scope own js s H C fp pins) ifs tt) (he:∀ s H C fp pins,PE (X.blk scope own js s H C fp pins) elt te)
  (hs:∀ x,foldedSetIterable iter X.env x=pure x:=by intro _;rfl):PE X (.ListComp elt [⟨target,iter,ifs,0⟩] scope pos) (Zmq own js wi g tt te):=by
 intro pins s σ H Q I h;rw[eval_ListComp];refine wpAny_comprehension_free (use:=none) rfl hs (ZbC (c.cl I)) c.kind c.names (thn (hi pins s σ H _ I h) fun v s1 h1=>thn h1 fun itv s2 h2=>?_);obtain⟨it,fp,tn,J,H2,e,I2,T,st2,f2,hw⟩:=h2;subst e;refine Zjo (RR:=fun acc C=>compPost (model X.prog X.w) X.A X.xe none (EP X pins σ Q) acc C) c hc hgk hg ht he I2 T st2 f2 hw ?_;intro acc C H' s' m hCs hCn I' hn q;refine⟨m,hn,fun h' hs'=>⟨.ref acc,H',I'.other hs' hCn ?_ ?_ ?_ ?_,rfl,q⟩⟩
 ·exact Yby (Yak I2.lt hCs)
 ·exact Ybt I2.sz hCs
 ·intro x a e z;obtain⟨v,q⟩:=I2.cell x a e;exact absurd (Yak q.lt (by rw[z];exact hCs)) (Ybb _)
 ·intro p hp z;exact absurd (Yak (Yah (I2.pin p hp).1) (by rw[z];exact hCs)) (Ybb _)
theorem Zly {i:Nat}{y:Str}{py spos:Pos} (hN:X.N.Nodup) (hy:X.N[i]?=some y) (hyl:X.env.scope.names.lookup y=some .local) (c:CompOk X scope own js) (hc:X.calm=true) (hi:PI X target iter wi) (hgk:Zfn own g)
  (hg:∀ s H C fp pins,PG (X.blk scope own js s H C fp pins) target g) (ht:∀ s H C fp pins,PTs (X.blk scope own js s H C fp pins) ifs tt) (he:∀ s H C fp pins,PE (X.blk scope own js s H C fp pins) elt te)
  (hsw:swapsWith (.ListComp elt [⟨target,iter,ifs,0⟩] scope pos) (some (.Name y py)) spos.line X.env=pure true:=by rfl)
  (hs:∀ x,foldedSetIterable iter X.env x=pure x:=by intro _;rfl):PS X (.Assign [.Name y py] (.ListComp elt [⟨target,iter,ifs,0⟩] scope pos) spos) (tAsg (Zmq own js wi g tt te) (Zbc i)):=by
 intro pins s σ H D I h;rw[exec_Assign_Name_used _ _ _ _ hsw];refine wpAny_bind (wpAny_standAt (wpAny_bind ?_));show wpAny _ X.A (do let _ <- comprehension (.ListComp elt [⟨target,iter,ifs,0⟩] scope pos) scope X.env _ (newList []) false (eval iter X.env) (some (assign (.Name y py) X.env))) _ _ s;refine wpAny_bind (wpAny_mono (wpAny_comprehension_free (use:=some (assign (.Name y py) X.env)) (Q:=fun _ s'=>SP X pins D .next s') rfl hs (ZbC (c.cl I)) c.kind c.names
  (thn (hi pins s σ H _ I h) fun v s1 h1=>thn h1 fun itv s2 h2=>?_)) (fun _ s' hq=>wpAny_pure (wpAny_pure hq)) fun _ _ e=>e)
 obtain⟨it,fp,tn,J,H2,e,I2,T,st2,f2,hw⟩:=h2;subst e;refine Zjo (Q:=fun x H1=>Zbc i x σ H1 D.nx) (RR:=fun acc C=>compPost (model X.prog X.w) X.A X.xe (some (assign (.Name y py) X.env)) (fun _ s'=>SP X pins D .next s') acc C) c hc hgk hg ht he I2 T st2 f2 hw ?_;intro acc C H' s' m hCs hCn I' hn q;have hL:C≠X.env.locals:=Yby (Yak I2.lt hCs);have hcell:∀ x a,X.env.cells.lookup x=some a->a≠C:=by
  intro x a e z;obtain⟨v,q⟩:=I2.cell x a e;exact absurd (Yak q.lt (by rw[z];exact hCs)) (Ybb _)
 refine wpAny_assign_Name (ZcM I' hN hy (.inl hyl) (v:=.ref acc) rfl (fun s2 I'' hch=>?_) (.inr hyl));obtain⟨a,sb,ha⟩:=hch;have hCa:C≠a:=by
  rcases ha with rfl | ha
  ·exact hL
  ·exact Yba (hcell _ _ ha)
 refine⟨m,hn.sameBut sb hCa,fun h' hs'=>⟨_,H',I''.other hs' hCn hL (Ybt I2.sz hCs) hcell ?_,q⟩⟩;intro p hp z;exact absurd (Yak (Yah (I2.pin p hp).1) (by rw[z];exact hCs)) (Ybb _)
end
section
variable {K:Yac}{own:List Str}{js:List Nat}{g:TG}{tt:TT}{te:TE}{σ:St}{H1:Hp}{Q:VK}
theorem ZdP {lo:Int}{n:Nat} (Pv:Addr->Nat->Hp->Prop) (h0:∀ acc,H1 acc=none->Pv acc 0 (upd H1 acc (.lst [])))
  (hs:∀ acc i H,H1 acc=none->i<n->Pv acc i H->g (.int (lo+i)) (blkσ own js σ) H fun τ H4=>tt τ H4 fun c H5=>
   if c=true then te τ H5 fun y H6=>∃ ys,H6 acc=some (.lst ys)/\ys.length<sizeLine/\(i+1<=n/\Pv acc (i+1) (upd H6 acc (.lst (ys++[y])))) else (i+1<=n/\Pv acc (i+1) H5))
  (hd:∀ acc H,H1 acc=none->Pv acc n H->Q (.ref acc) H):Zcv own js g tt te σ (Itr lo n) H1 Q:=by
 intro acc hacc;refine⟨fun i H=>i<=n/\Pv acc i H,n,⟨YaV _,h0 acc hacc⟩,?_⟩;rintro i H ⟨hi,p⟩;by_cases hlt:i<n
 ·refine .inr ⟨hlt,hlt,fun x H' y=>?_⟩;obtain⟨e,y⟩:=y;subst e y;exact hs acc i _ hacc hlt p
 ·have e:i=n:=by omega
  subst e;exact .inl ⟨Yag _,hd acc H hacc p⟩
end
def Zjj (scope sc:Scope) (js:List Nat) (N:List Str):Bool :=
 (scope.kind == .function) && (scope.names.all fun y=>(y.2 != .cell) && ((y.2 != .free) || (sc.names.lookup y.1 == some .cell) || (sc.names.lookup y.1 == some .free)) && ((y.2 != .local) || (scope.names.lookup y.1 == some .local))) &&
 (js.all fun j=>match N[j]? with | some x=>scope.names.lookup x == some .free | none=>false)
theorem CompOk.by {X:Cx}{scope sc:Scope}{own N:List Str}{js:List Nat} (hX:X.env.scope=sc) (hN:X.N=N) (h:Zjj scope sc js N=true):CompOk X scope own js:=by
 unfold Zjj at h;simp only[Ycy,beq_iff_eq,YdH,Bool.or_eq_true,bne_iff_ne,ne_eq] at h;obtain⟨⟨h1,h2⟩,h3⟩:=h;refine⟨h1,fun y hy=>(h2 y hy).1.1,fun y hy hf=>?_,fun y hy hl=>?_,fun j hj=>?_⟩
 ·show X.env.scope.names.lookup y.1=_∨X.env.scope.names.lookup y.1=_;rw[hX];rcases (h2 y hy).1.2 with (z | z) | z
  ·exact absurd hf z
  ·exact .inl z
  ·exact .inr z
 ·rcases (h2 y hy).2 with z | z
  ·exact absurd hl z
  ·exact z
 ·have:=h3 j hj;rw[hN]
  cases e:N[j]? with
  | none=>rw[e] at this;cases this
  | some x=>rw[e] at this;exact⟨x,rfl,by simpa using this⟩
end L2
namespace L2
open PySem PySem.Spec PyProof.Rows PySem.SeqAt
section
variable {X:Cx}
theorem Vals.int_at {ns:List Int}{us:List Value} (r:Vals (ns.map V.int) us) {i:Nat} (h:i<ns.length):∃ t,us[i]?=some (.int ns[i] t):=by
 have q:(ns.map V.int)[i]?=some (V.int ns[i]):=by rw[Yas,Yaf h];rfl
 obtain⟨u,h1,t,rfl⟩:=r.get q;exact⟨t,h1⟩
theorem Zb3 {α β:Type} (f:α->β):∀ (l:List α) (i:Nat),(l.eraseIdx i).map f=(l.map f).eraseIdx i
 | [],_=>rfl
 | _::_,0=>rfl
 | a::r,i+1=>by rw[Yei,YaD,YaD,Yei,Zb3 f r i]
theorem ZjR:∀ {ns ms:List Int},ns.length=ms.length->((Ybi ns.length).all fun i=>ns.getD i 0 == ms.getD i 0)=decide (ns=ms):=fun {ns ms} h=>by
 rw[YcD,YdH,decide_eq_true_iff];constructor
 ·intro q;refine Ycg h fun i h1 h2=>?_;have:=q i (Ycr.mpr h1);simpa[YaC,h1,h2] using this
 ·rintro rfl i hi;simp
theorem Zer {ns:List Int}{its:List Value} (r:Vals (ns.map V.int) its) {j:Nat} (h:j<its.toArray.size):∃ t,its.toArray[j]=.int (ns.getD j 0) t:=by
 have hj:j<ns.length:=by rw[Yal,<- r.length,Yad] at h;exact h
 obtain⟨t,q⟩:=r.int_at hj;obtain⟨_,q'⟩:=Yaa.mp q;exact⟨t,by simpa[YaC,hj] using q'⟩
end
end L2
namespace L2
open PySem PySem.Spec PyProof.Rows PySem.SeqAt
section
variable {prog:Program}{w:World}{A:Around}{R:Result->Shared->Prop}{I:Addr}{fp wr:List Addr}{n:Nat}{P:Nat->Value->Prop}{St:Nat->Heap->Prop}
end
section
variable {X:Cx}
end
end L2
namespace L2
open PySem PySem.Spec PyProof.Rows PySem.SeqAt
def Ite (K:Yac) (a:Addr):It :=
 ⟨fun i H=>∃ xs x,SqL K H a xs/\xs[i]?=some x,fun i H y H'=>∃ p x,H p=none/\y=.ref p/\H'=upd H p (.tup [.int i,x])/\∀ xs,SqL K H a xs->xs[i]?=some x,fun i H=>∃ xs,SqL K H a xs/\xs.length<=i⟩
theorem ZhA {P:Program}{w:World}{K:Yac}{es:List Expr}{x1}{pos:Pos} (a it e:Addr) (hne:e≠it):Turn P w K (.Tuple es x1 pos) (Ite K a) [e,it] e (fun i h=>(∃ old,IsEnum h e it (i:Nat) old)/\h.IsListIter it a i) where
 mem:=by simp
 obj:=fun i h st b hb=>by
  obtain⟨⟨old,s1⟩,s2⟩:=st;rcases Yau.mp hb with z | z
  ·subst z;exact⟨_,s1,fun v z=>nomatch z⟩
  ·have z:b=it:=by simpa using z
   subst z;obtain⟨o,e,c,d⟩:=s2;exact⟨o,e,fun v z=>by rw[d] at z;cases z⟩
 keep:=fun i h h' st k=>by
  obtain⟨⟨old,s1⟩,s2⟩:=st;exact⟨⟨old,k e (by simp) _ s1⟩,s2.at fun o q=>k it (by simp) o q⟩
 item:=by
  intro X hP hw hK hc i pins s σ H E I hf st hg;subst hP hw hK;obtain⟨xs,x,hq,hx⟩:=hg;obtain⟨its,rv,p,hz⟩:=I.list hq;obtain⟨u,hu,ru⟩:=rv.get hx;obtain⟨⟨old,s1⟩,s2⟩:=st;refine wpAny_pyNext_enum_item s1 s2 p.isList (x:=u) (by simpa using hu) hne fun h' ho hit ht hsz hk=>?_;refine⟨_,rfl,?_⟩;refine wpAny_letOwnedTupleGo_enum ho fun h'' he hs=>?_;have fresh:H s.heap.objs.size=none:=I.hok.fresh (Yag _);have k:∀ b o,b ∉ [e,it]->s.heap.get? b=some o->h''.get? b=some o:=fun b o hb q=>by
   have hb':b≠e/\b≠it:=by simpa using hb
   exact (hs.2 b hb'.1).trans (hk b o hb'.1 hb'.2 q)
  have nE:∀ b∈[e,it],H b=none:=fun b hb=>(hf b hb).1
  have nit:∀ b u,H b=some u->b ∉ [e,it]:=fun b u q z=>by rw[nE b z] at q;cases q
  have hpe:s.heap.objs.size≠e:=Yby (Yah s1);have htup:h''.get? s.heap.objs.size=some { cls:=.type "tuple",data:=.seq #[.int i s.toks,u] }:=(hs.2 _ hpe).trans ht;have newOk:ObjOk X.prog X.w (upd H s.heap.objs.size (.tup [.int i,x])) h'' s.heap.objs.size (.tup [.int i,x]):=by
   refine⟨?_,[.int i s.toks,u],.cons ⟨_,rfl⟩ (.cons ru .nil),⟨_,htup,rfl,rfl,0,rfl⟩⟩;show 2<=sizeLine
   decide
  have I1:Inv X pins σ (upd H s.heap.objs.size (.tup [.int i,x])) { s with heap:=h'',toks:=s.toks+1 }:=by
   refine I.step (g':=s.gens) (d':=s.drawn) (ch:=[e,it]) (fun b hb=>?_) (fun b o _ _ hc q _=>k b o hc q) (fun b o _ _ hc q _=>⟨o.slots,k b o hc q⟩) (fun b o _ q n=>?_) (fun b o hc q=>⟨o,k b o hc q⟩)
    (fun b xs q=>by rw[Zaf (Zae q fresh)];exact q) (fun b o xs q=>by rw[Zaf (Zae q fresh)];exact q) (fun b ps q=>⟨#[],by rw[Zaf (Zae q fresh),q];simp⟩) (fun m hm=>?_) (fun b ob q=>?_) I.bare
   ·obtain⟨f0,f1,f2,f3,f4,f5⟩:=hf b hb;exact⟨f3,f1,f4,f5⟩
   ·rw[Zaf (YaB (Yah q))];exact n
   ·obtain⟨o,es,ep,ho,r⟩:=hm;refine⟨o,es,ep,k _ o (fun z=>?_) ho,r⟩;exact (hf _ z).2.1 rfl
   ·by_cases hb:b=s.heap.objs.size
    ·subst hb;rw[Zab] at q;cases q;exact newOk
    ·rw[Zaf hb] at q;refine (I.hok b ob q).stay (fun c v hc r=>k c v ?_ r) (fun c r=>by rw[Zaf (Zae r fresh)];exact r) fun c xs r=>by rw[Zaf (Zae r fresh)];exact r
     rcases hc with z | z
     ·rw[z];exact nit b ob q
     ·exact nit c _ z
  refine⟨.ref s.heap.objs.size,_,I1,rfl,⟨s.heap.objs.size,x,fresh,rfl,rfl,fun ys hy=>by rw[I.list_inj hy hq];exact hx⟩,⟨⟨u,?_⟩,?_⟩,fun b hb=>?_⟩
  ·have he:IsEnum h'' e it ((i:Int)+1) u:=he;show IsEnum h'' e it ((i+1:Nat):Int) u;rw[show ((i+1:Nat):Int)=(i:Int)+1 by (clear hpe hsz hz hne;omega)];exact he
  ·exact hit.extBut hs.extBut (Yba hne)
  ·have lt:b<s.heap.objs.size:=by
    rcases Yau.mp hb with z | z
    ·rw[z];exact Yah s1
    ·have z:b=it:=by simpa using z
     rw[z];obtain⟨o,q,_⟩:=s2;exact Yah q
   rw[Zaf (YaB lt)];exact nE b hb
 done:=by
  intro X hP hw hK hc i pins s σ H E I hf st hg;subst hP hw hK;obtain⟨xs,hq,hx⟩:=hg;obtain⟨its,rv,p,hz⟩:=I.list hq;obtain⟨⟨old,s1⟩,s2⟩:=st;obtain⟨f0,f1,f2,f3,f4,f5⟩:=hf it (by simp);have hl:=rv.length;exact wpAny_pyNext_enum_end (I.ok.hd hc) s1 s2 p.isList (by simp;(clear f3 f2 f1 hz hne;omega)) fun h' eb=>⟨rfl,I.turned (t':=s.toks) (fun b o hb q=>eb b o hb q) f0 f1 f3 f4 f5⟩
 self:=fun _ _ _ _ _ st h=>by
  obtain⟨⟨old,s1⟩,_⟩:=st;exact wpAny_pyIter_enum s1 h
section
variable {X:Cx}
theorem Zc6:Zca X (.builtin "isinstance") (fun xs H Q=>∃ x T t b,xs=[x,.ty T]/\TyOf X.K H x t/\Yc8 X.K t (.type T)=some b/\Q (.bl b) H):=by
 intro pins s σ H xs us Q I r h;obtain⟨x,T,t,b,rfl,ty,e,q⟩:=h;obtain⟨u,u2,rfl,r1,r2⟩:=Zhw r;cases r2;exact ZiT I r1 ty e fun tk=>⟨.bl b,H,I.tok _,rfl,q⟩
end
end L2
namespace L2
open PySem PySem.Spec PyProof.Rows
section
variable {κ:Type} [DecidableEq κ]
def valV (kvs:List (κ × V)) (k:κ):Option V:=(kvs.find? fun kv=>decide (kv.1=k)).map (·.2)
def putK (kvs:List (κ × V)) (k:κ) (v:V):List (κ × V) :=
 if (kvs.any fun kv=>decide (kv.1=k))=true then kvs.map (fun kv=>if kv.1=k then (kv.1,v) else kv) else kvs++[(k,v)]
theorem ZaJ {p:κ × V}{r:List (κ × V)}{k:κ} (e:p.1=k):valV (p::r) k=some p.2:=by simp[valV,Ycn,e]
theorem ZaK {p:κ × V}{r:List (κ × V)}{k:κ} (e:¬ p.1=k):valV (p::r) k=valV r k:=by simp[valV,Ycn,e]
theorem Zbs (k:κ):∀ kvs:List (κ × V),(kvs.any fun kv=>decide (kv.1=k))=(valV kvs k).isSome
 | []=>rfl
 | p::r=>by
  rw[Yej];by_cases e:p.1=k
  ·simp only[ZaJ e,decide_eq_true e,Bool.true_or,Option.isSome_some]
  ·rw[ZaK e,decide_eq_false e,Bool.false_or];exact Zbs k r
theorem Zf6 (k j:κ) (y:V):∀ kvs:List (κ × V),valV (kvs.map fun kv=>if kv.1=k then (kv.1,y) else kv) j=(valV kvs j).map fun x=>if j=k then y else x
 | []=>rfl
 | p::r=>by
  have ih:=Zf6 k j y r;rw[YaD];by_cases h:p.1=k
  ·rw[if_pos h];by_cases e:p.1=j
   ·rw[ZaJ (p:=(p.1,y)) e,ZaJ e,YcB,if_pos (e.symm.trans h)]
   ·rw[ZaK (p:=(p.1,y)) e,ZaK e,ih]
  ·rw[if_neg h];by_cases e:p.1=j
   ·rw[ZaJ (p:=p) e,ZaJ e,YcB,if_neg (fun z=>h (e.trans z))]
   ·rw[ZaK (p:=p) e,ZaK e,ih]
theorem ZeH (k j:κ) (y:V):∀ kvs:List (κ × V),valV kvs k=none->valV (kvs++[(k,y)]) j=if j=k then some y else valV kvs j
 | [],_=>by
  by_cases e:k=j
  ·rw[if_pos e.symm];exact ZaJ (p:=(k,y)) e
  ·rw[if_neg (fun z=>e z.symm)];exact ZaK (p:=(k,y)) e
 | p::r,hn=>by
  rw[Ybx];have hk:¬ p.1=k:=fun z=>by rw[ZaJ z] at hn;cases hn
  rw[ZaK hk] at hn;have ih:=ZeH k j y r hn;by_cases e:p.1=j
  ·rw[ZaJ e,ZaJ e,if_neg (fun z=>hk (e.trans z))]
  ·rw[ZaK e,ZaK e,ih]
theorem ZjA (kvs:List (κ × V)) (k j:κ) (y:V):valV (putK kvs k y) j=if j=k then some y else valV kvs j:=by
 unfold putK;by_cases a:(kvs.any fun kv=>decide (kv.1=k))=true
 ·rw[if_pos a,Zf6];rw[Zbs] at a;by_cases e:j=k
  ·obtain⟨x,hx⟩:=Yd3.mp a;rw[if_pos e,e,hx,YcB,if_pos rfl]
  ·rw[if_neg e]
   cases valV kvs j with
   | none=>rfl
   | some x=>rw[YcB,if_neg e]
 ·rw[if_neg a];refine ZeH k j y kvs ?_;rw[Zbs] at a
  cases q:valV kvs k with
  | none=>rfl
  | some x=>rw[q] at a;exact (a rfl).elim
theorem Zbg (kvs:List (κ × V)) (k:κ) (v:V):(putK kvs k v).length<=kvs.length+1:=by
 unfold putK;split
 ·rw[Yad];omega
 ·rw[Yaj,YaH,YdQ];omega
theorem RelO.isSome_eq {o:Option V}{u:Option Value} (r:RelO o u):o.isSome=u.isSome:=by
 cases o with
 | none=>cases u with
  | none=>rfl
  | some _=>exact (show False from r).elim
 | some _=>cases u with
  | none=>exact (show False from r).elim
  | some _=>rfl
theorem RelO.getD {o:Option V}{u:Option Value}{d:V}{d':Value} (r:RelO o u) (rd:RelV d d'):RelV (o.getD d) (u.getD d'):=by
 cases o with
 | none=>cases u with
  | none=>exact rd
  | some _=>exact (show False from r).elim
 | some _=>cases u with
  | none=>exact (show False from r).elim
  | some _=>exact r
theorem KV.val {kvs:List (κ × V)}{vs:List (κ × Value)} (r:KV kvs vs) (k:κ):RelO (valV kvs k) (valueAt vs k):=by
 unfold KV at r
 induction r with
 | nil=>exact Yb1
 | @cons p q ps qs h t ih=>
  obtain⟨h1,h2⟩:=h;by_cases e:p.1=k
  ·have e':q.1=k:=h1.symm.trans e;have b:valueAt (q::qs) k=some q.2:=by simp[valueAt,Ycn,e']
   rw[ZaJ e,b];exact h2
  ·have e':¬ q.1=k:=fun z=>e (h1.trans z);have b:valueAt (q::qs) k=valueAt qs k:=by simp[valueAt,Ycn,e']
   rw[ZaK e,b];exact ih
theorem KV.any {kvs:List (κ × V)}{vs:List (κ × Value)} (r:KV kvs vs) (k:κ):(kvs.any fun kv=>decide (kv.1=k))=vs.any fun kv=>decide (kv.1=k):=by
 unfold KV at r
 induction r with
 | nil=>rfl
 | cons h t ih=>rw[Yej,Yej,ih,h.1]
theorem KV.repl {kvs:List (κ × V)}{vs:List (κ × Value)} (r:KV kvs vs) (k:κ) {y:V}{u:Value} (ry:RelV y u) :
  KV (kvs.map fun kv=>if kv.1=k then (kv.1,y) else kv) (vs.map fun kv=>if kv.1=k then (kv.1,u) else kv):=by
 unfold KV at r ⊢
 induction r with
 | nil=>exact .nil
 | @cons p q ps qs h t ih=>
  rw[YaD,YaD];refine .cons ?_ ih;obtain⟨h1,h2⟩:=h;by_cases e:p.1=k
  ·rw[if_pos e,if_pos (h1.symm.trans e)];exact⟨h1,ry⟩
  ·rw[if_neg e,if_neg (fun z=>e (h1.trans z))];exact⟨h1,h2⟩
theorem KV.put {kvs:List (κ × V)}{vs:List (κ × Value)} (r:KV kvs vs) (k:κ) {y:V}{u:Value} (ry:RelV y u):KV (putK kvs k y) (stored vs k u):=by
 unfold putK stored;rw[r.any k];by_cases e:(vs.any fun kv=>decide (kv.1=k))=true
 ·rw[if_pos e,if_pos e];exact r.repl k ry
 ·rw[if_neg e,if_neg e];exact Paired.snoc r ⟨rfl,ry⟩
theorem KV.length {kvs:List (κ × V)}{vs:List (κ × Value)} (r:KV kvs vs):kvs.length=vs.length:=Ydg r
end
theorem ZiM {P:Program}{w:World}{k:Key}{u:Value} (r:RelV (kV k) u):(Zay P w).is k u=true:=by
 cases k with
 | inl i=>obtain⟨t,e⟩:=(show ∃ t,u=Yem i t from r);subst e;exact ZfK P w i t
 | inr x=>obtain⟨t,e⟩:=(show ∃ t,u=Yel x t from r);subst e;exact ZfJ P w x t
theorem Ze5 {P:Program}{w:World}:∀ {ks:List Key}{us:List Value},Vals (ks.map kV) us->ItemsAre (Zay P w) ks us
 | [],_,r=>by rw[Ycl] at r;cases r;exact .nil
 | k::ks,_,r=>by
  rw[YaD] at r
  cases r with
  | cons h t=>exact .cons (ZiM h) (Ze5 t)
abbrev KT (H:Hp):List (List Key × V)->List (List Key × Addr × Value)->Prop:=Paired fun p q=>p.1=q.1/\H q.2.1=some (.tup (p.1.map kV))/\RelV p.2 q.2.2
theorem KT.val {H:Hp}{kvs:List (List Key × V)}{xs:List (List Key × Addr × Value)} (r:KT H kvs xs) (k:List Key):RelO (valV kvs k) ((atKey xs k).map (·.2)):=by
 induction r with
 | nil=>exact Yb1
 | @cons p q ps qs h t ih=>
  obtain⟨h1,_,h2⟩:=h;by_cases e:p.1=k
  ·have e':q.1=k:=h1.symm.trans e;have b:atKey (q::qs) k=some q.2:=by simp[atKey,Ycn,e']
   rw[ZaJ e,b];exact h2
  ·have e':¬ q.1=k:=fun z=>e (h1.trans z);have b:atKey (q::qs) k=atKey qs k:=by simp[atKey,Ycn,e']
   rw[ZaK e,b];exact ih
theorem KT.repl {H:Hp}{kvs:List (List Key × V)}{xs:List (List Key × Addr × Value)} (r:KT H kvs xs) (k:List Key) {y:V}{u:Value} (ry:RelV y u) :
  KT H (kvs.map fun kv=>if kv.1=k then (kv.1,y) else kv) (xs.map (putAt k u)):=by
 induction r with
 | nil=>exact .nil
 | @cons p q ps qs h t ih=>
  rw[YaD,YaD];refine .cons ?_ ih;obtain⟨h1,h2,h3⟩:=h;unfold putAt;by_cases e:p.1=k
  ·rw[if_pos e,if_pos (h1.symm.trans e)];exact⟨h1,h2,ry⟩
  ·rw[if_neg e,if_neg (fun z=>e (h1.trans z))];exact⟨h1,h2,h3⟩
theorem KT.put {H:Hp}{kvs:List (List Key × V)}{xs:List (List Key × Addr × Value)} (r:KT H kvs xs) (k:List Key) {b:Addr}{y:V}{u:Value} (hb:H b=some (.tup (k.map kV))) (ry:RelV y u) :
  KT H (putK kvs k y) (storedH xs k b u):=by
 have e:(kvs.any fun kv=>decide (kv.1=k))=(atKey xs k).isSome:=by
  rw[Zbs,(r.val k).isSome_eq,Option.isSome_map]
 unfold putK storedH;rw[e];by_cases q:(atKey xs k).isSome=true
 ·rw[if_pos q,if_pos q];exact r.repl k ry
 ·rw[if_neg q,if_neg q];exact Paired.snoc r ⟨rfl,hb,ry⟩
theorem KT.keeps {H H':Hp}{kvs:List (List Key × V)}{xs:List (List Key × Addr × Value)} (r:KT H kvs xs) (ht:∀ b ys,H b=some (.tup ys)->H' b=some (.tup ys)):KT H' kvs xs :=
 Paired.mapP r fun _ _ z=>⟨z.1,ht _ _ z.2.1,z.2.2⟩
section
variable {P:Program}{w:World}{H:Hp}{h:Heap}{a:Addr}
theorem ZmE {u:HO} (ok:HOk P w H h) (e:Rd H a u):ObjOk P w H h a u:=e.ok ok
theorem Zhn {kvs:List (Key × V)} (ok:HOk P w H h) (e:Rd H a (.dK kvs)):kvs.length<=sizeLine/\(a == sysModules)=false/\∃ vs,KV kvs vs/\h.DictOf (Zay P w) a vs :=
 show ObjOk P w H h a (.dK kvs) from ZmE ok e
theorem Zl6 {kvs:List (Key × V)} (ok:HOk P w H h) (e:H a=some (.dK kvs)):kvs.length<=sizeLine/\(a == sysModules)=false/\∃ vs,KV kvs vs/\h.DictOf (Zay P w) a vs:=Zhn ok (.inl e)
theorem ZiH {ks:List Key} (ok:HOk P w H h) (e:H a=some (.tup (ks.map kV))):(tupleKind (Zay P w)).is h ks a:=by
 obtain⟨_,its,r,o,h1,h2,_,n,h3⟩:=(show ObjOk P w H h a (.tup (ks.map kV)) from ok a _ e)
 exact⟨o,its.toArray,n,h1,h2,h3,by simpa using Ze5 r⟩
theorem Zl4 {kvs:List (List Key × V)} (ok:HOk P w H h) (e:Rd H a (.dT kvs)):kvs.length<=sizeLine/\(a == sysModules)=false /\
  ∃ xs,KT H kvs xs/\h.DictOfH (tupleKind (Zay P w)) a xs:=by
 obtain⟨z,y,xs,r,o,es,ep,h1,h2,h3,h4,h5⟩:=(show ObjOk P w H h a (.dT kvs) from ZmE ok e)
 refine⟨z,y,xs,r,o,es,ep,h1,h2,h3,h4,fun x hx=>?_,h5⟩;have all:∀ {l:List (List Key × V)}{m:List (List Key × Addr × Value)},KT H l m->∀ x∈m,(tupleKind (Zay P w)).is h x.1 x.2.1:=by
  intro l m q
  induction q with
  | nil=>intro x hx;exact nomatch hx
  | @cons p q ps qs hq t ih=>
   intro x hx;rcases Yau.mp hx with e | hx
   ·subst e;exact ZiH ok (by rw[<- hq.1];exact hq.2.1)
   ·exact ih x hx
 exact all r x hx
theorem ZnX {kvs:List (List Key × V)} (ok:HOk P w H h) (e:H a=some (.dT kvs)):kvs.length<=sizeLine/\(a == sysModules)=false /\
  ∃ xs,KT H kvs xs/\h.DictOfH (tupleKind (Zay P w)) a xs:=Zl4 ok (.inl e)
end
def DGet (H:Hp) (a:Addr) (y:V) (r:Option V):Prop :=
 (∃ kvs k,Rd H a (.dK kvs)/\y=kV k/\r=valV kvs k)∨∃ kvs k b,Rd H a (.dT kvs)/\y=.ref b/\H b=some (.tup (k.map kV))/\r=valV kvs k
def DPut (H:Hp) (a:Addr) (y v:V) (H':Hp):Prop :=
 (∃ kvs k,H a=some (.dK kvs)/\y=kV k/\kvs.length<sizeLine/\H'=upd H a (.dK (putK kvs k v))) ∨
 ∃ kvs k b,H a=some (.dT kvs)/\y=.ref b/\H b=some (.tup (k.map kV))/\kvs.length<sizeLine/\H'=upd H a (.dT (putK kvs k v))
theorem DGet.k {H:Hp}{a:Addr}{kvs:List (Key × V)}{k:Key} (e:H a=some (.dK kvs)):DGet H a (kV k) (valV kvs k):=.inl ⟨kvs,k,.inl e,rfl,rfl⟩
theorem DPut.k {H:Hp}{a:Addr}{kvs:List (Key × V)}{k:Key}{v:V} (e:H a=some (.dK kvs)) (hl:kvs.length<sizeLine):DPut H a (kV k) v (upd H a (.dK (putK kvs k v))):=.inl ⟨kvs,k,e,rfl,hl,rfl⟩
section
variable {X:Cx}{pins:List (Addr × Obj)}{σ:St}{H:Hp}{s:Shared}{a:Addr}{y v:V}{u r:Value}{o:Option V}{A:Around}{E:Value->Shared->Prop}
theorem Inv.big (I:Inv X pins σ H s):sysModules<s.heap.objs.size:=by
 have h:mainGlobals<s.heap.objs.size:=(I.mod.glob.keeps I.bk).lt;exact Nat.lt_trans (by decide) h
theorem Zez {h':Heap}{t':Nat}{ob:HO} (I:Inv X pins σ H s) (mu:Mut (H a)) (hs:YcL a s.heap h') (he:∃ q,h'.get? a=some q) (new:ObjOk X.prog X.w (upd H a ob) h' a ob) :
  Inv X pins σ (upd H a ob) { s with heap:=h',toks:=t' } :=
 I.write (x:=a) (e:=a) mu (.inl rfl) (fun b q hb z=>(hs.2 b hb).trans z) he new
theorem ZgF {P:Program}{w:World}{H':Hp}{h':Heap}{kvs:List (Key × V)}{vs:List (Key × Value)} (z:kvs.length<=sizeLine) (hd:(a == sysModules)=false) (rel:KV kvs vs) (dd:h'.DictOf (Zay P w) a vs) :
  ObjOk P w H' h' a (.dK kvs):=⟨z,hd,vs,rel,dd⟩
theorem Zje {H':Hp}{Q:Unit->Shared->Prop} (hu:A.units+1<cLine) (I:Inv X pins σ H s) (g:DPut H a y v H') (ry:RelV y u) (rv:RelV v r) (h:∀ s',Inv X pins σ H' s'->Q () s') :
  wpAny (model X.prog X.w) A (setItem (.ref a) u r) Q E s:=by
 rcases g with ⟨kvs,k,e,ey,l,eH⟩ | ⟨kvs,k,b,e,ey,eb,l,eH⟩
 ·subst ey eH;obtain⟨z,hd,vs,rel,dd⟩:=Zl6 I.hok e;have hz:vs.length<=sizeLine:=by rw[<- rel.length];exact z
  have hl:(putK kvs k v).length<=sizeLine:=by have:=Zbg kvs k v;(clear hz z hu;omega)
  refine wpAny_setItem_pairs (hsz:=hz) (ZiM ry) dd fun h' dd' hs=>h _ ?_;have he:∃ q,h'.get? a=some q:=let ⟨q,_,_,hq,_⟩:=dd';⟨q,hq⟩
  exact Zez I (by rw[e];exact Yb1) hs he (ZgF hl hd (rel.put k rv) dd')
 ·subst ey eH;cases (show u=Ya9 b from ry);obtain⟨z,hd,xs,rel,dd⟩:=ZnX I.hok e;have hz:xs.length<=sizeLine:=by rw[<- Ydg rel];exact z
  have hl:(putK kvs k v).length<=sizeLine:=by have:=Zbg kvs k v;(clear hz z hu;omega)
  refine wpAny_setItem_heap (hsz:=hz) (tupleKind_room_in1 hu) (ZiH I.hok eb) dd fun h' dd' hs=>h _ ?_;obtain⟨q,es,ep,hq,h2,h3,h4,_,h5⟩:=dd';refine Zez I (by rw[e];exact Yb1) hs ⟨q,hq⟩ ⟨hl,hd,_,(rel.put k eb rv).keeps fun c ys ec=>?_,q,es,ep,hq,h2,h3,h4,h5⟩;rw[Zaf (ZlQ ec e (fun z=>nomatch z))];exact ec
end
section
variable {X:Cx}{pins:List (Addr × Obj)}{σ:St}{H:Hp}{s:Shared}{a:Addr}{kvs:List (Key × V)}{k:Key}{u:Value}{A:Around}{E:Value->Shared->Prop}
end
def Znw (td ty tv:TE):TS:=fun D σ H=>tv σ H fun v H1=>td σ H1 fun x H2=>ty σ H2 fun y H3=>∃ a H4,x=.ref a/\DPut H3 a y v H4/\D.nx σ H4
section
variable {X:Cx}{o i e value:Expr}{pos pos' tpos:Pos}{td ty tv:TE}
theorem Zlx (hu:X.A.units+1<cLine) (ho:PE X o td) (hi:PE X i ty) (hv:PE X value tv) (hs:swapsWith value (some (.Subscript o i pos')) pos.line X.env=pure false) :
  PS X (.Assign [.Subscript o i pos'] value pos) (Znw td ty tv):=by
 intro pins s σ H D I h;refine wpAny_Assign_Subscript (thn (hv pins s σ H _ I h) fun r s1 ⟨v,H1,I1,rv,q1⟩=>thn (ho pins s1 σ H1 _ I1 q1) fun u s2 ⟨x,H2,I2,rx,q2⟩=>thn (hi pins s2 σ H2 _ I2 q2) fun iv s3 ⟨y,H3,I3,ry,a,H4,ex,g,q3⟩=>?_) hs;subst ex;obtain rfl:u=Ya9 a:=rx;exact Zje hu I3 g ry rv fun s4 I4=>⟨σ,H4,I4,q3⟩
end
theorem Zey {P:Program}{w:World}{H:Hp} (h:Heap) (hb:sysModules<h.objs.size):ObjOk P w H (h.push { cls:=.type "dict",data:=.dict #[] }) h.objs.size (.dK []) :=
 ⟨YaV _,beq_eq_false_iff_ne.mpr (Yba (YaB hb)),[],.nil,Heap.DictOf.new h⟩
def Zmm:TE:=fun _ H Q=>∀ p,H p=none->Q (.ref p) (upd H p (.dK []))
section
variable {X:Cx}{pos:Pos}
theorem Zek:PE X (.Dict [] [] pos) Zmm:=fun pins s σ H Q I h=>
 wpAny_Dict_empty ⟨.ref s.heap.objs.size,_,I.laid (a:=s.heap.objs.size) (o:=.dK []) (t':=s.toks) (fun _ _ q=>Yab _ q) (Yag _) (Zey s.heap I.big),rfl,h _ (I.hok.fresh (Yag _))⟩
end
def ZhH:List (TE × TE)->St->Hp->(List (V × V)->Hp->Prop)->Prop
 | [],_,H,Q=>Q [] H
 | (tk,tv)::r,σ,H,Q=>tk σ H fun x H1=>tv σ H1 fun y H2=>ZhH r σ H2 fun ps H3=>Q ((x,y)::ps) H3
abbrev VV:List (V × V)->List (Value × Value)->Prop:=Paired fun p q=>RelV p.1 q.1/\RelV p.2 q.2
def PPs (X:Cx) (pos:Pos) (keys:List (Option Expr)) (values:List Expr) (trs:List (TE × TE)):Prop :=
 ∀ (pins:List (Addr × Obj)) (s:Shared) (σ:St) (H:Hp) (Q:List (V × V)->Hp->Prop),Inv X pins σ H s->ZhH trs σ H Q ->
  wpAny (model X.prog X.w) X.A (evalPairs (pairTrees keys values X.env pos)) (fun vs s'=>∃ ps H',Inv X pins σ H' s'/\VV ps vs/\Q ps H') X.xe s
theorem ZlA {X:Cx}{pos:Pos}:PPs X pos [] [] []:=fun pins s σ H Q I h=>pairTrees_nil_walk ⟨[],H,I,.nil,h⟩
theorem ZjY {X:Cx}{pos:Pos}{k v:Expr}{ks:List (Option Expr)}{vs:List Expr}{tk tv:TE}{trs:List (TE × TE)} (hk:PE X k tk) (hv:PE X v tv) (hr:PPs X pos ks vs trs) :
  PPs X pos (some k::ks) (v::vs) ((tk,tv)::trs):=fun pins s σ H Q I h=>
 pairTrees_cons_walk (thn (hk pins s σ H _ I h) fun u s1 ⟨x,H1,I1,rx,q1⟩=>thn (hv pins s1 σ H1 _ I1 q1) fun w2 s2 ⟨y,H2,I2,ry,q2⟩=>
  thn (hr pins s2 σ H2 _ I2 q2) fun ws s3 ⟨ps,H3,I3,rel,q3⟩=>⟨(x,y)::ps,H3,I3,.cons ⟨rx,ry⟩ rel,q3⟩)
def Zcx (kvs more:List (Key × V)):List (Key × V):=more.foldl (fun acc kv=>putK acc kv.1 kv.2) kvs
theorem KV.merge:∀ {more:List (Key × V)}{rs:List (Key × Value)}{kvs:List (Key × V)}{vs:List (Key × Value)},KV more rs->KV kvs vs->KV (Zcx kvs more) (merged vs rs):=by
 intro more rs kvs vs r;unfold KV at r
 induction r generalizing kvs vs with
 | nil=>intro q;exact q
 | @cons p q ps qs h t ih=>
  intro r0;have e:KV (putK kvs p.1 p.2) (stored vs q.1 q.2):=by
   have:=r0.put p.1 h.2;rw[<- h.1];exact this
  exact ih e
theorem Zb4:∀ (more kvs:List (Key × V)),(Zcx kvs more).length<=kvs.length+more.length
 | [],kvs=>by show kvs.length<=kvs.length+0;omega
 | p::r,kvs=>by
  have h1:=Zb4 r (putK kvs p.1 p.2);have h2:=Zbg kvs p.1 p.2;show (Zcx (putK kvs p.1 p.2) r).length<=_;rw[YaH];omega
theorem ZdQ {P:Program}{w:World}:∀ {kvs:List (Key × V)}{ws:List (Value × Value)},VV (kvs.map fun kv=>(kV kv.1,kv.2)) ws->∃ rs,Carries (Zay P w) ws rs/\KV kvs rs
 | [],_,r=>by rw[Ycl] at r;cases r;exact⟨[],Yb1,.nil⟩
 | p::kvs,_,r=>by
  rw[YaD] at r
  cases r with
  | @cons a b as bs h t=>
   obtain⟨rs,c,q⟩:=ZdQ (P:=P) (w:=w) t;obtain⟨b1,b2⟩:=b;exact⟨(p.1,b2)::rs,⟨ZiM h.1,rfl,c⟩,.cons ⟨rfl,h.2⟩ q⟩
def Zns (trs:List (TE × TE)):TE:=fun σ H Q=>∀ p,H p=none->ZhH trs σ (upd H p (.dK [])) fun ps H2=>H2 p=some (.dK [])/\∃ kvs:List (Key × V),ps=kvs.map (fun kv=>(kV kv.1,kv.2))/\kvs.length<=15/\Q (.ref p) (upd H2 p (.dK (Zcx [] kvs)))
theorem ZlC {X:Cx}{pos:Pos}{keys:List (Option Expr)}{values:List Expr}{trs:List (TE × TE)} (h:PPs X pos keys values trs) (hall:keys.all (·.isSome)=true) (hl:keys.length=values.length) (h0:keys≠[])
  (h15:keys.length<=15):PE X (.Dict keys values pos) (Zns trs):=by
 intro pins s σ H Q I q;have hn:=I.hok.fresh (Yag s.heap.objs.size);have I1:=I.laid (a:=s.heap.objs.size) (o:=.dK []) (h':=s.heap.push { cls:=.type "dict",data:=.dict #[] }) (t':=s.toks) (fun _ _ q=>Yab _ q) (Yag _) (Zey s.heap I.big);refine wpAny_Dict_walk (knd:=Zay X.prog X.w) hall hl h0 h15 (thn (h pins _ σ _ _ I1 (q _ hn)) fun ws s2 ⟨ps,H2,I2,rel,e,kvs,ep,lk,q2⟩=>?_);subst ep;obtain⟨rs,c,rk⟩:=ZdQ (P:=X.prog) (w:=X.w) rel;obtain⟨z,hd,vs0,r0,dd⟩:=Zl6 I2.hok e;cases r0;refine⟨rs,c,dd,fun h' dd' hs=>⟨.ref s.heap.objs.size,_,?_,rfl,q2⟩⟩;have hz:(Zcx [] kvs).length<=sizeLine:=by
  have h1:=Zb4 kvs [];rw[YdQ] at h1;rw[sizeLine_eq];(clear z h15 hl;omega)
 have he:∃ q,h'.get? s.heap.objs.size=some q:=let ⟨q,_,_,hq,_⟩:=dd';⟨q,hq⟩
 exact Zez I2 (by rw[e];exact Yb1) hs he (ZgF hz hd (rk.merge .nil) dd')
structure M1 (X:Cx) (o:Expr) (m:Str) (apos:Pos) (e:Expr) (cpos:Pos):Prop where
 base:attributeBase o m X.env (eval o X.env)=eval o X.env
 few:((backTo cpos (starEach [e] X.env)).all (fun x=>!x.1) && (backToKw cpos (keywordEach [] X.env)).all (fun x=>x.1.isSome)
  && decide (([e]:List Expr).length+([]:List Keyword).length+(if ([]:List Keyword).isEmpty then 0 else 1)<30))=true
 line:(apos.endLine == cpos.line)=true
 trees:backTo cpos (starEach [e] X.env)=[(false,eval e X.env)]
structure M2 (X:Cx) (o:Expr) (m:Str) (apos:Pos) (e f:Expr) (cpos:Pos):Prop where
 base:attributeBase o m X.env (eval o X.env)=eval o X.env
 few:((backTo cpos (starEach [e,f] X.env)).all (fun x=>!x.1) && (backToKw cpos (keywordEach [] X.env)).all (fun x=>x.1.isSome)
  && decide (([e,f]:List Expr).length+([]:List Keyword).length+(if ([]:List Keyword).isEmpty then 0 else 1)<30))=true
 line:(apos.endLine == cpos.line)=true
 trees:backTo cpos (starEach [e,f] X.env)=[(false,eval e X.env),(false,eval f X.env)]
def IsD (H:Hp) (a:Addr):Prop:=(∃ kvs,Rd H a (.dK kvs))∨∃ kvs,Rd H a (.dT kvs)
theorem ZkY {X:Cx}{pins:List (Addr × Obj)}{σ:St}{H:Hp}{s:Shared}{a:Addr} (I:Inv X pins σ H s) (d:IsD H a) :
  s.TypeIs (.ref a) "dict"/\(∀ b,Ya9 a=.ref b->∃ ob,s.heap.get? b=some ob/\ob.dict=none)/\(a == sysModules)=false:=by
 rcases d with ⟨kvs,e⟩ | ⟨kvs,e⟩
 ·obtain⟨_,hd,vs,_,dd⟩:=Zhn I.hok e;refine⟨dd.typeIs,fun b q=>?_,hd⟩;cases q;obtain⟨ob,_,_,h1,h2,_⟩:=dd;exact⟨ob,h1,h2.2.1⟩
 ·obtain⟨_,hd,xs,_,dd⟩:=Zl4 I.hok e;refine⟨dd.typeIs,fun b q=>?_,hd⟩;cases q;obtain⟨ob,_,_,h1,h2,_⟩:=dd;exact⟨ob,h1,h2.2.1⟩
section
variable {X:Cx}{pins:List (Addr × Obj)}{σ:St}{H:Hp}{s:Shared}{a:Addr}{y d:V}{u r:Value}{o:Option V}{A:Around}{E:Value->Shared->Prop}
theorem Zne {Q:Value->Shared->Prop} (hu:A.units+1<cLine) (I:Inv X pins σ H s) (g:DGet H a y o) (ry:RelV y u) (rd:RelV d r) (h:∀ w' s',Inv X pins σ H s'->RelV (o.getD d) w'->Q w' s') :
  wpAny (model X.prog X.w) A (call (.builtin "dict.get") [.ref a,u,r]) Q E s:=by
 rcases g with ⟨kvs,k,e,ey,l⟩ | ⟨kvs,k,b,e,ey,eb,l⟩
 ·subst ey;obtain⟨z,hd,vs,rel,dd⟩:=Zhn I.hok e;refine call_meetsIn YcZ dd.typeIs Yd8 (Yd2 _ _ _) (meets_dict_get_default (Zay X.prog X.w) a (ZiM ry) hd r) ⟨_,dd.mapOf,h _ _ (I.tok _) ?_⟩;rw[l];exact (rel.val k).getD rd
 ·subst ey;cases (show u=Ya9 b from ry);obtain⟨z,hd,xs,rel,dd⟩:=Zl4 I.hok e;refine call_meetsIn YcZ dd.typeIs Yd8 (Yd2 _ _ _) (meetsH_dict_get_default (tupleKind (Zay X.prog X.w)) a b hd r) ⟨tupleKind_room_in1 hu,k,xs,ZiH I.hok eb,dd,h _ _ (I.tok _) ?_⟩;rw[l];exact (rel.val k).getD rd
end
def Zmn (td ty tx:TE):TE:=fun σ H Q=>td σ H fun x H1=>∃ a,x=.ref a/\IsD H1 a/\ty σ H1 fun y H2=>tx σ H2 fun z H3=>∃ o,DGet H3 a y o/\Q (o.getD z) H3
section
variable {X:Cx}{o e f:Expr}{apos cpos:Pos}{td ty tx:TE}
theorem Zj4 (hu:X.A.units+1<cLine) (ho:PE X o td) (he:PE X e ty) (hf:PE X f tx) (m:M2 X o "get" apos e f cpos):PE X (.Call (.Attribute o "get" apos) [e,f] [] cpos) (Zmn td ty tx):=by
 intro pins s σ H Q I h;refine wpAny_Call_method m.base m.few m.line Yd1 YcZ PySem.F.type_dict_get (thn (ho pins s σ H _ I h) fun u s1 ⟨x,H1,I1,rx,a,ex,d,q1⟩=>?_);subst ex;obtain rfl:u=Ya9 a:=rx;obtain⟨t1,t2,_⟩:=ZkY I1 d;refine⟨t1,t2,?_⟩;rw[m.trees];refine Yc5 rfl (Yex (Ydm (thn (he pins s1 σ H1 _ I1 q1) fun iv s2 ⟨y,H2,I2,ry,q2⟩=>
  Ydm (thn (hf pins s2 σ H2 _ I2 q2) fun fv s3 ⟨z,H3,I3,rz,ov,g,q3⟩=>YeV ?_))))
 exact Zne hu I3 g ry rz fun w' s4 I4 rw'=>⟨_,H3,I4,rw',q3⟩
end
section
variable {X:Cx}{pins:List (Addr × Obj)}{σ:St}{H:Hp}{s:Shared}{a:Addr}{kvs:List (Key × V)}{A:Around}{E:Value->Shared->Prop}
theorem ZkD {Q:Value->Shared->Prop} (I:Inv X pins σ H s) (e:Rd H a (.dK kvs)) (h:∀ p s',H p=none->Inv X pins σ (upd H p (.dK kvs)) s'->Q (.ref p) s'):wpAny (model X.prog X.w) A (call (.type "dict") [.ref a]) Q E s:=by
 obtain⟨z,hd,vs,rel,dd⟩:=Zhn I.hok e;refine kt_call_dict hd dd (by rw[<- rel.length];exact z) fun h' dd' hs=>?_;refine h _ _ (I.hok.fresh (Yag _)) (I.laid (a:=s.heap.objs.size) (o:=.dK kvs) (t':=s.toks) (fun b q hq=>?_) (Yag _) (ZgF z (beq_eq_false_iff_ne.mpr (Yba (YaB I.big))) rel dd'));exact (hs.2 b (YaB (Yah hq))).trans (Yab _ hq)
end
section
variable {X:Cx}{pins:List (Addr × Obj)}{σ:St}{H:Hp}{s:Shared}{a:Addr}{y:V}{u:Value}{A:Around}{E:Value->Shared->Prop}
end
end L2
namespace L2
open PySem PySem.Spec PyProof.Rows
section
variable {κ:Type} [DecidableEq κ]
theorem ZjB {kvs:List (κ × V)}{k:κ} (h:valV kvs k=none):¬ k∈kvs.map (·.1):=by
 intro m;obtain⟨p,hp,e⟩:=Yay.mp m;have q:(kvs.any fun kv=>decide (kv.1=k))=true:=YdG.mpr ⟨p,hp,decide_eq_true e⟩;rw[Zbs,h] at q;exact absurd q (by simp)
theorem Zk9 {kvs:List (κ × V)}{k:κ}{v:V} (h:valV kvs k=some v):k∈kvs.map (·.1):=by
 have q:(kvs.any fun kv=>decide (kv.1=k))=true:=by
  rw[Zbs,h]
  all_goals rfl
 obtain⟨p,hp,e⟩:=YdG.mp q;exact Yay.mpr ⟨p,hp,of_decide_eq_true e⟩
theorem Zis:∀ {l:List κ}{k:κ},l.Nodup->¬ k∈l->(l++[k]).Nodup
 | [],k,_,_=>by simp
 | a::r,k,h,hk=>by
  obtain⟨h1,h2⟩:=YbS.mp h;show (a::(r++[k])).Nodup;refine YbS.mpr ⟨fun m=>?_,Zis h2 fun m=>hk (Yau.mpr (Yen m))⟩;rcases Yap.mp m with q | q
  ·exact h1 q
  ·exact hk (Yau.mpr (YaK (YaN.mp q).symm))
end
end L2
namespace L2
open PySem PySem.Spec PyProof.Rows PySem.SeqAt
section
variable {prog:Program}{w:World}{A:Around}{E:Value->Shared->Prop}{s:Shared}
theorem ZdG {it t:Addr}{i:Nat}{items:Array Value}{x:Value}{Q:Value->Shared->Prop} (hit:s.heap.IsTupleIter it t i) (ht:s.heap.IsTuple t items) (hx:items[i]?=some x)
  (hQ:∀ h',h'.IsTupleIter it t (i+1)->YcL it s.heap h'->Q x { s with heap:=h' }):wpAny (model prog w) A (Ya3 (.ref it)) Q E s:=by
 obtain⟨o,ho,hc,hd⟩:=id hit;obtain⟨ol,hol,_,nl,hdl⟩:=ht;unfold Ya3;refine wpAny_bind (wpAny_callSpecial?_slot (name:=YcM "__next__") hit.typeIs F.slot_tuple_iterator_next (wpAny_call_entry F.slot_tuple_iterator_next hit.typeIs F.entry_tuple_iterator_next ?_ (F.args_tuple_iterator_next_1 _)));show wpAny _ _ (field (.ref it) 0 >>= _) _ _ s;refine wpAny_bind (wpAny_field ho hd (x:=.ref t) rfl ?_);show wpAny _ _ (if (Ya9 t == Ych)=true then _ else _) _ _ s;rw[if_neg (show ¬ ((Ya9 t == Ych)=true) from YaO)];show wpAny _ _ (field (.ref it) 1 >>= _) _ _ s;refine wpAny_bind (wpAny_field ho hd (x:=.int i 0) rfl ?_);show wpAny _ _ (seqItems? (.ref t) >>= _) _ _ s;refine wpAny_bind (wpAny_seqItems hol hdl ?_);simp only[Ybf,hx];refine wpAny_bind (wpAny_setField ho hd (by simp) (wpAny_pure ⟨x,rfl,wpAny_pure (hQ _ ?_ (YdT ..))⟩));exact⟨_,Yev _ ho (Obj.isFreed_of_fields (YeX hd _)),(Obj.cls_mapFields ..).trans hc,by rw[YeX hd];simp[rawInt]⟩
theorem Zbb {it t:Addr}{i:Nat}{items:Array Value}{Q:Value->Shared->Prop} (hh:A.handled=none) (hit:s.heap.IsTupleIter it t i) (ht:s.heap.IsTuple t items) (hx:items[i]?=none)
  (hE:∀ h' e,Ydh it s.heap h'->(∃ o,h'.get? e=some o/\o.cls=.type "StopIteration")->E (.ref e) { s with heap:=h' }):wpAny (model prog w) A (Ya3 (.ref it)) Q E s:=by
 obtain⟨o,ho,hc,hd⟩:=id hit;obtain⟨ol,hol,_,nl,hdl⟩:=ht;unfold Ya3;refine wpAny_bind (wpAny_callSpecial?_slot (name:=YcM "__next__") hit.typeIs F.slot_tuple_iterator_next (wpAny_call_entry F.slot_tuple_iterator_next hit.typeIs F.entry_tuple_iterator_next ?_ (F.args_tuple_iterator_next_1 _)));show wpAny _ _ (field (.ref it) 0 >>= _) _ _ s;refine wpAny_bind (wpAny_field ho hd (x:=.ref t) rfl ?_);show wpAny _ _ (if (Ya9 t == Ych)=true then _ else _) _ _ s;rw[if_neg (show ¬ ((Ya9 t == Ych)=true) from YaO)];show wpAny _ _ (field (.ref it) 1 >>= _) _ _ s;refine wpAny_bind (wpAny_field ho hd (x:=.int i 0) rfl ?_);show wpAny _ _ (seqItems? (.ref t) >>= _) _ _ s;refine wpAny_bind (wpAny_seqItems hol hdl ?_);simp only[Ybf,hx];refine wpAny_bind (wpAny_rule (wpAny_bind (wpAny_setField ho hd (by simp) ?_)));show wpAny _ _ (newExc (.type "StopIteration") [] >>= _) _ _ _;refine wpAny_bind ?_;simp only[newExc,newTuple];refine wpAny_bind (wpAny_newObj_type ?_ (by size_fits));refine wpAny_bind (m:=firstArgMember _ _) (wpAny_of_eq (a:=Ych) (by first | rfl | (simp only[firstArgMember];rfl)) ?_);refine wpAny_newObj_type ?_ (by size_fits);simp only[raiseNew];refine wpAny_bind (wpAny_handled ?_)
 first | rw[show A.in1.handled=none from hh] | rw[hh]
 refine wpAny_bind (wpAny_pure (wpAny_throw ?_));exact hE _ _ (((YdT ..).extBut.push _).push _) ⟨_,Yav _ rfl,rfl⟩
theorem Zi7 (hh:A.handled=none) (it l:Addr) (hne:l≠it) (items:Array Value):Draws prog w A it [it,l] items.size (fun i v=>items[i]?=some v) (fun i h=>h.IsTupleIter it l i/\h.IsTuple l items) where
 live:=fun _ _ st=>let ⟨o,ho,_⟩:=st.1;⟨o,ho⟩
 frame:=fun _ _ _ st hk=>⟨st.1.at fun o e=>hk it (by simp) o e,let ⟨o,e,c⟩:=st.2;⟨o,hk l (by simp) o e,c⟩⟩
 item:=fun i s Q E hi st hQ=>by
  refine ZdG st.1 st.2 (x:=items[i]) (by simp[hi]) fun h' hit' hs'=>?_;exact hQ _ h' s.toks (by simp[hi]) ⟨hit',let ⟨o,e,c⟩:=st.2;⟨o,(hs'.2 l hne).trans e,c⟩⟩ hs'
 done:=fun s Q E st hE=>Zbb hh st.1 st.2 (by simp) hE
end
theorem Ze9 (l:Addr) (items:Array Value) (n:Nat) (dct:Option Addr) (sl:Array (Option Value)) :
  Meets (Builtin.«enumerate.__new__» ⟨[.type "enumerate",.ref l],[]⟩) (fun _ R s=>s.heap.get? l=some { cls:=.type "tuple",dict:=dct,data:=.seq items n,slots:=sl } /\
   R (.ok (.ret (.ref (s.heap.push { cls:=.type "tuple_iterator",data:=.fields #[.ref l,.int 0 0] }).objs.size)))
    { s with heap:=(s.heap.push { cls:=.type "tuple_iterator",data:=.fields #[.ref l,.int 0 0] }).push { cls:=.type "enumerate",data:=.fields #[.none,.bool false,.ref s.heap.objs.size,rawInt 0,.none,.none] } }) :=
 .of_wp fun prog w A R s h=>by
  obtain⟨hp,g,d,tk,os⟩:=s;obtain⟨hl,h⟩:=h;have hsub:=sub_enumerate;have hL:Yda (Ycf ⟨hp,g,d,tk,os⟩) l items:=⟨_,hl,rfl,n,rfl⟩
  wp_walk using Ycd hl
  refine wpAny_stack_any fun st=>wpAny_pure ?_;split
  ·rename_i c _ _ _ _ _;cases (c == Ydq "enumerate")
   ·wp_walk using Ycd hl,wpAny_pyIter_tuple hL
    exact⟨_,rfl,h⟩
   ·wp_walk using Ycd hl,wpAny_pyIter_tuple hL
    exact⟨_,rfl,h⟩
  ·wp_walk using Ycd hl,wpAny_pyIter_tuple hL
   exact⟨_,rfl,h⟩
section
variable {prog:Program}{w:World}{A:Around}{E:Value->Shared->Prop}{s:Shared}
theorem Ze8 {e it l:Addr}{i:Nat}{items:Array Value}{old:Value}{Q:Option Value->Shared->Prop} (hh:A.handled=none) (he:IsEnum s.heap e it i old) (hit:s.heap.IsTupleIter it l i) (hl:s.heap.IsTuple l items) (hx:items[i]?=none)
  (hQ:∀ h',Ydh it s.heap h'->Q none { s with heap:=h' }):wpAny (model prog w) A (pyNext (.ref e)) Q E s:=by
 have hT:s.TypeIs (.ref e) "enumerate":=⟨_,he,rfl⟩
 unfold pyNext;refine wpAny_bind (wpAny_attempt (wpAny_callSpecial?_slot (name:=YcM "__next__") hT F.slot_enumerate_next (wpAny_call_entry F.slot_enumerate_next hT F.entry_enumerate_next ?_ (F.args_enumerate_next_1 _))));show wpAny _ _ (field (.ref e) 2 >>= _) _ _ _;refine wpAny_bind (wpAny_field he rfl (x:=.ref it) rfl ?_);refine wpAny_bind (Zbb hh hit hl hx fun h' x he' hx'=>?_);obtain⟨o,ho,hc⟩:=hx';refine wpAny_bind (wpAny_isInstance (T:="StopIteration") (b:=true) ⟨o,ho,hc⟩ isSubtype_stop ?_);exact wpAny_pure (hQ _ he')
theorem ZeB {l:Addr}{items:Array Value}{Q:Value->Shared->Prop} (hL:s.heap.IsTuple l items)
  (h:∀ h',IsEnum h' (s.heap.objs.size+1) s.heap.objs.size 0 .none->h'.IsTupleIter s.heap.objs.size l 0->(∀ b o,s.heap.get? b=some o->h'.get? b=some o)->Q (.ref (s.heap.objs.size+1)) { s with heap:=h' }) :
  wpAny (model prog w) A (call (.type "enumerate") [.ref l]) Q E s:=by
 obtain⟨⟨c,dct,dt,sl⟩,hl,hc,n,hd⟩:=hL
 replace hc:c=.type "tuple":=hc
 replace hd:dt=.seq items n:=hd
 subst hc hd;refine callType_new F.called_enumerate (by decide) (F.typeCall_enumerate_1 _) (F.newCall_enumerate_1 _) (fun obj=>F.args_object_init_2 obj _) F.entry_enumerate_new (Ze9 l items n dct sl) ⟨hl,?_⟩;have hz:(s.heap.push { cls:=.type "tuple_iterator",data:=.fields #[.ref l,.int 0 0] }).objs.size=s.heap.objs.size+1:=Ybj ..;show _/\_;rw[hz];have he:IsEnum ((s.heap.push { cls:=.type "tuple_iterator",data:=.fields #[.ref l,.int 0 0] }).push { cls:=.type "enumerate",data:=.fields #[.none,.bool false,.ref s.heap.objs.size,rawInt 0,.none,.none] }) (s.heap.objs.size+1) s.heap.objs.size 0 .none:=by
  have:=Yav (s.heap.push { cls:=.type "tuple_iterator",data:=.fields #[.ref l,.int 0 0] }) (o:={ cls:=.type "enumerate",data:=.fields #[.none,.bool false,.ref s.heap.objs.size,rawInt 0,.none,.none] }) rfl;rw[hz] at this;exact this
 exact⟨⟨_,he,rfl⟩,h _ he ⟨_,Yab _ (Yav _ rfl),rfl,rfl⟩ fun b o x=>Yab _ (Yab _ x)⟩
end
def IteT (K:Yac) (a:Addr):It :=
 ⟨fun i H=>∃ xs x,SqT K H a xs/\xs[i]?=some x,fun i H y H'=>∃ p x,H p=none/\y=.ref p/\H'=upd H p (.tup [.int i,x])/\∀ xs,SqT K H a xs->xs[i]?=some x,fun i H=>∃ xs,SqT K H a xs/\xs.length<=i⟩
theorem ZgS {P:Program}{w:World}{K:Yac}{es:List Expr}{x1}{pos:Pos} (a it e:Addr) (hne:e≠it):Turn P w K (.Tuple es x1 pos) (IteT K a) [e,it] e (fun i h=>(∃ old,IsEnum h e it (i:Nat) old)/\h.IsTupleIter it a i) where
 mem:=by simp
 obj:=fun i h st b hb=>by
  obtain⟨⟨old,s1⟩,s2⟩:=st;rcases Yau.mp hb with z | z
  ·subst z;exact⟨_,s1,fun v z=>nomatch z⟩
  ·have z:b=it:=by simpa using z
   subst z;obtain⟨o,e,c,d⟩:=s2;exact⟨o,e,fun v z=>by rw[d] at z;cases z⟩
 keep:=fun i h h' st k=>by
  obtain⟨⟨old,s1⟩,s2⟩:=st;exact⟨⟨old,k e (by simp) _ s1⟩,s2.at fun o q=>k it (by simp) o q⟩
 item:=by
  intro X hP hw hK hc i pins s σ H E I hf st hg;subst hP hw hK;obtain⟨xs,x,hq,hx⟩:=hg;obtain⟨its,rv,p,hz⟩:=I.tuple hq;obtain⟨u,hu,ru⟩:=rv.get hx;obtain⟨⟨old,s1⟩,s2⟩:=st;have hlt:(i:Nat)<its.toArray.size:=by
   have:=(Yaa.mp hu).1
   simpa using this
  have nea:a≠it:=by
   rintro rfl;obtain⟨o1,q1,c1,_⟩:=p;obtain⟨o2,q2,c2,_⟩:=id s2;rw[q1] at q2;cases q2;rw[c1] at c2;injection c2 with z;exact absurd z (by decide)
  have nee:a≠e:=by
   rintro rfl;obtain⟨o1,q1,c1,_⟩:=p;have s1':s.heap.get? a=some _:=s1;rw[q1] at s1';cases s1';injection c1 with z;exact absurd z (by decide)
  have it2:s.heap.IsTuple a its.toArray:=p;refine wpAny_pyNext_enum_itemD (Zi7 (A:=X.A.in1) (I.ok.hd hc) it a nea its.toArray) s1 ⟨s2,it2⟩ hlt hne (by simp[hne,Yba nee]) fun u' h' tk' hu' ho hst ht hsz hk=>?_;have eu:u'=u:=by
   have:its.toArray[i]?=some u:=by simpa using hu
   rw[this] at hu';exact (Yaw hu').symm
  subst eu;have hit:=hst.1;refine⟨_,rfl,?_⟩;refine wpAny_letOwnedTupleGo_enum ho fun h'' he hs=>?_;have fresh:H s.heap.objs.size=none:=I.hok.fresh (Yag _);have k:∀ b o,b ∉ [e,it]->s.heap.get? b=some o->h''.get? b=some o:=fun b o hb q=>by
   have hb':b≠e/\b≠it:=by simpa using hb
   exact (hs.2 b hb'.1).trans (hk b o hb'.1 hb'.2 q)
  have nE:∀ b∈[e,it],H b=none:=fun b hb=>(hf b hb).1
  have nit:∀ b u,H b=some u->b ∉ [e,it]:=fun b u q z=>by rw[nE b z] at q;cases q
  have hpe:s.heap.objs.size≠e:=Yby (Yah s1);have htup:h''.get? s.heap.objs.size=some { cls:=.type "tuple",data:=.seq #[.int i tk',u'] }:=(hs.2 _ hpe).trans ht;have newOk:ObjOk X.prog X.w (upd H s.heap.objs.size (.tup [.int i,x])) h'' s.heap.objs.size (.tup [.int i,x]):=by
   refine⟨?_,[.int i tk',u'],.cons ⟨_,rfl⟩ (.cons ru .nil),⟨_,htup,rfl,rfl,0,rfl⟩⟩;show 2<=sizeLine
   decide
  have I1:Inv X pins σ (upd H s.heap.objs.size (.tup [.int i,x])) { s with heap:=h'',toks:=tk'+1 }:=by
   refine I.step (g':=s.gens) (d':=s.drawn) (ch:=[e,it]) (fun b hb=>?_) (fun b o _ _ hc q _=>k b o hc q) (fun b o _ _ hc q _=>⟨o.slots,k b o hc q⟩) (fun b o _ q n=>?_) (fun b o hc q=>⟨o,k b o hc q⟩)
    (fun b xs q=>by rw[Zaf (Zae q fresh)];exact q) (fun b o xs q=>by rw[Zaf (Zae q fresh)];exact q) (fun b ps q=>⟨#[],by rw[Zaf (Zae q fresh),q];simp⟩) (fun m hm=>?_) (fun b ob q=>?_) I.bare
   ·obtain⟨f0,f1,f2,f3,f4,f5⟩:=hf b hb;exact⟨f3,f1,f4,f5⟩
   ·rw[Zaf (YaB (Yah q))];exact n
   ·obtain⟨o,es,ep,ho,r⟩:=hm;refine⟨o,es,ep,k _ o (fun z=>?_) ho,r⟩;exact (hf _ z).2.1 rfl
   ·by_cases hb:b=s.heap.objs.size
    ·subst hb;rw[Zab] at q;cases q;exact newOk
    ·rw[Zaf hb] at q;refine (I.hok b ob q).stay (fun c v hc r=>k c v ?_ r) (fun c r=>by rw[Zaf (Zae r fresh)];exact r) fun c xs r=>by rw[Zaf (Zae r fresh)];exact r
     rcases hc with z | z
     ·rw[z];exact nit b ob q
     ·exact nit c _ z
  refine⟨.ref s.heap.objs.size,_,I1,rfl,⟨s.heap.objs.size,x,fresh,rfl,rfl,fun ys hy=>by rw[I.tuple_inj hy hq];exact hx⟩,⟨⟨u',?_⟩,?_⟩,fun b hb=>?_⟩
  ·have he:IsEnum h'' e it ((i:Int)+1) u':=he;show IsEnum h'' e it ((i+1:Nat):Int) u';rw[show ((i+1:Nat):Int)=(i:Int)+1 by (clear hpe hsz hst nee nea hlt hz hne;omega)];exact he
  ·exact hit.extBut hs.extBut (Yba hne)
  ·have lt:b<s.heap.objs.size:=by
    rcases Yau.mp hb with z | z
    ·rw[z];exact Yah s1
    ·have z:b=it:=by simpa using z
     rw[z];obtain⟨o,q,_⟩:=s2;exact Yah q
   rw[Zaf (YaB lt)];exact nE b hb
 done:=by
  intro X hP hw hK hc i pins s σ H E I hf st hg;subst hP hw hK;obtain⟨xs,hq,hx⟩:=hg;obtain⟨its,rv,p,hz⟩:=I.tuple hq;obtain⟨⟨old,s1⟩,s2⟩:=st;obtain⟨f0,f1,f2,f3,f4,f5⟩:=hf it (by simp);have hl:=rv.length;exact Ze8 (I.ok.hd hc) s1 s2 (show s.heap.IsTuple a its.toArray from p) (by simp;(clear f3 f2 f1 hz hne;omega)) fun h' eb=>⟨rfl,I.turned (t':=s.toks) (fun b o hb q=>eb b o hb q) f0 f1 f3 f4 f5⟩
 self:=fun _ _ _ _ _ st h=>by
  obtain⟨⟨old,s1⟩,_⟩:=st;exact wpAny_pyIter_enum s1 h
def SqB (b:Bool) (K:Yac) (H:Hp) (a:Addr) (xs:List V):Prop:=match b with | true=>SqL K H a xs | false=>SqT K H a xs
def IteB (b:Bool) (K:Yac) (a:Addr):It:=match b with | true=>Ite K a | false=>IteT K a
def ZkZ (K:Yac) (ta:TA):TI:=fun σ H R=>ta σ H fun vs H1=>∃ a b,vs=[.ref a]/\(∃ xs,SqB b K H1 a xs)/\R (IteB b K a) H1
theorem ZcE {X:Cx}{es:List Expr}{x1}{tpos:Pos}{e:Expr}{ta:TA}{p pos:Pos} (hg:Gl X "enumerate") (hm:X.mg "enumerate"=none) (ha:PA X [e] ta) (hs:starEach [e] X.env=[(false,eval e X.env)]:=by rfl) :
  PI X (.Tuple es x1 tpos) (.Call (.Name "enumerate" p) [e] [] pos) (ZkZ X.K ta):=by
 intro pins s σ H R I h;refine Call_ (ZdL I hg hm (show bootBuiltins "enumerate"=some (.type "enumerate") by decide +kernel) (YbV (thn (ha pos pins s σ H _ I h) fun us s1 ⟨vs,H1,I1,r1,q1⟩=>?_) hs rfl));obtain⟨a,b,e1,⟨xs,hq⟩,q⟩:=q1;subst e1;obtain⟨u,rfl,r⟩:=ZdU r1;cases r;have fp:∀ b∈[s1.heap.objs.size+1,s1.heap.objs.size],FpOk X pins H1 b:=fun b hb=>by
  have ge:s1.heap.objs.size<=b:=by
   rcases Yau.mp hb with z | z
   ·rw[z];exact Yc0 _
   ·have z:b=s1.heap.objs.size:=by simpa using z
    rw[z];exact Yag _
  exact I1.fpOk ge (I1.hok.fresh ge)
 cases b with
 | true=>
  obtain⟨its,rv,pl,hz⟩:=I1.list hq;refine call_enumerate_list pl.isList fun h' he hi hsz k=>wpAny_pyIter_enum he ?_;exact⟨s1.heap.objs.size+1,[s1.heap.objs.size+1,s1.heap.objs.size],_,_,H1,rfl,I1.kept (t':=s1.toks) k,ZhA a s1.heap.objs.size _ (Yby (YbF _)),⟨⟨.none,he⟩,hi⟩,fp,q⟩
 | false=>
  obtain⟨its,rv,pl,hz⟩:=I1.tuple hq;refine ZeB (show s1.heap.IsTuple a its.toArray from pl) fun h' he hi k=>wpAny_pyIter_enum he ?_;exact⟨s1.heap.objs.size+1,[s1.heap.objs.size+1,s1.heap.objs.size],_,_,H1,rfl,I1.kept (t':=s1.toks) k,ZgS a s1.heap.objs.size _ (Yby (YbF _)),⟨⟨.none,he⟩,hi⟩,fp,q⟩
theorem Zi0 {b:Bool}{K:Yac}{a:Addr}{xs:List V}{g:TG}{tb:TS}{D:Ends}{σ:St}{H:Hp} (Pv:Nat->St->Hp->Prop) (h0:Pv 0 σ H) (hl:∀ i σ H,i<=xs.length->Pv i σ H->SqB b K H a xs)
  (hs:∀ i x p σ H,xs[i]?=some x->Pv i σ H->H p=none->g (.ref p) σ (upd H p (.tup [.int i,x])) fun σ2 H2=>tb { D with nx:=Pv (i+1),ct:=Pv (i+1),bk:=D.nx } σ2 H2) (hd:∀ σ H,Pv xs.length σ H->D.nx σ H) :
  ∃ W:Nat->Nat->St->Hp->Prop,(∃ m,W 0 m σ H)/\∀ i m σ H,W i m σ H ->
   ((IteB b K a).stop i H/\D.nx σ H)∨((IteB b K a).go i H/\∃ N:St->Hp->Prop,(∀ σ' H',N σ' H'->∃ m',m'<m/\W (i+1) m' σ' H')/\∀ x H',(IteB b K a).yld i H x H'->g x σ H' fun σ2 H2=>tb { D with nx:=N,ct:=N,bk:=D.nx } σ2 H2):=by
 refine⟨fun i m σ H=>m=xs.length - i/\i<=xs.length/\Pv i σ H,⟨xs.length,by simp,YaV _,h0⟩,?_⟩;rintro i m σ H ⟨rfl,hi,p⟩;have q:=hl i σ H hi p;by_cases hlt:i<xs.length
 ·have gx:xs[i]?=some xs[i]:=by simp[hlt]
  refine .inr ⟨by cases b <;> exact⟨xs,xs[i],q,gx⟩,Pv (i+1),fun σ' H' p'=>⟨xs.length - (i+1),by (clear hi;omega),rfl,hlt,p'⟩,fun x H' y=>?_⟩;have y:∃ pa z,H pa=none/\x=.ref pa/\H'=upd H pa (.tup [.int i,z])/\xs[i]?=some z:=by
   cases b with
   | true=>obtain⟨pa,z,hp,e1,e2,y⟩:=y;exact⟨pa,z,hp,e1,e2,y xs q⟩
   | false=>obtain⟨pa,z,hp,e1,e2,y⟩:=y;exact⟨pa,z,hp,e1,e2,y xs q⟩
  obtain⟨pa,z,hp,e1,e2,y'⟩:=y;subst e1 e2;exact hs i z pa σ H y' p hp
 ·have e:i=xs.length:=by omega
  subst e;exact .inl ⟨by cases b <;> exact⟨xs,q,Yag _⟩,hd σ H p⟩
def Zlu:V->List V->Hp->VK->Prop:=fun x vs H Q=>∃ (l:Addr) (xs:List V) (i:Int) (y:V),x=.ref l/\vs=[.int i,y]/\H l=some (.lst xs)/\-(2 ^ 63)<=i/\i<2 ^ 63/\xs.length<sizeLine /\
 Q .non (upd H l (.lst (xs.take (if i<0 then (i+(xs.length:Int)).toNat else min i.toNat xs.length)++y::xs.drop (if i<0 then (i+(xs.length:Int)).toNat else min i.toNat xs.length))))
theorem Zit {X:Cx}:MtM X "list.insert" Zlu:=by
 intro pins s σ H x vs v us Q I rx rv h;obtain⟨l,xs,i,y,rfl,rfl,hH,i0,i1,hz,q⟩:=h;cases rx;obtain⟨u1,u2,rfl,⟨t,rfl⟩,r2⟩:=Zhw rv;obtain⟨z,its,n,r,hl,e⟩:=I.lstM hH;have hfit:¬ (!Builtin.List.listFitsIndex i)=true:=by
  unfold Builtin.List.listFitsIndex;simp
  (clear hl z hz;omega)
 refine call_meets F.slot_list_insert ⟨_,e,rfl⟩ F.entry_list_insert (F.args_list_insert_3 _ _ _) (AutoListH.list_insert_list_int_val_1 l its.toArray n i t u2 hfit (by rw[Yal];(clear hfit z i1 i0;omega))) ⟨e,?_⟩;refine⟨.non,_,I.lset (its':=its.take (if i<0 then (i+(its.length:Int)).toNat else min i.toNat its.length)++u2::its.drop (if i<0 then (i+(its.length:Int)).toNat else min i.toNat its.length)) hH e ?_ ?_ ?_,rfl,q⟩
 ·dsimp only;rw[Yal,<- Ye4];simp;exact Ybr (by rw[Yb0];exact Yag _)
 ·rw[hl];exact (r.take _).append (.cons r2 (r.drop _))
 ·rw[Yaj,YaH,YaA,Yb0]
  (clear hfit hl z i1 i0;omega)
end L2
namespace L2
open PySem PySem.Spec PyProof.Rows PySem.SeqAt
section
variable {X:Cx}
theorem ZbN (ns:List Int):∀ k,k<=ns.length->preSum (fun i=>ns.getD i 0) k=(ns.take k).sum
 | 0,_=>by simp[preSum]
 | k+1,h=>by
  have hk:k<ns.length:=by omega
  rw[YaJ hk,YbJ,<- ZbN ns k (by (clear hk;omega))];simp[preSum,YaC,hk]
theorem Zb8 (hc:X.calm=true):Zca X (.builtin "sum") (fun xs H Q=>∃ (a:Addr) (ns:List Int),xs=[.ref a]/\SqL X.K H a (ns.map V.int)/\Q (.int ns.sum) H):=by
 intro pins s σ H xs us Q I r h;obtain⟨a,ns,rfl,hq,q⟩:=h;obtain⟨u,rfl,r1⟩:=ZdU r;cases r1;obtain⟨its,rv,p,hz⟩:=I.list hq;refine call_sum_walkG (wpAny_pyIter_list p.isList ?_);have hlt:=(let ⟨o,n,e,_⟩:=p;Yah e:a<s.heap.objs.size)
 have hne:a≠s.heap.objs.size:=YaB hlt;have hlen:its.toArray.size=ns.length:=by rw[Yal,<- rv.length,Yad]
 refine⟨s.heap.objs.size,_,_,_,_,_,fun i=>ns.getD i 0,rfl,Walks.list (A:=X.A.in1) (I.ok.hd hc) _ a hne its.toArray,⟨⟨_,Yav _ rfl,rfl,rfl⟩,?_⟩,?_,?_,?_⟩
 ·obtain⟨o,n,e,c,_,d⟩:=p;exact⟨o,Yab _ e,c,n,d⟩
 ·intro b hb;rcases Yau.mp hb with z | z
  ·rw[z,Ybj];exact YbF _
  ·have z:b=a:=by simpa using z
   rw[z,Ybj];exact YcW hlt
 ·intro i v e;have hi:i<its.toArray.size:=(YdY.mp e).1
  obtain⟨t,q⟩:=Zer rv hi;rw[Yce hi] at e;have e':=Yaw e;rw[q] at e';exact⟨t,e'.symm⟩
 ·intro h' tk t' k;refine⟨.int ns.sum,H,I.kept (h':=h') (t':=tk) fun b o e=>k b o ?_ (Yab _ e),⟨t',?_⟩,q⟩
  ·intro hm;have:b=s.heap.objs.size:=by simpa using hm
   rw[this] at e;exact absurd (Yah e) (Ybb _)
  ·rw[hlen,ZbN ns _ (Yag _),YaP]
end
end L2
namespace L2
open PySem PySem.Spec PyProof.Rows PySem.SeqAt
section
variable {X:Cx}
end
end L2
namespace L2
open PySem PySem.Spec PyProof.Rows PySem.SeqAt
theorem Inv.pairOut {X:Cx}{pins:List (Addr × Obj)}{σ:St}{H:Hp}{s:Shared}{h':Heap}{fp:List Addr}{x y:V}{u v:Value}{tk:Nat} (I:Inv X pins σ H s) (hf:∀ b∈fp,FpOk X pins H b)
  (k:∀ b o,b ∉ fp->s.heap.get? b=some o->h'.get? b=some o) (ht:IsPair h' s.heap.objs.size u v) (hlf:∀ b∈fp,b<s.heap.objs.size) (hth:∀ b∈fp,∃ o,h'.get? b=some o) (rx:RelV x u) (ry:RelV y v) :
  Inv X pins σ (upd H s.heap.objs.size (.tup [x,y])) { s with heap:=h',toks:=tk }:=by
 have fresh:H s.heap.objs.size=none:=I.hok.fresh (Yag _);have nit:∀ b o,H b=some o->b ∉ fp:=fun b o q z=>by rw[(hf b z).1] at q;cases q
 have newOk:ObjOk X.prog X.w (upd H s.heap.objs.size (.tup [x,y])) h' s.heap.objs.size (.tup [x,y]):=by
  refine⟨?_,[u,v],.cons rx (.cons ry .nil),⟨_,ht,rfl,rfl,0,rfl⟩⟩;show 2<=sizeLine
  decide
 refine I.step (g':=s.gens) (d':=s.drawn) (ch:=fp) (fun b hb=>?_) (fun b o _ _ hc q _=>k b o hc q) (fun b o _ _ hc q _=>⟨o.slots,k b o hc q⟩) (fun b o _ q n=>?_) (fun b o hc q=>⟨o,k b o hc q⟩)
  (fun b xs q=>by rw[Zaf (Zae q fresh)];exact q) (fun b o xs q=>by rw[Zaf (Zae q fresh)];exact q) (fun b ps q=>⟨#[],by rw[Zaf (Zae q fresh),q];simp⟩) (fun m hm=>?_) (fun b ob q=>?_) I.bare
 ·obtain⟨f0,f1,f2,f3,f4,f5⟩:=hf b hb;exact⟨f3,f1,f4,f5⟩
 ·rw[Zaf (YaB (Yah q))];exact n
 ·obtain⟨o,es,ep,ho,r⟩:=hm;exact⟨o,es,ep,k _ o (fun z=>(hf _ z).2.1 rfl) ho,r⟩
 ·by_cases hb:b=s.heap.objs.size
  ·subst hb;rw[Zab] at q;cases q;exact newOk
  ·rw[Zaf hb] at q;refine (I.hok b ob q).stay (fun c v hc r=>k c v ?_ r) (fun c r=>by rw[Zaf (Zae r fresh)];exact r) fun c xs r=>by rw[Zaf (Zae r fresh)];exact r
   rcases hc with z | z
   ·rw[z];exact nit b ob q
   ·exact nit c _ z
theorem Inv.turnedAll {X:Cx}{pins:List (Addr × Obj)}{σ:St}{H:Hp}{s:Shared}{h':Heap}{fp:List Addr}{tk:Nat} (I:Inv X pins σ H s) (hf:∀ b∈fp,FpOk X pins H b) (k:∀ b o,b ∉ fp->s.heap.get? b=some o->h'.get? b=some o) :
  Inv X pins σ H { s with heap:=h',toks:=tk }:=by
 have nit:∀ b o,H b=some o->b ∉ fp:=fun b o q z=>by rw[(hf b z).1] at q;cases q
 refine I.step (g':=s.gens) (d':=s.drawn) (ch:=fp) (fun b hb=>?_) (fun b o _ _ hc q _=>k b o hc q) (fun b o _ _ hc q _=>⟨o.slots,k b o hc q⟩) (fun b o _ q n=>n) (fun b o hc q=>⟨o,k b o hc q⟩) (fun _ _ q=>q) (fun _ _ _ q=>q) (fun b ps q=>⟨#[],by rw[q];simp⟩) (fun m hm=>?_) (fun b ob q=>?_) I.bare
 ·obtain⟨f0,f1,f2,f3,f4,f5⟩:=hf b hb;exact⟨f3,f1,f4,f5⟩
 ·obtain⟨o,es,ep,ho,r⟩:=hm;exact⟨o,es,ep,k _ o (fun z=>(hf _ z).2.1 rfl) ho,r⟩
 ·refine (I.hok b ob q).stay (fun c v hc r=>k c v ?_ r) (fun _ q=>q) fun _ _ q=>q;rcases hc with z | z
  ·rw[z];exact nit b ob q
  ·exact nit c _ z
end L2
namespace L2
open PySem PySem.Spec PyProof.Rows PySem.SeqAt
section
variable {X:Cx}
theorem ZlG:OpR X (binaryOp .Mult) (rI (fun i j=>∃ m n,Ya2 i<=m/\Ya2 j<=n/\m+n<=134217728) fun i j=>.int (i*j)) :=
 opI fun _ _ _ _ _ _ _ hc q=>mul_int q (by obtain⟨m,n,h1,h2,h3⟩:=hc;exact IntMulOk.of_le h1 h2 h3)
theorem Zj6:OpR X (binaryOp .FloorDiv) (rI (fun _ j=>0<j/\Ya2 j<=8000) fun i j=>.int (i / j)):=opI fun i j _ _ _ _ _ hc q=>by
 have h1:(0:Int)<j:=hc.1;have h2:j.natAbs<2 ^ 8000:=intBits_le_iff.mp hc.2;refine floordiv_int (by (clear h2 h1;omega)) (by rw[Yec i (by (clear h2 h1;omega))];exact q) (.inl (PyProof.noPylong_of_log2 ?_));have h3:j.natAbs.log2<8000:=(Nat.log2_lt (by (clear h2 h1;omega))).mpr h2
 (clear h2 h1 hc;omega)
theorem ZhV {ns ms:List Int}:(((Ybi (min ns.length ms.length)).all fun i=>ns.getD i 0 == ms.getD i 0) && (ns.length == ms.length))=decide (ns=ms):=by
 by_cases h:ns.length=ms.length
 ·rw[<- h,Nat.min_self,ZjR h];simp
 ·rw[decide_eq_false (fun z=>h (by rw[z]))];simp[h]
def rNeT (K:Yac):R2:=fun x y H Q=>∃ (a b:Addr) (ns ms:List Int),x=.ref a/\y=.ref b/\SqT K H a (ns.map V.int)/\SqT K H b (ms.map V.int)/\Q (.bl (!decide (ns=ms))) H
theorem ZmR (hu:X.A.units<cLine):OpR X (compareOp .NotEq) (rNeT X.K):=by
 intro pins s σ H x y v u Q I rx ry h;obtain⟨a,b,ns,ms,rfl,rfl,ha,hb,q⟩:=h;cases rx;cases ry;obtain⟨its,r1,p1,_⟩:=I.tuple ha;obtain⟨its2,r2,p2,_⟩:=I.tuple hb;have l1:its.toArray.size=ns.length:=by rw[Yal,<- r1.length,Yad]
 have l2:its2.toArray.size=ms.length:=by rw[Yal,<- r2.length,Yad]
 refine RcNeAt.tuples (e:=fun i=>ns.getD i 0 == ms.getD i 0) (show s.heap.IsTuple a its.toArray from p1) (show s.heap.IsTuple b its2.toArray from p2) hu (fun j h1 h2=>?_) _ _ _ _ ?_
 ·obtain⟨t1,e1⟩:=Zer r1 h1;obtain⟨t2,e2⟩:=Zer r2 h2;rw[e1,e2];exact EqAt.int_int _ _ _ _
 ·rw[l1,l2,ZhV];exact⟨.bl _,H,I,rfl,q⟩
theorem Zc4 (hc:X.calm=true):Zca X (.builtin "sum") (fun xs H Q=>∃ (a:Addr) (ns:List Int),xs=[.ref a]/\SqT X.K H a (ns.map V.int)/\Q (.int ns.sum) H):=by
 intro pins s σ H xs us Q I r h;obtain⟨a,ns,rfl,hq,q⟩:=h;obtain⟨u,rfl,r1⟩:=ZdU r;cases r1;obtain⟨its,rv,p0,hz⟩:=I.tuple hq;have p:s.heap.IsTuple a its.toArray:=p0;refine call_sum_walkG (wpAny_pyIter_tuple p ?_);have hlt:a<s.heap.objs.size:=by obtain⟨o,e,_⟩:=p;exact Yah e
 have hne:a≠s.heap.objs.size:=YaB hlt;have hlen:its.toArray.size=ns.length:=by rw[Yal,<- rv.length,Yad]
 refine⟨s.heap.objs.size,_,_,_,_,_,fun i=>ns.getD i 0,rfl,Walks.tuple (A:=X.A.in1) (I.ok.hd hc) _ a hne its.toArray,⟨⟨_,Yav _ rfl,rfl,rfl⟩,?_⟩,?_,?_,?_⟩
 ·obtain⟨o,e,c,d⟩:=p;exact⟨o,Yab _ e,c,d⟩
 ·intro b hb;rcases Yau.mp hb with z | z
  ·rw[z,Ybj];exact YbF _
  ·have z:b=a:=by simpa using z
   rw[z,Ybj];exact YcW hlt
 ·intro i v e;have hi:i<its.toArray.size:=(YdY.mp e).1
  obtain⟨t,q⟩:=Zer rv hi;rw[Yce hi] at e;have e':=Yaw e;rw[q] at e';exact⟨t,e'.symm⟩
 ·intro h' tk t' k;refine⟨.int ns.sum,H,I.kept (h':=h') (t':=tk) fun b o e=>k b o ?_ (Yab _ e),⟨t',?_⟩,q⟩
  ·intro hm;have:b=s.heap.objs.size:=by simpa using hm
   rw[this] at e;exact absurd (Yah e) (Ybb _)
  ·rw[hlen,ZbN ns _ (Yag _),YaP]
end
section
variable {prog:Program}{w:World}{A:Around}{E:Value->Shared->Prop}{s:Shared}
end
section
variable {X:Cx}
end
theorem ZgG {K:Yac}{own:List Str}{js:List Nat}{g:TG}{tt:TT}{te:TE}{σ:St}{H1:Hp}{Q:VK}{a:Addr}{xs:List V} (Pv:Addr->Nat->Hp->Prop) (h0:∀ acc,H1 acc=none->Pv acc 0 (upd H1 acc (.lst []))) (hl:∀ acc i H,H1 acc=none->i<=xs.length->Pv acc i H->SqT K H a xs)
  (hs:∀ acc i x H,H1 acc=none->xs[i]?=some x->Pv acc i H->g x (blkσ own js σ) H fun τ H4=>tt τ H4 fun c H5=>
   if c=true then te τ H5 fun y H6=>∃ ys,H6 acc=some (.lst ys)/\ys.length<sizeLine/\(i+1<=xs.length/\Pv acc (i+1) (upd H6 acc (.lst (ys++[y])))) else (i+1<=xs.length/\Pv acc (i+1) H5))
  (hd:∀ acc H,H1 acc=none->Pv acc xs.length H->Q (.ref acc) H):Zcv own js g tt te σ (Itt K a) H1 Q:=by
 intro acc hacc;refine⟨fun i H=>i<=xs.length/\Pv acc i H,xs.length,⟨YaV _,h0 acc hacc⟩,?_⟩;rintro i H ⟨hi,p⟩;have q:=hl acc i H hacc hi p;by_cases hlt:i<xs.length
 ·refine .inr ⟨hlt,⟨xs,xs[i],q,by simp[hlt]⟩,fun x H' y=>?_⟩;obtain⟨e,y⟩:=y;subst e;exact hs acc i x _ hacc (y xs q) p
 ·have e:i=xs.length:=by omega
  subst e;exact .inl ⟨⟨xs,q,Yag _⟩,hd acc H hacc p⟩
end L2
namespace Lv
open PySem L2
theorem ZmK {X:Cx}{x:Str}{T:String}{pos:Pos} (hg:Gl X x) (hm:X.mg x=none) (hv:bootBuiltins x=some (.type T)) (hn:x≠"__name__":=by decide) (hd:(x == ("__debug__":Str))=false:=by decide):PE X (.Name x pos) (tC (.ty T)) :=
 ZlE hg hm hv rfl hn hd
theorem Zcp {X:Cx}{x:Str}{i:Int}{t:Tok}{pos:Pos} (hg:Gl X x) (hm:X.mg x=some (.int i t)) (hd:(x == ("__debug__":Str))=false:=by decide):PE X (.Name x pos) (tC (.int i)) :=
 Zh5 hg hm ⟨t,rfl⟩ hd
structure Txt (mg:Str->Option Value):Prop where
 isinstance:mg "isinstance"=none
 int:mg "int"=none
 bool:mg "bool"=none
 list:mg "list"=none
 tuple:mg "tuple"=none
 min:mg "min"=none
 max:mg "max"=none
 len:mg "len"=none
 range:mg "range"=none
 all:mg "all"=none
 sum:mg "sum"=none
 sorted:mg "sorted"=none
 zip:mg "zip"=none
theorem Zcy:bootBuiltins "isinstance"=some (.builtin "isinstance"):=by decide +kernel
theorem ZnY:bootBuiltins "int"=some (.type "int"):=by decide +kernel
theorem Znj:bootBuiltins "bool"=some (.type "bool"):=by decide +kernel
theorem Znh:bootBuiltins "list"=some (.type "list"):=by decide +kernel
theorem ZbT:bootBuiltins "tuple"=some (.type "tuple"):=by decide +kernel
theorem Zjq:bootBuiltins "min"=some (.builtin "min"):=by decide +kernel
theorem Zng:bootBuiltins "max"=some (.builtin "max"):=by decide +kernel
theorem Zf2:bootBuiltins "sum"=some (.builtin "sum"):=by decide +kernel
theorem ZeC:bootBuiltins "sorted"=some (.builtin "sorted"):=by decide +kernel
theorem ZfM {K:Yac}:Yc8 K (.type "int") (.type "int")=some true:=by rfl
theorem Ze3 {K:Yac}:Yc8 K (.type "int") (.type "bool")=some false:=by with_unfolding_all rfl
structure Cal (P:Program) (w:World) (K:Yac) (mg:Str->Option Value) (base:Heap) (k:Nat) (x:Str) (ps:List Str) (sp:Sp) (f:Addr) (fd:FuncData):Prop where
 ok:FnOk P w K mg base CX0 k f fd ps sp
 mg:mg x=some (.ref f)
 kp:Yaq K (.ref f)=true
 bd:Binds K fd ps []
theorem Zan {X:Cx}{k:Nat}{x:Str}{ps:List Str}{sp:Sp}{f:Addr}{fd:FuncData}{e:Expr}{es:List Expr}{t:TA}{p pos:Pos} (C:Cal X.prog X.w X.K X.mg X.base k x ps sp f fd) (hr:Room k X.A) (hg:Gl X x) (ha:PA X (e::es) t)
  (hdb:(x == ("__debug__":Str))=false:=by decide) (he:starEach (e::es) X.env=(false,eval e X.env)::starEach es X.env:=by rfl) (hpl:(backTo pos (starEach es X.env)).any (·.1)=false:=by rfl) :
  PE X (.Call (.Name x p) (e::es) [] pos) (Zlf sp [] E0 t):=ZlD C.ok hr hg C.mg C.kp C.bd .nil ZmP ha hdb he hpl
theorem Zku (K:Yac) {X:Cx} (hK:X.K=K:=by rfl):IxR X (rIxL K):=by subst hK;exact Za0
theorem Zbo {xs:List Int}{i:Nat}{x:V} (h:(xs.map V.int)[i]?=some x):∃ p,xs[i]?=some p/\x=.int p:=by
 rw[Yas] at h
 cases e:xs[i]? with
 | none=>rw[e] at h;cases h
 | some p=>rw[e] at h;exact⟨p,rfl,(Yaw h).symm⟩
theorem _root_.L2.Same.new {q:Addr}{H:Hp}{o:HO} (h:H q=none):Same H (upd H q o):=fun b u e=>by rw[Zaf (Zae e h)];exact e
theorem _root_.L2.Same.put {q:Addr}{H H':Hp}{o:HO} (s:Same H H') (h:H q=none):Same H (upd H' q o):=fun b u e=>by rw[Zaf (Zae e h)];exact s b u e
theorem _root_.L2.Same.tup {K:Yac}{H H':Hp}{a:Addr}{xs:List V} (e:Same H H') (h:SqT K H a xs):SqT K H' a xs:=by
 rcases h with (h | ⟨o,h⟩) | h
 ·exact .inl (.inl (e _ _ h))
 ·exact .inl (.inr ⟨o,e _ _ h⟩)
 ·exact .inr h
theorem ZkX {n:Nat}{x:Int} (h0:0<=x) (h1:x<n):ixN n x=some x.toNat:=by
 unfold ixN;rw[if_pos h0,if_pos h1]
theorem Zl9 {fs:List Int}{x:Int} (h0:0<=x) (h1:x<fs.length):atI (fs.map V.int) x=some (.int (fs.getD x.toNat 0)):=by
 unfold atI;have hx:x.toNat<fs.length:=by omega
 rw[Yad,ZkX h0 h1];show (fs.map V.int)[x.toNat]?=_;rw[Yas,Yaf hx,YaC,Yaf hx];rfl
theorem cut2 {a b R:TS}{D:Ends}{σ:St}{H:Hp} (M:St->Hp->Prop) (h1:∀ R':TS,(∀ σ' H',M σ' H'->R' D σ' H')->tSeq a (tSeq b R') D σ H) (h2:∀ σ' H',M σ' H'->R D σ' H'):tSeq a (tSeq b R) D σ H:=h1 R h2
theorem cut1 {a R:TS}{D:Ends}{σ:St}{H:Hp} (M:St->Hp->Prop) (h1:∀ R':TS,(∀ σ' H',M σ' H'->R' D σ' H')->tSeq a R' D σ H) (h2:∀ σ' H',M σ' H'->R D σ' H'):tSeq a R D σ H:=h1 R h2
theorem cutG {i:Nat}{x:V}{a R:TS}{D:Ends}{σ:St}{H:Hp} (M:St->Hp->Prop) (h1:∀ R':TS,(∀ σ' H',M σ' H'->R' D σ' H')->Zbc i x σ H (tSeq a R' D)) (h2:∀ σ' H',M σ' H'->R D σ' H'):Zbc i x σ H (tSeq a R D):=h1 R h2
def Sm (p:Addr) (H H':Hp):Prop:=∀ b o,H b=some o->b≠p->H' b=some o
theorem Sm.trans {p:Addr}{H H1 H2:Hp} (a:Sm p H H1) (b:Sm p H1 H2):Sm p H H2:=fun c o h n=>b c o (a c o h n) n
theorem Sm.of {p:Addr}{H H':Hp} (h:Same H H'):Sm p H H':=fun b o e _=>h b o e
theorem Sm.new {p q:Addr}{H:Hp}{o:HO} (h:H q=none):Sm p H (upd H q o):=fun b u e _=>by rw[Zaf (Zae e h)];exact e
theorem Sm.put {p:Addr}{H:Hp}{o:HO}:Sm p H (upd H p o):=fun b u e n=>by rw[Zaf n];exact e
theorem Sm.free {p q:Addr}{H H':Hp} (s:Sm p H H') (hn:q≠p) (h:H' q=none):H q=none:=by
 cases e:H q with
 | none=>rfl
 | some o=>rw[s q o e hn] at h;cases h
theorem Sm.after {p:Addr}{H H1 H2:Hp} (s:Same H H1) (m:Sm p H1 H2) (h:H p=none):Same H H2:=fun b o e=>m b o (s b o e) (Zae e h)
def ZdY:Sp:=fun vs H Q _=>∃ i,vs=[.int i]/\Q (.bl true) H
theorem ZaW {m:Int} (h0:0<=m) (h1:m<2 ^ 64):Ya2 m<=8000:=Ybt (intBits_le_64 (by (clear h1;omega)) h1) (by decide)
def ZbQ (c:List Int):List Int:=(c.tail.map (c.getD 0 0+·))++[c.getD 0 0]
def Zbk (p:Nat):List Int:=1::Yae (p - 1) 0
def cnt (p:Nat):Nat->List Int
 | 0=>Zbk p
 | n+1=>ZbQ (cnt p n)
theorem Zir {c:List Int} (h:c≠[]):(ZbQ c).length=c.length:=by
 cases c with
 | nil=>exact absurd rfl h
 | cons x r=>simp[ZbQ]
theorem ZfX {p:Nat} (hp:1<=p):∀ n,(cnt p n).length=p
 | 0=>by simp[cnt,Zbk];omega
 | n+1=>by
  have:=ZfX hp n;show (ZbQ (cnt p n)).length=p;rw[Zir (by intro z;rw[z] at this;simp at this;omega),this]
def Down (c:List Int):Prop:=c.Pairwise (· ≥ ·)/\∀ x∈c,0<=x
theorem Zi8 {c:List Int} (h:Down c):Down (ZbQ c):=by
 cases c with
 | nil=>exact⟨by simp[ZbQ],by intro x hx;simp[ZbQ] at hx;omega⟩
 | cons a r=>
  obtain⟨h1,h2⟩:=h;have h3:=YaS.mp h1;have h0:0<=a:=h2 a (by simp);refine⟨?_,?_⟩
  ·show ((r.map (a+·))++[a]).Pairwise (· ≥ ·);rw[YaQ];refine⟨?_,by simp,?_⟩
   ·rw[Ybc];exact h3.2.imp fun h=>by (clear h0 h3;omega)
   ·intro x hx y hy;obtain⟨z,hz,rfl⟩:=Yay.mp hx;have:=h2 z (by simp[hz]);have:y=a:=by simpa using hy
    (clear h0 h3;omega)
  ·show ∀ x∈(r.map (a+·))++[a],0<=x;intro x hx;rcases Yap.mp hx with hx | hx
   ·obtain⟨z,hz,rfl⟩:=Yay.mp hx;have:=h2 z (by simp[hz])
    (clear h3;omega)
   ·have:x=a:=by simpa using hx
    (clear h3;omega)
theorem Zex (p:Nat):∀ n,Down (cnt p n)
 | 0=>by
  refine⟨?_,?_⟩
  ·show (1::Yae (p - 1) (0:Int)).Pairwise (· ≥ ·);rw[YaS];refine⟨fun y hy=>?_,?_⟩
   ·have:=(Yb3.mp hy).2
    omega
   ·rw[Yeg];exact .inr (Ya6 _)
  ·intro x hx;rcases Yau.mp hx with rfl | hx
   ·decide
   ·have:=(Yb3.mp hx).2
    omega
 | n+1=>Zi8 (Zex p n)
def ZeO:Sp:=fun vs H Q _=>∃ i,vs=[.int i]/\2<=i/\i<=7/\Q .non H
def Zfz:Sp:=fun vs H Q _=>∃ p:Nat,vs=[.int p]/\2<=p/\p<=7/\∀ l H',H l=none->H' l=some (.tup ((Zbk p).map V.int))->Same H H'->Q (.ref l) H'
def ZjI (K:Yac):Sp:=fun vs H Q _=>∃ (a:Addr) (ns:List Int),vs=[.ref a]/\SqL K H a (ns.map V.int)/\ns.length<=63/\∀ H',Q (.bl true) H'
end Lv
namespace Lv
open PySem L2
def hd (p n:Nat):Int:=(cnt p n).getD 0 0
def tot (p n:Nat):Int:=(cnt p n).sum
theorem ZgH {p:Nat} (hp:2<=p) (n:Nat):∃ a b r,cnt p n=a::b::r/\r.length=p - 2:=by
 have h:=ZfX (p:=p) (by omega) n
 match hc:cnt p n with
 | []=>rw[hc] at h;simp at h;omega
 | [x]=>rw[hc] at h;simp at h;omega
 | a::b::r=>rw[hc] at h;exact⟨a,b,r,rfl,by simp at h;(clear hp;omega)⟩
theorem Zk0 {p:Nat} (hp:2<=p):∀ n,1<=hd p n
 | 0=>by simp[hd,cnt,Zbk]
 | n+1=>by
  obtain⟨a,b,r,e,_⟩:=ZgH hp n;have ih:=Zk0 hp n;have nn:=(Zex p n).2 b (by rw[e];simp);unfold hd at ih ⊢;show 1<=(ZbQ (cnt p n)).getD 0 0;rw[e] at ih ⊢;simp[ZbQ] at ih ⊢
  (clear hp;omega)
theorem ZhL (c:Int):∀ r:List Int,(r.map (c+·)).sum=r.length*c+r.sum
 | []=>by simp
 | x::r=>by
  rw[YaD,Yaz,ZhL c r,Yaz,YaH,YdL,YbQ];omega
theorem ZjG (a:Int) (r:List Int):(ZbQ (a::r)).sum=(a::r).sum+r.length*a:=by
 show ((r.map (a+·))++[a]).sum=_;rw[YbJ,ZhL,Yaz,Yaz,YdB];omega
theorem ZjD {p:Nat} (hp:2<=p) (n:Nat):tot p (n+1)=tot p n+(p - 1:Nat)*hd p n:=by
 obtain⟨a,b,r,e,hr⟩:=ZgH hp n;unfold tot hd;show (ZbQ (cnt p n)).sum=_;rw[e,ZjG];have:(b::r).length=p - 1:=by simp;omega
 rw[this];rfl
theorem Zmg {p:Nat} (hp:2<=p) (n:Nat):tot p n+1<=tot p (n+1):=by
 rw[ZjD hp];have h1:=Zk0 hp n;have h2:((1:Nat):Int)*1<=((p - 1:Nat):Int)*hd p n:=Int.mul_le_mul (by (clear h1;omega)) h1 (by decide) (by (clear h1 hp;omega))
 (clear h1 hp;omega)
theorem ZjE {p:Nat} (hp:2<=p) {m n:Nat} (h:m<=n):tot p m<=tot p n:=by
  induction n with
  | zero => have : m = 0 := by (clear hp; omega)
            subst this;exact Ya6 _
  | succ n ih=>
    by_cases e:m=n+1
    · subst e;exact Ya6 _
    · have:=ih (by (clear ih hp;omega));have:=Zmg hp n
      (clear e h ih hp;omega)
end Lv
namespace L2
open PySem PySem.Spec PyProof.Rows PySem.SeqAt
def HIt (b:Bool) (h:Heap) (it l:Addr) (i:Nat):Prop:=match b with | true=>h.IsListIter it l i | false=>h.IsTupleIter it l i
def HSq (b:Bool) (h:Heap) (l:Addr) (xs:Array Value):Prop:=match b with | true=>h.IsList l xs | false=>h.IsTuple l xs
theorem HIt.at {b:Bool}{h h':Heap}{it l:Addr}{i:Nat} (x:HIt b h it l i) (e:∀ o,h.get? it=some o->h'.get? it=some o):HIt b h' it l i:=by
 cases b
 ·exact Heap.IsTupleIter.at x e
 ·exact Heap.IsListIter.at x e
theorem HIt.ext {b:Bool}{h h':Heap}{it l c:Addr}{i:Nat} (x:HIt b h it l i) (hs:Ydh c h h') (n:it≠c):HIt b h' it l i:=x.at fun o e=>hs _ _ n e
theorem HIt.obj {b:Bool}{h:Heap}{it l:Addr}{i:Nat} (x:HIt b h it l i):∃ o,h.get? it=some o/\∀ v:Option Value,o.data≠.cell v:=by
 cases b
 ·obtain⟨o,e,_,d⟩:=x;exact⟨o,e,fun v q=>by rw[d] at q;cases q⟩
 ·obtain⟨o,e,_,d⟩:=x;exact⟨o,e,fun v q=>by rw[d] at q;cases q⟩
theorem HSq.ext {b:Bool}{h h':Heap}{l c:Addr}{xs:Array Value} (x:HSq b h l xs) (hs:Ydh c h h') (n:l≠c):HSq b h' l xs:=by
 cases b
 ·exact Heap.IsTuple.extBut x hs n
 ·exact Heap.IsList.extBut x hs n
section
variable {prog:Program}{w:World}{A:Around}{E:Value->Shared->Prop}{s:Shared}
theorem ZlP {b:Bool}{it l:Addr}{i:Nat}{items:Array Value}{x:Value}{Q:Value->Shared->Prop} (hit:HIt b s.heap it l i) (hl:HSq b s.heap l items) (hx:items[i]?=some x) (hQ:∀ h',HIt b h' it l (i+1)->YcL it s.heap h'->Q x { s with heap:=h' }) :
  wpAny (model prog w) A (Ya3 (.ref it)) Q E s:=by
 cases b
 ·exact ZdG hit hl hx hQ
 ·exact wpAny_nextOf_list_item hit hl hx hQ
theorem ZeY {b:Bool}{it l:Addr}{i:Nat}{items:Array Value}{Q:Value->Shared->Prop} (hh:A.handled=none) (hit:HIt b s.heap it l i) (hl:HSq b s.heap l items) (hx:items[i]?=none)
  (hE:∀ h' e,Ydh it s.heap h'->(∃ o,h'.get? e=some o/\o.cls=.type "StopIteration")->E (.ref e) { s with heap:=h' }):wpAny (model prog w) A (Ya3 (.ref it)) Q E s:=by
 cases b
 ·exact Zbb hh hit hl hx hE
 ·exact wpAny_nextOf_list_end hh hit hl hx hE
theorem Zhs {b1 b2:Bool}{z TI TO i1 i2 l1 l2:Addr}{k1 k2:Nat}{xs ys:Array Value}{x y a b:Value}{Q:Value->Shared->Prop} (D:ZipApart z TI TO i1 i2 l1 l2) (hz:IsZip s.heap z TI TO .none) (hTI:IsPair s.heap TI (.ref i1) (.ref i2)) (hTO:IsPair s.heap TO a b)
  (h1:HIt b1 s.heap i1 l1 k1) (h2:HIt b2 s.heap i2 l2 k2) (hl1:HSq b1 s.heap l1 xs) (hl2:HSq b2 s.heap l2 ys) (hx:xs[k1]?=some x) (hy:ys[k2]?=some y)
  (hQ:∀ h',IsZip h' z TI TO (rawInt s.heap.objs.size)->IsPair h' TO x y->HIt b1 h' i1 l1 (k1+1)->HIt b2 h' i2 l2 (k2+1)->IsPair h' s.heap.objs.size x y->h'.objs.size=s.heap.objs.size+1 ->
   (∀ c o,c≠z->c≠TO->c≠i1->c≠i2->s.heap.get? c=some o->h'.get? c=some o)->Q (.ref s.heap.objs.size) { s with heap:=h' }) :
  wpAny (model prog w) A (Builtin.«zip.__next__» ⟨[.ref z],[]⟩) (fun fin s'=>∃ v,fin=.done (.ret v)/\Q v s') E s:=by
 refine wpAny_bind (m:=field (.ref z) 2) (wpAny_field hz rfl (x:=.bool false) rfl ?_);refine wpAny_bind (m:=field (.ref z) 3) (wpAny_field hz rfl (x:=.ref TI) rfl (wpAny_bind (wpAny_seqItems hTI rfl ?_)));refine wpAny_bind (m:=YbB (.ref z)) ?_;unfold YbB;refine wpAny_bind (wpAny_field hz rfl (x:=.none) rfl (wpAny_pure ?_));simp only[if_true];refine wpAny_bind (wpAny_rule (wpAny_bind (wpAny_field hz rfl (x:=.ref TO) rfl ?_)));refine wpAny_bind (wpAny_setField_rec hz (by simp) fun h₁ hz₁ hs₁=>?_)
 replace hz₁:IsZip h₁ z TI TO .ellipsis:=hz₁
 refine wpAny_bind ?_;simp only[YdC,List.zipIdx_nil,YdS,List.forIn_nil];refine wpAny_bind (wpAny_bind (wpAny_onRaise (wpAny_bind (m:=Ya3 (.ref i1)) ?_)));refine ZlP (h1.ext hs₁.extBut D.i1z) (hl1.ext hs₁.extBut D.l1z) hx fun h₂ h1₂ hs₂=>wpAny_pure ?_;have t2:IsPair h₂ TO a b:=hs₂.extBut _ _ D.TOi1 (hs₁.extBut _ _ D.TOz hTO);refine wpAny_bind (wpAny_seqItems t2 rfl (wpAny_bind (wpAny_updateSeq_pair t2 fun h₃ hTO₃ hs₃=>?_)))
 replace hTO₃:IsPair h₃ TO x b:=hTO₃
 refine wpAny_bind (wpAny_letGo (wpAny_pure (wpAny_bind (wpAny_bind (wpAny_onRaise (wpAny_bind (m:=Ya3 (.ref i2)) ?_))))));refine ZlP (((h2.ext hs₁.extBut D.i2z).ext hs₂.extBut D.i12.symm).ext hs₃.extBut D.TOi2.symm) (((hl2.ext hs₁.extBut D.l2z).ext hs₂.extBut D.l2i1).ext hs₃.extBut D.l2TO) hy fun h₄ h2₄ hs₄=>wpAny_pure ?_;have t4:IsPair h₄ TO x b:=hs₄.extBut _ _ D.TOi2 hTO₃;refine wpAny_bind (wpAny_seqItems t4 rfl (wpAny_bind (wpAny_updateSeq_pair t4 fun h₅ hTO₅ hs₅=>?_)))
 replace hTO₅:IsPair h₅ TO x y:=hTO₅
 refine wpAny_bind (wpAny_letGo (wpAny_pure (wpAny_pure (wpAny_bind (wpAny_seqItems hTO₅ rfl (wpAny_bind (wpAny_newTuple ?_)))))));have hsz:h₅.objs.size=s.heap.objs.size:=by rw[hs₅.1,hs₄.1,hs₃.1,hs₂.1,hs₁.1]
 have hz₅:IsZip h₅ z TI TO .ellipsis:=hs₅.extBut _ _ D.TOz.symm (hs₄.extBut _ _ D.i2z.symm (hs₃.extBut _ _ D.TOz.symm (hs₂.extBut _ _ D.i1z.symm hz₁)));have k5:∀ c o,c≠z->c≠TO->c≠i1->c≠i2->s.heap.get? c=some o->h₅.get? c=some o:=fun c o c1 c2 c3 c4 e=>hs₅.extBut _ _ c2 (hs₄.extBut _ _ c4 (hs₃.extBut _ _ c2 (hs₂.extBut _ _ c3 (hs₁.extBut _ _ c1 e))));have j1:HIt b1 h₅ i1 l1 (k1+1):=((h1₂.ext hs₃.extBut D.TOi1.symm).ext hs₄.extBut D.i12).ext hs₅.extBut D.TOi1.symm;have j2:HIt b2 h₅ i2 l2 (k2+1):=h2₄.ext hs₅.extBut D.TOi2.symm;have zlt:z<h₅.objs.size:=Yah hz₅;refine wpAny_bind (m:=YcI (.ref z) (.ref h₅.objs.size)) ?_;unfold YcI;have hz₆:IsZip (h₅.push { cls:=.type "tuple",data:=.seq #[x,y] }) z TI TO .ellipsis:=Yab _ hz₅;refine wpAny_bind (wpAny_setField_rec hz₆ (by simp) fun h₇ hz₇ hs₇=>?_)
 replace hz₇:IsZip h₇ z TI TO (rawInt h₅.objs.size):=hz₇
 refine wpAny_setField_rec hz₇ (by simp) fun h₈ hz₈ hs₈=>?_
 replace hz₈:IsZip h₈ z TI TO (rawInt h₅.objs.size):=hz₈
 have up:∀ c o,c≠z->h₅.get? c=some o->h₈.get? c=some o:=fun c o c1 e=>hs₈.extBut _ _ c1 (hs₇.extBut _ _ c1 (Yab _ e));have t8:IsPair h₈ h₅.objs.size x y:=hs₈.extBut _ _ (Yby zlt) (hs₇.extBut _ _ (Yby zlt) (Yav _ rfl));have z8:h₈.objs.size=h₅.objs.size+1:=by rw[hs₈.1,hs₇.1,Ybj]
 rw[hsz] at hz₈ t8 z8;refine wpAny_pure ⟨_,rfl,?_⟩;show Q (.ref h₅.objs.size) _;rw[hsz];exact hQ h₈ hz₈ (up _ _ D.TOz hTO₅) (j1.at fun o e=>up _ o D.i1z e) (j2.at fun o e=>up _ o D.i2z e) t8 z8 fun c o c1 c2 c3 c4 e=>up c o c1 (k5 c o c1 c2 c3 c4 e)
theorem Zjy {b1 b2:Bool}{z TI TO i1 i2 l1 l2:Addr}{k1 k2:Nat}{xs ys:Array Value}{a b:Value}{Q:Fin->Shared->Prop} (hh:A.handled=none) (D:ZipApart z TI TO i1 i2 l1 l2) (hz:IsZip s.heap z TI TO .none) (hTI:IsPair s.heap TI (.ref i1) (.ref i2)) (hTO:IsPair s.heap TO a b)
  (h1:HIt b1 s.heap i1 l1 k1) (h2:HIt b2 s.heap i2 l2 k2) (hl1:HSq b1 s.heap l1 xs) (hl2:HSq b2 s.heap l2 ys) (hend:xs[k1]?=none∨ys[k2]?=none)
  (hE:∀ h' e,(∀ c o,c≠z->c≠TO->c≠i1->c≠i2->s.heap.get? c=some o->h'.get? c=some o)->(∃ o,h'.get? e=some o/\o.cls=.type "StopIteration")->E (.ref e) { s with heap:=h' }):wpAny (model prog w) A (Builtin.«zip.__next__» ⟨[.ref z],[]⟩) Q E s:=by
 refine wpAny_bind (m:=field (.ref z) 2) (wpAny_field hz rfl (x:=.bool false) rfl ?_);refine wpAny_bind (m:=field (.ref z) 3) (wpAny_field hz rfl (x:=.ref TI) rfl (wpAny_bind (wpAny_seqItems hTI rfl ?_)));refine wpAny_bind (m:=YbB (.ref z)) ?_;unfold YbB;refine wpAny_bind (wpAny_field hz rfl (x:=.none) rfl (wpAny_pure ?_));simp only[if_true];refine wpAny_bind (wpAny_rule (wpAny_bind (wpAny_field hz rfl (x:=.ref TO) rfl ?_)));refine wpAny_bind (wpAny_setField_rec hz (by simp) fun h₁ hz₁ hs₁=>?_)
 replace hz₁:IsZip h₁ z TI TO .ellipsis:=hz₁
 refine wpAny_bind ?_;simp only[YdC,List.zipIdx_nil,YdS,List.forIn_nil];refine wpAny_bind (wpAny_bind (wpAny_onRaise (wpAny_bind (m:=Ya3 (.ref i1)) ?_)))
 cases hx:xs[k1]? with
 | none=>
  refine ZeY hh (h1.ext hs₁.extBut D.i1z) (hl1.ext hs₁.extBut D.l1z) hx fun h₂ e hs₂ ⟨oe,hoe,hce⟩=>?_;have hz₂:IsZip h₂ z TI TO .ellipsis:=hs₂ _ _ D.i1z.symm hz₁;have ez:e≠z:=fun x=>by subst x;rw[hz₂] at hoe;cases hoe;simp at hce
  exact wpAny_setField_rec hz₂ (by simp) fun h₃ _ hs₃=>hE h₃ e (fun c o c1 _ c3 _ x=>hs₃.extBut _ _ c1 (hs₂ _ _ c3 (hs₁.extBut _ _ c1 x))) ⟨oe,hs₃.extBut _ _ ez hoe,hce⟩
 | some x=>
  have hy:ys[k2]?=none:=hend.resolve_left (by rw[hx];simp);refine ZlP (h1.ext hs₁.extBut D.i1z) (hl1.ext hs₁.extBut D.l1z) hx fun h₂ h1₂ hs₂=>wpAny_pure ?_;have t2:IsPair h₂ TO a b:=hs₂.extBut _ _ D.TOi1 (hs₁.extBut _ _ D.TOz hTO);refine wpAny_bind (wpAny_seqItems t2 rfl (wpAny_bind (wpAny_updateSeq_pair t2 fun h₃ hTO₃ hs₃=>?_)));refine wpAny_bind (wpAny_letGo (wpAny_pure (wpAny_bind (wpAny_bind (wpAny_onRaise (wpAny_bind (m:=Ya3 (.ref i2)) ?_))))));refine ZeY hh (((h2.ext hs₁.extBut D.i2z).ext hs₂.extBut D.i12.symm).ext hs₃.extBut D.TOi2.symm) (((hl2.ext hs₁.extBut D.l2z).ext hs₂.extBut D.l2i1).ext hs₃.extBut D.l2TO) hy fun h₄ e hs₄ ⟨oe,hoe,hce⟩=>?_;have hz₄:IsZip h₄ z TI TO .ellipsis:=hs₄ _ _ D.i2z.symm (hs₃.extBut _ _ D.TOz.symm (hs₂.extBut _ _ D.i1z.symm hz₁));have ez:e≠z:=fun x=>by subst x;rw[hz₄] at hoe;cases hoe;simp at hce
  exact wpAny_setField_rec hz₄ (by simp) fun h₅ _ hs₅=>hE h₅ e (fun c o c1 c2 c3 c4 x=>hs₅.extBut _ _ c1 (hs₄ _ _ c4 (hs₃.extBut _ _ c2 (hs₂.extBut _ _ c3 (hs₁.extBut _ _ c1 x))))) ⟨oe,hs₅.extBut _ _ ez hoe,hce⟩
theorem ZeS {b1 b2:Bool}{z TI TO i1 i2 l1 l2:Addr}{k1 k2:Nat}{xs ys:Array Value}{x y a b:Value}{Q:Option Value->Shared->Prop} (D:ZipApart z TI TO i1 i2 l1 l2) (hz:IsZip s.heap z TI TO .none) (hTI:IsPair s.heap TI (.ref i1) (.ref i2)) (hTO:IsPair s.heap TO a b)
  (h1:HIt b1 s.heap i1 l1 k1) (h2:HIt b2 s.heap i2 l2 k2) (hl1:HSq b1 s.heap l1 xs) (hl2:HSq b2 s.heap l2 ys) (hx:xs[k1]?=some x) (hy:ys[k2]?=some y)
  (hQ:∀ h',IsZip h' z TI TO (rawInt s.heap.objs.size)->IsPair h' TO x y->HIt b1 h' i1 l1 (k1+1)->HIt b2 h' i2 l2 (k2+1)->IsPair h' s.heap.objs.size x y->h'.objs.size=s.heap.objs.size+1 ->
   (∀ c o,c≠z->c≠TO->c≠i1->c≠i2->s.heap.get? c=some o->h'.get? c=some o)->Q (some (.ref s.heap.objs.size)) { s with heap:=h' }):wpAny (model prog w) A (pyNext (.ref z)) Q E s:=by
 have hT:s.TypeIs (.ref z) "zip":=⟨_,hz,rfl⟩
 unfold pyNext;exact wpAny_bind (wpAny_attempt (wpAny_callSpecial?_slot (name:=YcM "__next__") hT F.slot_zip_next (wpAny_call_entry F.slot_zip_next hT F.entry_zip_next (Zhs D hz hTI hTO h1 h2 hl1 hl2 hx hy fun h' a1 a2 a3 a4 a5 a6 a7=>wpAny_pure (hQ h' a1 a2 a3 a4 a5 a6 a7)) (F.args_zip_next_1 _))))
theorem ZfB {b1 b2:Bool}{z TI TO i1 i2 l1 l2:Addr}{k1 k2:Nat}{xs ys:Array Value}{a b:Value}{Q:Option Value->Shared->Prop} (hh:A.handled=none) (D:ZipApart z TI TO i1 i2 l1 l2) (hz:IsZip s.heap z TI TO .none) (hTI:IsPair s.heap TI (.ref i1) (.ref i2)) (hTO:IsPair s.heap TO a b)
  (h1:HIt b1 s.heap i1 l1 k1) (h2:HIt b2 s.heap i2 l2 k2) (hl1:HSq b1 s.heap l1 xs) (hl2:HSq b2 s.heap l2 ys) (hend:xs[k1]?=none∨ys[k2]?=none)
  (hQ:∀ h',(∀ c o,c≠z->c≠TO->c≠i1->c≠i2->s.heap.get? c=some o->h'.get? c=some o)->Q none { s with heap:=h' }):wpAny (model prog w) A (pyNext (.ref z)) Q E s:=by
 have hT:s.TypeIs (.ref z) "zip":=⟨_,hz,rfl⟩
 unfold pyNext;refine wpAny_bind (wpAny_attempt (wpAny_callSpecial?_slot (name:=YcM "__next__") hT F.slot_zip_next (wpAny_call_entry F.slot_zip_next hT F.entry_zip_next (Zjy hh D hz hTI hTO h1 h2 hl1 hl2 hend fun h' e hk ⟨o,ho,hc⟩=>?_) (F.args_zip_next_1 _))));exact wpAny_bind (wpAny_isInstance (T:="StopIteration") (b:=true) ⟨o,ho,hc⟩ isSubtype_stop (wpAny_pure (hQ _ hk)))
def ZlX (b:Bool):String:=match b with | true=>"list_iterator" | false=>"tuple_iterator"
def zB1 (b1:Bool) (h:Heap) (l1:Addr):Heap:=h.push { cls:=.type (ZlX b1),data:=.fields #[.ref l1,.int 0 0] }
def zB2 (b1 b2:Bool) (h:Heap) (l1 l2:Addr):Heap:=(zB1 b1 h l1).push { cls:=.type (ZlX b2),data:=.fields #[.ref l2,.int 0 0] }
def zB3 (b1 b2:Bool) (h:Heap) (l1 l2:Addr):Heap:=(zB2 b1 b2 h l1 l2).push { cls:=.type "tuple",data:=.seq #[.ref h.objs.size,.ref (zB1 b1 h l1).objs.size] }
def zB4 (b1 b2:Bool) (h:Heap) (l1 l2:Addr):Heap:=(zB3 b1 b2 h l1 l2).push { cls:=.type "tuple",data:=.seq #[.none,.none] }
def zB5 (b1 b2:Bool) (h:Heap) (l1 l2:Addr):Heap:=(zB4 b1 b2 h l1 l2).push { cls:=.type "zip",data:=.fields #[.none,.bool false,.bool false,.ref (zB2 b1 b2 h l1 l2).objs.size,.ref (zB3 b1 b2 h l1 l2).objs.size] }
theorem Zjx (b1 b2:Bool) (l1 l2:Addr) (xs ys:Array Value) :
  Meets (Builtin.«zip.__new__» ⟨[.type "zip",.ref l1,.ref l2],[]⟩) (fun _ R s=>HSq b1 s.heap l1 xs/\HSq b2 s.heap l2 ys/\R (.ok (.ret (.ref (zB4 b1 b2 s.heap l1 l2).objs.size))) { s with heap:=zB5 b1 b2 s.heap l1 l2 }) :=
 .of_wp fun prog w A R s h=>by
  obtain⟨hp,g,d,tk,os⟩:=s;obtain⟨hl1,hl2,h⟩:=h;have hsub:=sub_zip;cases b1 <;> cases b2
  ·have p1:Yda (Ycf ⟨hp,g,d,tk,os⟩) l1 xs:=hl1;have p2:Yda (Ycf ⟨hp.push { cls:=.type "tuple_iterator",data:=.fields #[.ref l1,.int 0 0] },g,d,tk,os⟩) l2 ys:=Yed hl2 _
   wp_walk using wpAny_pyIter_tuple p1,wpAny_pyIter_tuple p2
   exact⟨_,rfl,h⟩
  ·have p1:Yda (Ycf ⟨hp,g,d,tk,os⟩) l1 xs:=hl1;have p2:YdU (Ycf ⟨hp.push { cls:=.type "tuple_iterator",data:=.fields #[.ref l1,.int 0 0] },g,d,tk,os⟩) l2 ys:=Yek hl2 _
   wp_walk using wpAny_pyIter_tuple p1,wpAny_pyIter_list p2
   exact⟨_,rfl,h⟩
  ·have p1:YdU (Ycf ⟨hp,g,d,tk,os⟩) l1 xs:=hl1;have p2:Yda (Ycf ⟨hp.push { cls:=.type "list_iterator",data:=.fields #[.ref l1,.int 0 0] },g,d,tk,os⟩) l2 ys:=Yed hl2 _
   wp_walk using wpAny_pyIter_list p1,wpAny_pyIter_tuple p2
   exact⟨_,rfl,h⟩
  ·have p1:YdU (Ycf ⟨hp,g,d,tk,os⟩) l1 xs:=hl1;have p2:YdU (Ycf ⟨hp.push { cls:=.type "list_iterator",data:=.fields #[.ref l1,.int 0 0] },g,d,tk,os⟩) l2 ys:=Yek hl2 _
   wp_walk using wpAny_pyIter_list p1,wpAny_pyIter_list p2
   exact⟨_,rfl,h⟩
theorem HIt.made {b:Bool}{h:Heap}{it l:Addr} (e:h.get? it=some { cls:=.type (ZlX b),data:=.fields #[.ref l,.int 0 0] }):HIt b h it l 0:=by
 cases b
 ·exact⟨_,e,rfl,rfl⟩
 ·exact⟨_,e,rfl,rfl⟩
theorem Zjm {b1 b2:Bool}{l1 l2:Addr}{xs ys:Array Value}{Q:Value->Shared->Prop} (hl1:HSq b1 s.heap l1 xs) (hl2:HSq b2 s.heap l2 ys)
  (h:∀ h',IsZip h' (s.heap.objs.size+4) (s.heap.objs.size+2) (s.heap.objs.size+3) .none->IsPair h' (s.heap.objs.size+2) (.ref s.heap.objs.size) (.ref (s.heap.objs.size+1))->IsPair h' (s.heap.objs.size+3) .none .none ->
   HIt b1 h' s.heap.objs.size l1 0->HIt b2 h' (s.heap.objs.size+1) l2 0->(∀ c o,s.heap.get? c=some o->h'.get? c=some o)->Q (.ref (s.heap.objs.size+4)) { s with heap:=h' }):wpAny (model prog w) A (call (.type "zip") [.ref l1,.ref l2]) Q E s:=by
 refine callType_new F.called_zip (by decide) (F.typeCall_zip_2 _ _) (F.newCall_zip_2 _ _) (fun obj=>F.args_object_init_3 obj _ _) F.entry_zip_new (Zjx b1 b2 l1 l2 xs ys) ⟨hl1,hl2,?_⟩;have z1:(zB1 b1 s.heap l1).objs.size=s.heap.objs.size+1:=Ybj ..;have z2:(zB2 b1 b2 s.heap l1 l2).objs.size=s.heap.objs.size+2:=by unfold zB2;rw[Ybj,z1]
 have z3:(zB3 b1 b2 s.heap l1 l2).objs.size=s.heap.objs.size+3:=by unfold zB3;rw[Ybj,z2]
 have z4:(zB4 b1 b2 s.heap l1 l2).objs.size=s.heap.objs.size+4:=by unfold zB4;rw[Ybj,z3]
 have g5:(zB5 b1 b2 s.heap l1 l2).get? (zB4 b1 b2 s.heap l1 l2).objs.size=some _:=Yav _ rfl;have g4:(zB5 b1 b2 s.heap l1 l2).get? (zB3 b1 b2 s.heap l1 l2).objs.size=some _:=Yab _ (Yav _ rfl);have g3:(zB5 b1 b2 s.heap l1 l2).get? (zB2 b1 b2 s.heap l1 l2).objs.size=some _:=Yab _ (Yab _ (Yav _ rfl));have g2:(zB5 b1 b2 s.heap l1 l2).get? (zB1 b1 s.heap l1).objs.size=some _:=Yab _ (Yab _ (Yab _ (Yav _ rfl)));have g1:(zB5 b1 b2 s.heap l1 l2).get? s.heap.objs.size=some _:=Yab _ (Yab _ (Yab _ (Yab _ (Yav _ rfl))));show _/\_;rw[z2,z3,z4] at g5;rw[z1,z2] at g3;rw[z3] at g4;rw[z1] at g2;rw[z4];exact⟨⟨_,g5,rfl⟩,h _ g5 g3 g4 (HIt.made g1) (HIt.made g2) fun c o x=>Yab _ (Yab _ (Yab _ (Yab _ (Yab _ x))))⟩
end
theorem SqB.heap {X:Cx}{b:Bool}{pins:List (Addr × Obj)}{σ:St}{H:Hp}{s:Shared}{a:Addr}{xs:List V} (I:Inv X pins σ H s) (h:SqB b X.K H a xs):∃ its:List Value,Vals xs its/\HSq b s.heap a its.toArray:=by
 cases b
 ·obtain⟨its,r,p,_⟩:=I.tuple h;exact⟨its,r,p⟩
 ·obtain⟨its,r,p,_⟩:=I.list h;exact⟨its,r,p.isList⟩
theorem HSq.lt {b:Bool}{h:Heap}{l:Addr}{xs:Array Value} (x:HSq b h l xs):l<h.objs.size:=by
 cases b
 ·obtain⟨o,e,_⟩:=x;exact Yah e
 ·obtain⟨o,e,_⟩:=x;exact Yah e
theorem SqB.inj {X:Cx}{b:Bool}{pins:List (Addr × Obj)}{σ:St}{H:Hp}{s:Shared}{a:Addr}{xs ys:List V} (I:Inv X pins σ H s) (h:SqB b X.K H a xs) (g:SqB b X.K H a ys):xs=ys:=by
 cases b
 ·exact I.tuple_inj h g
 ·exact I.list_inj h g
def ItzB (b1 b2:Bool) (K:Yac) (a b:Addr):It :=
  ⟨fun i H=>∃ xs ys x y,SqB b1 K H a xs/\SqB b2 K H b ys/\xs[i]?=some x/\ys[i]?=some y,
   fun i H z H'=>∃ p x y,H p=none/\z=.ref p/\H'=upd H p (.tup [x,y])/\(∀ xs,SqB b1 K H a xs->xs[i]?=some x)/\∀ ys,SqB b2 K H b ys->ys[i]?=some y,
   fun i H=>∃ xs ys,SqB b1 K H a xs/\SqB b2 K H b ys/\(xs.length<=i∨ys.length<=i)⟩
end L2
namespace L2
open PySem PySem.Spec PyProof.Rows PySem.SeqAt
def ZkH (b1 b2:Bool) (z TI TO i1 i2 l1 l2:Addr) (i:Nat) (h:Heap):Prop:=IsZip h z TI TO .none/\IsPair h TI (.ref i1) (.ref i2)/\(∃ a b,IsPair h TO a b)/\HIt b1 h i1 l1 i/\HIt b2 h i2 l2 i
theorem Zhx {P:Program}{w:World}{K:Yac}{es:List Expr}{x1}{pos:Pos}{b1 b2:Bool}{z TI TO i1 i2 l1 l2:Addr} (D:ZipApart z TI TO i1 i2 l1 l2):Turn P w K (.Tuple es x1 pos) (ItzB b1 b2 K l1 l2) [z,TI,TO,i1,i2] z (ZkH b1 b2 z TI TO i1 i2 l1 l2) where
 mem:=by simp
 obj:=fun i h st b hb=>by
  obtain⟨h1,h2,⟨a,c,h3⟩,h4,h5⟩:=st;simp only[Yau,YbE,or_false] at hb;rcases hb with rfl | rfl | rfl | rfl | rfl
  ·exact⟨_,h1,fun v q=>nomatch q⟩
  ·exact⟨_,h2,fun v q=>nomatch q⟩
  ·exact⟨_,h3,fun v q=>nomatch q⟩
  ·exact h4.obj
  ·exact h5.obj
 keep:=fun i h h' st k=>by
  obtain⟨h1,h2,⟨a,c,h3⟩,h4,h5⟩:=st;exact⟨k z (by simp) _ h1,k TI (by simp) _ h2,⟨a,c,k TO (by simp) _ h3⟩,h4.at fun o q=>k i1 (by simp) o q,h5.at fun o q=>k i2 (by simp) o q⟩
 item:=by
  intro X hP hw hK hc i pins s σ H E I hf st hg;subst hP hw hK;obtain⟨xs,ys,x,y,hq1,hq2,hx,hy⟩:=hg;obtain⟨its,rv,p⟩:=hq1.heap I;obtain⟨its2,rv2,p2⟩:=hq2.heap I;obtain⟨u,hu,ru⟩:=rv.get hx;obtain⟨u2,hu2,ru2⟩:=rv2.get hy;obtain⟨s1,s2,⟨a,c,s3⟩,s4,s5⟩:=id st;refine ZeS D s1 s2 s3 s4 s5 p p2 (x:=u) (y:=u2) (by simpa using hu) (by simpa using hu2) fun h' g1 g2 g3 g4 g5 g6 hk=>?_;refine⟨_,rfl,?_⟩;refine wpAny_letOwnedTupleGo_zip g1 fun h'' he hs=>?_;have live:∀ b∈[z,TI,TO,i1,i2],b<s.heap.objs.size:=fun b hb=>by
   obtain⟨h1,h2,⟨a,c,h3⟩,h4,h5⟩:=st;obtain⟨o4,e4,_⟩:=h4.obj;obtain⟨o5,e5,_⟩:=h5.obj;simp only[Yau,YbE,or_false] at hb;rcases hb with rfl | rfl | rfl | rfl | rfl
   ·exact Yah h1
   ·exact Yah h2
   ·exact Yah h3
   ·exact Yah e4
   ·exact Yah e5
  have hsz:s.heap.objs.size≠z:=Yby (live z (by simp));have k:∀ b o,b ∉ [z,TI,TO,i1,i2]->s.heap.get? b=some o->h''.get? b=some o:=fun b o hb q=>by
   simp only[Yau,YbE,or_false,not_or] at hb;exact (hs.2 b hb.1).trans (hk b o hb.1 hb.2.2.1 hb.2.2.2.1 hb.2.2.2.2 q)
  have st':ZkH b1 b2 z TI TO i1 i2 l1 l2 (i+1) h'':=by
   refine⟨he,(hs.2 TI D.TIz).trans (hk TI _ D.TIz D.TITO D.TIi1 D.TIi2 s2),⟨u,u2,(hs.2 TO D.TOz).trans g2⟩,?_,?_⟩
   ·exact g3.ext hs.extBut D.i1z
   ·exact g4.ext hs.extBut D.i2z
  have th:∀ b∈[z,TI,TO,i1,i2],∃ o,h''.get? b=some o:=fun b hb=>by
   obtain⟨h1,h2,⟨a,c,h3⟩,h4,h5⟩:=st';obtain⟨o4,e4,_⟩:=h4.obj;obtain⟨o5,e5,_⟩:=h5.obj;simp only[Yau,YbE,or_false] at hb;rcases hb with rfl | rfl | rfl | rfl | rfl
   ·exact⟨_,h1⟩
   ·exact⟨_,h2⟩
   ·exact⟨_,h3⟩
   ·exact⟨_,e4⟩
   ·exact⟨_,e5⟩
  have fresh:H s.heap.objs.size=none:=I.hok.fresh (Yag _);refine⟨.ref s.heap.objs.size,_,I.pairOut (fp:=[z,TI,TO,i1,i2]) (tk:=s.toks) hf k ((hs.2 _ hsz).trans g5) live th ru ru2,rfl,⟨s.heap.objs.size,x,y,fresh,rfl,rfl,fun ys hy=>by rw[hy.inj I hq1];exact hx,fun zs hz=>by rw[hz.inj I hq2];exact hy⟩,st',fun b hb=>?_⟩;rw[Zaf (YaB (live b hb))];exact (hf b hb).1
 done:=by
  intro X hP hw hK hc i pins s σ H E I hf st hg;subst hP hw hK;obtain⟨xs,ys,hq1,hq2,hx⟩:=hg;obtain⟨its,rv,p⟩:=hq1.heap I;obtain⟨its2,rv2,p2⟩:=hq2.heap I;obtain⟨s1,s2,⟨a,c,s3⟩,s4,s5⟩:=st;have e1:=rv.length;have e2:=rv2.length;refine ZfB (I.ok.hd hc) D s1 s2 s3 s4 s5 p p2 (by rcases hx with q | q;exact .inl (by simp;(clear e2;omega));exact .inr (by simp;(clear e1;omega))) fun h' hk=>⟨rfl,I.turnedAll (fp:=[z,TI,TO,i1,i2]) (tk:=s.toks) hf fun b o hb q=>?_⟩
  simp only[Yau,YbE,or_false,not_or] at hb;exact hk b o hb.1 hb.2.2.1 hb.2.2.2.1 hb.2.2.2.2 q
 self:=fun _ _ _ _ _ st h=>wpAny_pyIter_zip st.1 h
def ZnT (K:Yac) (ta:TA):TI:=fun σ H R=>ta σ H fun vs H1=>∃ b1 b2 a b,vs=[.ref a,.ref b]/\(∃ xs,SqB b1 K H1 a xs)/\(∃ ys,SqB b2 K H1 b ys)/\R (ItzB b1 b2 K a b) H1
theorem ZfE {X:Cx}{es:List Expr}{x1}{tpos:Pos}{e f:Expr}{ta:TA}{p pos:Pos} (hg:Gl X "zip") (hm:X.mg "zip"=none) (ha:PA X [e,f] ta) (hs:starEach [e,f] X.env=[(false,eval e X.env),(false,eval f X.env)]:=by rfl) (hs2:starEach [f] X.env=[(false,eval f X.env)]:=by rfl) :
  PI X (.Tuple es x1 tpos) (.Call (.Name "zip" p) [e,f] [] pos) (ZnT X.K ta):=by
 intro pins s σ H R I h;refine Call_ (ZdL I hg hm (show bootBuiltins "zip"=some (.type "zip") by decide +kernel) (YbV (thn (ha pos pins s σ H _ I h) fun us s1 ⟨vs,H1,I1,r1,q1⟩=>?_) (by rw[hs,hs2]) (by rw[hs2];rfl)));obtain⟨b1,b2,a,b,e1,⟨xs,hq⟩,⟨ys,hq2⟩,q⟩:=q1;subst e1;obtain⟨u,u2,rfl,r,r2⟩:=Zhw r1;cases r;cases r2;obtain⟨its,rv,pl⟩:=hq.heap I1;obtain⟨its2,rv2,pl2⟩:=hq2.heap I1;have la:=pl.lt;have lb:=pl2.lt;have ne:∀ {i j:Nat},i≠j->s1.heap.objs.size+i≠s1.heap.objs.size+j:=fun h z=>h (Nat.add_left_cancel z);have nl:∀ {c:Addr} (i:Nat),c<s1.heap.objs.size->c≠s1.heap.objs.size+i:=fun i h=>YaB (Yak h (Nat.le_add_right _ _));refine Zjm pl pl2 fun h' g1 g2 g3 g4 g5 k=>wpAny_pyIter_zip g1 ?_;have D:ZipApart (s1.heap.objs.size+4) (s1.heap.objs.size+2) (s1.heap.objs.size+3) (s1.heap.objs.size+0) (s1.heap.objs.size+1) a b :=
  ⟨ne (by decide),ne (by decide),ne (by decide),ne (by decide),ne (by decide),ne (by decide),ne (by decide),ne (by decide),ne (by decide),ne (by decide),nl 4 la,nl 3 la,nl 0 la,nl 1 la,nl 4 lb,nl 3 lb,nl 0 lb,nl 1 lb⟩
 refine⟨s1.heap.objs.size+4,[s1.heap.objs.size+4,s1.heap.objs.size+2,s1.heap.objs.size+3,s1.heap.objs.size+0,s1.heap.objs.size+1],_,_,H1,rfl,I1.kept (t':=s1.toks) k,Zhx D,⟨g1,g2,⟨_,_,g3⟩,g4,g5⟩,fun c hc=>?_,q⟩;have ge:s1.heap.objs.size<=c:=by
  simp only[Yau,YbE,or_false] at hc;rcases hc with rfl | rfl | rfl | rfl | rfl <;> exact Nat.le_add_right _ _
 exact I1.fpOk ge (I1.hok.fresh ge)
theorem ZkE {b1 b2:Bool}{K:Yac}{own:List Str}{js:List Nat}{g:TG}{tt:TT}{te:TE}{σ:St}{H1:Hp}{Q:VK}{a b:Addr}{xs ys:List V} (hlen:xs.length<=ys.length) (Pv:Addr->Nat->Hp->Prop) (h0:∀ acc,H1 acc=none->Pv acc 0 (upd H1 acc (.lst [])))
  (hl:∀ acc i H,H1 acc=none->i<=xs.length->Pv acc i H->SqB b1 K H a xs/\SqB b2 K H b ys)
  (hs:∀ acc i x y p H,H1 acc=none->xs[i]?=some x->ys[i]?=some y->Pv acc i H->H p=none->g (.ref p) (blkσ own js σ) (upd H p (.tup [x,y])) fun τ H4=>tt τ H4 fun c H5=>
   if c=true then te τ H5 fun y H6=>∃ ys,H6 acc=some (.lst ys)/\ys.length<sizeLine/\(i+1<=xs.length/\Pv acc (i+1) (upd H6 acc (.lst (ys++[y])))) else (i+1<=xs.length/\Pv acc (i+1) H5))
  (hd:∀ acc H,H1 acc=none->Pv acc xs.length H->Q (.ref acc) H):Zcv own js g tt te σ (ItzB b1 b2 K a b) H1 Q:=by
 intro acc hacc;refine⟨fun i H=>i<=xs.length/\Pv acc i H,xs.length,⟨YaV _,h0 acc hacc⟩,?_⟩;rintro i H ⟨hi,p⟩;obtain⟨q1,q2⟩:=hl acc i H hacc hi p;by_cases hlt:i<xs.length
 ·have hl2:i<ys.length:=by (clear hi;omega)
  refine .inr ⟨hlt,⟨xs,ys,xs[i],ys[i],q1,q2,by simp[hlt],by simp[hl2]⟩,fun x H' y=>?_⟩;obtain⟨pa,z1,z2,hp,e1,e2,y1,y2⟩:=y;subst e1 e2;exact hs acc i z1 z2 pa H hacc (y1 xs q1) (y2 ys q2) p hp
 ·have e:i=xs.length:=by (clear hlen;omega)
  subst e;exact .inl ⟨⟨xs,ys,q1,q2,.inl (Yag _)⟩,hd acc H hacc p⟩
end L2
namespace Lv
open PySem L2
theorem ZbP (K:Yac) {X:Cx}{es:List Expr}{k:Nat}{t:TGs}{n:Nat}{pos:Pos} (hc:X.calm=true) (h:PGs X es t) (hK:X.K=K:=by rfl) (hn:(assignEach es X.env).length=n:=by rfl) (hst:(assignEach es X.env).findIdx? (·.1)=none:=by rfl):PG X (.Tuple es k pos) (gTup K n t):=by
 subst hK;exact ZbF hc h hn hst
end Lv
namespace L2
open PySem PySem.Spec PyProof.Rows PySem.SeqAt
theorem Zdc:fillsNumberSlot (.type "tuple") "mul"=pure false :=
 PySem.fillsNumberSlot_seq (id:="tuple.__mul__") (r:=some (.builtin "tuple.__rmul__")) F.slot_tuple_mul.lookup (by decide +kernel) F.slot_tuple_rmul.lookup (by decide +kernel)
theorem Zlr:seqRepeat? (.type "tuple")=pure (some (.builtin "tuple.__mul__")):=by
 unfold seqRepeat?;rw[YeW (T:="tuple") (name:="__mul__") (id:="tuple.__mul__") F.slot_tuple_mul.lookup (by decide +kernel),YeW (T:="tuple") (name:="__rmul__") (id:="tuple.__rmul__") F.slot_tuple_rmul.lookup (by decide +kernel)];rfl
theorem ZeQ (a:Int) (t:Tok) (l:Addr) (items:Array Value) (n:Nat) (dct:Option Addr) (sl:Array (Option Value)) :
  Meets (Builtin.«int.__rmul__» ⟨[.int a t,.ref l],[]⟩) (fun _ R s=>s.heap.get? l=some { cls:=.type "tuple",dict:=dct,data:=.seq items n,slots:=sl }/\R (.ok (.ret Value.notImplemented)) s) :=
 .of_wp fun prog w A R s h=>by
  obtain⟨hp,g,d,tk,os⟩:=s;obtain⟨hl,h⟩:=h
  wp_walk
  exact⟨_,rfl,h⟩
theorem Zkm (l:Addr) (items:Array Value) (n:Nat) (dct:Option Addr) (sl:Array (Option Value)) (u:Tok) :
  Meets (Builtin.«tuple.__mul__» ⟨[.ref l,.int 1 u],[]⟩) (fun _ R s=>s.heap.get? l=some { cls:=.type "tuple",dict:=dct,data:=.seq items n,slots:=sl }/\R (.ok (.ret (.ref l))) s) :=
 .of_wp fun prog w A R s h=>by
  obtain⟨hp,g,d,tk,os⟩:=s;obtain⟨hl,h⟩:=h;unfold Builtin.«tuple.__mul__»
  wp_walk
  exact⟨_,rfl,h⟩
theorem Zkl (l:Addr) (items:Array Value) (n:Nat) (dct:Option Addr) (sl:Array (Option Value)) (k:Int) (u:Tok) (h0:¬ (decide (k < -(2 ^ 63)) || decide (k ≥ 2 ^ 63))=true) (h1:¬ (items.isEmpty || k == 1)=true) (h2:¬ (decide (k<=0) || items.isEmpty)=true) (h3:¬ items.size*k > (2 ^ 63 - 1) / 8) (h4:¬ Ydi (items.size*k)=true) (h5:¬ (Ydb (fun x1 x2=>x1++x2) #[] (Yae k.toNat items)).size > sizeLine) :
  Meets (Builtin.«tuple.__mul__» ⟨[.ref l,.int k u],[]⟩) (fun _ R s=>s.heap.get? l=some { cls:=.type "tuple",dict:=dct,data:=.seq items n,slots:=sl } /\
   R (.ok (.ret (.ref s.heap.objs.size))) { s with heap:=s.heap.push { cls:=.type "tuple",data:=.seq ((Yae k.toNat items).foldl (fun x1 x2=>x1++x2) #[]) } }) :=
 .of_wp fun prog w A R s h=>by
  obtain⟨hp,g,d,tk,os⟩:=s;obtain⟨hl,h⟩:=h;unfold Builtin.«tuple.__mul__»
  wp_walk
  rw[if_neg h0]
  wp_walk
  rw[if_neg h3]
  wp_walk
  exact⟨_,rfl,h⟩
theorem Zjn (K:Yac) {X:Cx} (hK:X.K=K:=by rfl):Zca X (.builtin "len") (fun xs H Q=>∃ p ys,xs=[.ref p]/\(SqL K H p ys∨SqT K H p ys)/\Q (.int ys.length) H):=by subst hK;exact ZaC
theorem CompOk.bare {X:Cx}{scope:Scope}{own:List Str} (h:((scope.kind == .function) && scope.names.all fun y=>(y.2 != .cell) && (y.2 != .free) && ((y.2 != .local) || (scope.names.lookup y.1 == some .local)))=true):CompOk X scope own []:=by
 simp only[Ycy,beq_iff_eq,YdH,Bool.or_eq_true,bne_iff_ne,ne_eq] at h;obtain⟨h1,h2⟩:=h;refine⟨h1,fun y hy=>(h2 y hy).1.1,fun y hy hf=>absurd hf (h2 y hy).1.2,fun y hy hl=>?_,fun j hj=>by cases hj⟩;rcases (h2 y hy).2 with z | z
 ·exact absurd hl z
 ·exact z
section
variable {X:Cx}
def ZnC (K:Yac):R2:=fun x y H Q=>∃ (l:Addr) (k:Int) (xs:List V),x=.ref l/\y=.int k/\SqT K H l xs/\xs≠[]/\1<=k/\k<=1000/\xs.length*k.toNat<=1000/\(k=1->Q (.ref l) H)/\(k≠1->∀ p,H p=none->Q (.ref p) (upd H p (.tup (Yae k.toNat xs).flatten)))
theorem ZlF:OpR X (binaryOp .Mult) (ZnC X.K):=by
 intro pins s σ H x y v u Q I rx ry h;obtain⟨l,k,xs,rfl,rfl,hH,hne,k1,k2,hz,q1,q2⟩:=h;cases rx;obtain⟨t,rfl⟩:=ry;obtain⟨its,r,p,_⟩:=I.tuple hH;obtain⟨⟨c,dct,dt,sl⟩,hl,hc,n,hd⟩:=(show s.heap.IsTuple l its.toArray from p)
 replace hc:c=.type "tuple":=hc
 replace hd:dt=.seq its.toArray n:=hd
 subst hc hd;have hlen:=r.length;refine wpAny_binaryOp_repeat_ref (T:="tuple") (U:="int") (by decide) ⟨_,hl,rfl⟩ (fun s'=>typeIs_int s' k t) Zdc F.fills_int_mul F.slot_int_rmul Zlr F.slot_int_index.lookup
  (call_meets F.slot_int_rmul (typeIs_int s k t) F.entry_int_rmul (F.args_int_rmul_2 _ _) (ZeQ k t l its.toArray n dct sl) ⟨hl,rfl,⟨_,hl,rfl⟩,?_⟩)
 by_cases e:k=1
 ·subst e;exact call_meets F.slot_tuple_mul ⟨_,hl,rfl⟩ F.entry_tuple_mul (F.args_tuple_mul_2 _ _) (Zkm l its.toArray n dct sl t) ⟨hl,⟨.ref l,H,I,rfl,q1 rfl⟩⟩
 ·have hpos:0<its.length:=by rw[<- hlen];exact List.length_pos_iff.mpr hne
  have hne':its.toArray.isEmpty=false:=by
   cases its with
   | nil=>simp at hpos
   | cons=>rfl
  have hm:(its.toArray.size:Int)*k<=1000:=by
   rw[Yal,<- hlen];have:((xs.length*k.toNat:Nat):Int)<=1000:=by (clear hpos e hlen q2 q1 k2 k1;omega)
   rw[Int.natCast_mul,YeU (by (clear this hpos e hlen q2 q1 hz k2;omega))] at this;exact this
  have f0:Ydb (fun x1 x2=>x1++x2) #[] (Yae k.toNat its.toArray)=(Yae k.toNat its).flatten.toArray:=by
   have:=Zc1 its k.toNat [];rw[Yb6] at this;exact this
  refine call_meets F.slot_tuple_mul ⟨_,hl,rfl⟩ F.entry_tuple_mul (F.args_tuple_mul_2 _ _) (Zkl l its.toArray n dct sl k t ?_ ?_ ?_ ?_ ?_ ?_) ⟨hl,?_⟩
  ·simp;(clear hm hpos e hlen q2 q1 hz;omega)
  ·rw[hne'];simp;exact e
  ·rw[hne'];simp;(clear hm hpos e hlen q2 q1 hz k2;omega)
  ·(clear hpos e hlen q2 q1 hz k2 k1;omega)
  ·unfold Ydi;rw[decide_eq_true_iff,sizeLine_eq]
   (clear hpos e hlen q2 q1 hz k2 k1;omega)
  ·rw[f0,Yal,ZfL,YeC,<- hlen];exact Nat.not_lt.mpr (Ya8 (Zas hz))
  ·rw[f0];refine⟨.ref s.heap.objs.size,_,I.laid (t':=s.toks) (o:=.tup (Yae k.toNat xs).flatten) (fun b ob q=>Yab _ q) (Yag _) ?_,rfl,q2 e _ (I.hok.fresh (Yag _))⟩;exact⟨by rw[ZfL,YeC];exact Ya8 (Zas hz),_,r.rep k.toNat,IsTupD.new _ _⟩
def LLs (H:Hp) (rs:List Addr) (N:List (List Int)):Prop:=rs.length=N.length/\∀ (j:Nat) r xs,rs[j]?=some r->N[j]?=some xs->H r=some (.lst (xs.map V.int))
def TTs (H:Hp) (rs:List Addr) (N:List (List Int)):Prop:=rs.length=N.length/\∀ (j:Nat) r xs,rs[j]?=some r->N[j]?=some xs->H r=some (.tup (xs.map V.int))
theorem TTs.same {H H':Hp}{rs:List Addr}{N:List (List Int)} (h:TTs H rs N) (s:Same H H'):TTs H' rs N:=⟨h.1,fun j r xs a b=>s _ _ (h.2 j r xs a b)⟩
theorem TTs.lst {H:Hp}{rs:List Addr}{N:List (List Int)}{acc:Addr}{ys zs:List V} (h:TTs H rs N) (e:H acc=some (.lst zs)):TTs (upd H acc (.lst ys)) rs N:=⟨h.1,fun j r xs a b=>by
 have:=h.2 j r xs a b;rw[Zaf (by intro z;subst z;rw[e] at this;cases this)];exact this⟩
theorem Zeb {α:Type}{xs:List α}{x y:α}{j:Nat} (h:(xs++[x])[j]?=some y):xs[j]?=some y∨(j=xs.length/\y=x):=by
 by_cases hj:j<xs.length
 ·rw[YaL hj] at h;exact .inl h
 ·rw[YaI (by omega)] at h;have:j - xs.length=0:=by
   cases e:j - xs.length with
   | zero=>rfl
   | succ m=>rw[e] at h;simp at h
  rw[this] at h;exact .inr ⟨by omega,by simpa using h.symm⟩
theorem TTs.snoc {H:Hp}{rs:List Addr}{N:List (List Int)}{r:Addr}{x:List Int} (h:TTs H rs N) (e:H r=some (.tup (x.map V.int))):TTs H (rs++[r]) (N++[x]):=⟨by simp[h.1],fun j r' xs a b=>by
 rcases Zeb a with a | ⟨a,rfl⟩
 ·rcases Zeb b with b | ⟨b,_⟩
  ·exact h.2 j r' xs a b
  ·have:=(Yaa.mp a).1;have:=h.1;omega
 ·rcases Zeb b with b | ⟨_,rfl⟩
  ·have:=(Yaa.mp b).1;have:=h.1;omega
  ·exact e⟩
end
end L2
namespace Lv
open PySem L2
def fstN (N:List (List Int)):List Int:=(N.headD []).map (·+1)
def Zhd (N:List (List Int)):List (List Int):=(N.tail.map (fstN N++·))++[fstN N]
def num0 (p:Nat):List (List Int):=[0]::Yae (p - 1) []
def num (p:Nat):Nat->List (List Int)
 | 0=>num0 p
 | n+1=>Zhd (num p n)
def lens (N:List (List Int)):List Int:=N.map fun l=>(l.length:Int)
theorem ZiD (N:List (List Int)):lens (Zhd N)=ZbQ (lens N):=by
 cases N with
 | nil=>simp[lens,Zhd,ZbQ,fstN]
 | cons a r=>
  simp[lens,Zhd,ZbQ,fstN,Yew]
theorem Zeq (p:Nat):∀ n,lens (num p n)=cnt p n
 | 0=>by simp[lens,num,num0,cnt,Zbk]
 | n+1=>by
  show lens (Zhd (num p n))=ZbQ (cnt p n);rw[ZiD,Zeq p n]
theorem Zio {p:Nat} (hp:1<=p) (n:Nat):(num p n).length=p:=by
 have:=congrArg YdR (Zeq p n);rw[ZfX hp] at this;simpa[lens] using this
theorem ZhU {α:Type}{n j:Nat}{x y:α} (h:(Yae n x)[j]?=some y):y=x:=by
 rw[Yeh] at h;split at h
 ·exact (Yaw h).symm
 ·cases h
theorem Zbf {rs:List Addr}{i:Nat}{x:V} (h:(rs.map V.ref)[i]?=some x):∃ r,rs[i]?=some r/\x=.ref r:=by
 rw[Yas] at h
 cases e:rs[i]? with
 | none=>rw[e] at h;cases h
 | some p=>rw[e] at h;exact⟨p,rfl,(Yaw h).symm⟩
def Zlj:Sp:=fun vs H Q _=>∃ i,vs=[.int i]/\i<=4000/\Q .non H
def ZcD:Sp:=fun vs H Q _=>∃ p:Nat,vs=[.int p]/\2<=p/\p<=7/\∀ l qs H',H l=none->H' l=some (.tup (qs.map V.ref))->TTs H' qs (num0 p)->Same H H'->Q (.ref l) H'
end Lv
namespace Lv
open PySem L2 PySem.Spec PyProof.Rows
structure FunD (K:Yac) (x qual:Str) (st:Stmt) (f da:Addr) (fd:FuncData):Prop where
 ex:∃ (oc:Value) (od:Option Addr) (kV doc pm:Value) (an:Option Addr) (cdv ct:Value) (osl:Array (Option Value)),
  fd=Yax x qual (Zal st) (Zaj st) (Zac st) (.ref da) kV doc pm an cdv ct/\K.lookup f=some ⟨oc,od,.func fd,osl⟩/\Yat K cdv qual=true
 kp:Yaq K (.ref f)=true
section
variable {P:Program}{w:World}{K:Yac}{mg:Str->Option Value}{base:Heap}
theorem FunD.ok {x qual:Str}{st:Stmt}{f da:Addr}{fd:FuncData}{N ps:List Str}{k:Nat}{sp:Sp} (F:FunD K x qual st f da fd) (S:FnScope N ps (Zac st)) (len:∀ vs H Q E,sp vs H Q E->vs.length=ps.length)
  (hbody:∀ (cdv:Value) (A:Around) (outer:List Env) (s:Shared) (H:Hp) (vs:List V) (Q:VK) (E:XK),Room k (A.deeper (envOfC qual (Zac st) s.heap.objs.size f cdv))->sp vs H Q E ->
   ∃ t,PSs (cxOf CX0 P w K mg base N qual (Zac st) f cdv A outer s H E).nox (Zaj st) t/\t { nx:=fun _ H'=>Q .non H',rt:=Q } (Zda N vs) H):FnOk P w K mg base CX0 (k+1) f fd ps sp:=by
 obtain⟨oc,od,kV,doc,pm,an,cdv,ct,osl,rfl,lk,hcd⟩:=F.ex;refine Zna lk hcd S len fun A outer s H vs Q E hr hsp=>?_;obtain⟨t,h,q⟩:=hbody cdv A outer s H vs Q E hr hsp;exact⟨t,h.nox,q⟩
theorem FunD.binds {x qual:Str}{st:Stmt}{f da:Addr}{fd:FuncData}{ps:List Str}{o:Obj}{items:Array Value}{n:Nat} (F:FunD K x qual st f da fd) (ho:K.lookup da=some o) (hs:o.data=.seq items n) (ds:List Value) (qs:List Str) (hq:qs.length+ds.length=ps.length)
  (h:∀ (kV doc pm:Value) (an:Option Addr) (cdv ct:Value) (us:List Value),us.length=qs.length ->
   ∃ k:Option (Array Value)->Sem (List (Str × Value)),bindArgs (Yax x qual (Zal st) (Zaj st) (Zac st) (.ref da) kV doc pm an cdv ct) ⟨us,[]⟩=seqItems? (.ref da) >>= k/\k (some items)=pure (ps.zip (us++ds))):Binds K fd ps ds:=by
 obtain⟨oc,od,kV,doc,pm,an,cdv,ct,osl,rfl,lk,hcd⟩:=F.ex;intro s us X hl;obtain⟨k,h1,h2⟩:=h kV doc pm an cdv ct us (by rw[Yaj] at hl;omega);exact PySem.W.binds_K X rfl ho hs h1 h2
theorem Zl0 {x qual:Str}{st:Stmt}{f da:Addr}{oc:Value}{od an:Option Addr}{osl:Array (Option Value)}{kV doc pm cdv ct:Value} (l:K.lookup f=some ⟨oc,od,.func (Yax x qual (Zal st) (Zaj st) (Zac st) (.ref da) kV doc pm an cdv ct),osl⟩)
  (c:Yat K cdv qual=true) (k:Yaq K (.ref f)=true):FunD K x qual st f da (Yax x qual (Zal st) (Zaj st) (Zac st) (.ref da) kV doc pm an cdv ct):=⟨⟨oc,od,kV,doc,pm,an,cdv,ct,osl,rfl,l,c⟩,k⟩
end
structure CalD (P:Program) (w:World) (K:Yac) (mg:Str->Option Value) (base:Heap) (k:Nat) (x:Str) (ps:List Str) (dvs:List V) (sp:Sp) (f:Addr) (fd:FuncData):Prop where
 ok:FnOk P w K mg base CX0 k f fd ps sp
 mg:mg x=some (.ref f)
 kp:Yaq K (.ref f)=true
 bd:∃ ds,Binds K fd ps ds/\Vals dvs ds
def Zms (j:Nat) (f:Addr) (t:TE):TE:=fun σ H Q=>σ[j]?=some (some (.ref f))/\t σ H Q
theorem Zel {X:Cx}{k:Nat}{x y:Str}{ps:List Str}{sp:Sp}{f:Addr}{fd:FuncData}{e:Expr}{es:List Expr}{t:TA}{p pos:Pos} (j:Nat) (C:Cal X.prog X.w X.K X.mg X.base k y ps sp f fd) (hr:Room k X.A) (ha:PA X (e::es) t) (hN:X.N[j]?=some x:=by rfl) (hv:Vis X.env.scope x:=by first | exact YaK rfl | exact Yen (YaK rfl) | exact Yen (Yen rfl))
  (hdb:(x == ("__debug__":Str))=false:=by decide) (hcd:(x == ("__classdict__":Str))=false:=by decide) (he:starEach (e::es) X.env=(false,eval e X.env)::starEach es X.env:=by rfl) (hpl:(backTo pos (starEach es X.env)).any (·.1)=false:=by rfl) :
  PE X (.Call (.Name x p) (e::es) [] pos) (Zms j f (Zlf sp [] E0 t)):=by
 intro pins s σ H Q I h;obtain⟨h0,h⟩:=h;refine wpAny_Call_Name_kw ?_;refine thn (ZkR hN hv hdb hcd pins s σ H (fun v H1=>v=.ref f/\t σ H1 fun vs H2=>sp (vs++[]) H2 Q E0) I ⟨_,h0,rfl,h⟩) fun u s1 ⟨v,H1,I1,r,ev,q⟩=>?_;subst ev;obtain rfl:u=Ya9 f:=r;refine Yeq (h₀:=X.base) I.ok.mod.kin C.kp (thn (ha pos pins s1 σ H1 _ I1 q) fun us s2 ⟨vs,H2,I2,r2,q2⟩=>⟨I2.kIn,?_⟩) he hpl;exact ZkO C.ok hr C.bd .nil ZmP I2 r2 q2
theorem Zgq {X:Cx}{k:Nat}{x:Str}{ps:List Str}{sp:Sp}{f:Addr}{fd:FuncData}{pos:Pos} (C:Cal X.prog X.w X.K X.mg X.base k x ps sp f fd) (hg:Gl X x) (hd:(x == ("__debug__":Str))=false:=by decide):PE X (.Name x pos) (tC (.ref f)) :=
 Zh5 hg C.mg rfl hd
def Zd4:Sp:=fun vs H Q _=>∃ i m,vs=[.int i,.int m]/\0<=i/\i<=m/\Q .non H
end Lv
namespace L2
open PySem PySem.Spec PyProof.Rows
end L2
namespace L2
open PySem PySem.Spec PyProof.Rows
def Fly (H:Hp) (h0 h:Heap) (ea:Addr) (cls:Value) (od:Option Addr) (fl:Value):Prop :=
 ∃ (a0:Value) (T:Addr) (oe oT:Obj) (vs ts:Array Value),(H ea=none/\H T=none/\h0.get? ea=none/\h0.get? T=none) /\
  h.get? ea=some oe/\((oe.cls=cls/\vs[0]?=some a0)/\oe.dict=od)/\oe.data=.fields vs/\vs[1]?=some (.ref T)/\T≠ea/\h.get? T=some oT/\oT.data=.fields ts/\ts[3]?=some fl
def CX1 (P:Program) (w:World):CXT:=fun outer H s E e s'=>∃ (ea:Addr) (cls:Value) (od:Option Addr) (H':Hp),e=.ref ea/\s'.os=s.os/\AllBare s'.gens/\Un (frs outer) [] H H' s.heap s'.heap/\HOk P w H' s'.heap/\Fly H' s.heap s'.heap ea cls od .none/\E cls od H'
section
variable {P:Program}{w:World}{K:Yac}{mg:Str->Option Value}{base:Heap}{N:List Str}{qual:Str}{scope:Scope}{f:Addr}{cd:Value}{A:Around}{outer:List Env}{s:Shared}{H:Hp}{E:XK}
end
end L2
namespace L2
open PySem PySem.Spec PyProof.Rows PySem.W
section
variable {prog:Program}{w:World}{A:Around}{E:Value->Shared->Prop}{s:Shared}{K:Frag}{x C D:Addr}{ox:Obj}
def Zi4 (K:Frag) (C:Addr):Bool:=findIn K (.ref C) "__getattribute__" == some (some (.builtin "BaseException.__getattribute__")) && (findIn K (.ref C) "__getattr__" == some none &&
 (findIn K (.ref C) "__class__" == some (some (.builtin "object.__class__")) && (mroIn K C (.type "object") == some true && (mroIn K C (.type "BaseException") == some true && ((clsIn K C).isSome &&
 (specialIn K (.builtin "object.__class__") "__get__" == some (some (.builtin "getset_descriptor.__get__")) && takesIn K (.builtin "object.__class__") == some true))))))
def Znd (K:Frag) (C:Addr):Bool:=excIn K C [.type "ValueError",.type "Exception",.type "BaseException",.type "object"] "ValueError.__new__" && Zi4 K C
end
section
variable {X:Cx}
end
end L2
namespace L2
open PySem PySem.Spec PyProof.Rows PySem.W
section
variable {P:Program}{w:World}{K:Yac}{mg:Str->Option Value}{base:Heap}
end
structure CalE (P:Program) (w:World) (K:Yac) (mg:Str->Option Value) (base:Heap) (k:Nat) (x:Str) (ps:List Str) (dvs:List V) (sp:Sp) (f:Addr) (fd:FuncData):Prop where
 ok:FnOk P w K mg base (CX1 P w) k f fd ps sp
 mg:mg x=some (.ref f)
 kp:Yaq K (.ref f)=true
 bd:∃ ds,Binds K fd ps ds/\Vals dvs ds
section
variable {X:Cx}
inductive FParts (X:Cx):List Expr->List TE->Prop
 | nil:FParts X [] []
 | con {x:Str}{j pos}{es:List Expr}{ts:List TE} (h:x.length<=1000) (r:FParts X es ts):FParts X (.Constant (.str x) j pos::es) ts
 | val {v:Expr}{t:TE}{pos:Pos}{es:List Expr}{ts:List TE} (h:PE X v t) (r:FParts X es ts):FParts X (.FormattedValue v (-1) none pos::es) (t::ts)
end
section
variable {X:Cx}{pins:List (Addr × Obj)}{σ:St}{H:Hp}{s:Shared}
end
def Ends.without (D:Ends) (i:Nat):Ends:={ nx:=fun σ H=>D.nx (σ.set i none) H,rt:=D.rt,bk:=fun σ H=>D.bk (σ.set i none) H,ct:=fun σ H=>D.ct (σ.set i none) H }
section
variable {X:Cx}
end
end L2
namespace L2
open PySem PySem.Spec PyProof.Rows
def Zen:Expr->Bool
 | .Starred ..=>false
 | _=>true
theorem Zdk {e:Expr}{es:List Expr}{env:Env} (h:Zen e=true):starEach (e::es) env=(false,eval e env)::starEach es env:=by
 cases e <;> first | rfl | (cases h)
structure WA (X:Cx) (es:List Expr) (t:TA):Prop where
 out:PA X es t
structure WS (X:Cx) (st:Stmt) (t:TS):Prop where
 out:PS X st t
structure WSs (X:Cx) (sts:List Stmt) (t:TS):Prop where
 out:PSs X sts t
section
variable {X:Cx}{st:Stmt}{rest a b:List Stmt}{t u:TS}{c e:Expr}{tc:TT}{pos:Pos}{es:List Expr}{te:TE}{ta:TA}
theorem Zai (h1:WS X st t) (h2:WSs X rest u):WSs X (st::rest) (tSeq t u):=⟨Zah h1.out h2.out⟩
theorem ZaD (h:WS X st t):WSs X [st] t:=⟨Zam h.out⟩
theorem ZbG:WSs X [] Zmj:=⟨Zbn⟩
theorem wss {sts:List Stmt} (h:PSs X sts t):WSs X sts t:=⟨h⟩
theorem Zfo (hc:PT X c tc) (ha:WSs X a t) (hb:WSs X b u):WS X (.If c a b pos) (tIfS tc t u):=⟨ZeU hc ha.out hb.out⟩
theorem ws (h:PS X st t):WS X st t:=⟨h⟩
theorem Zhv:WA X [] tNil:=⟨Zad⟩
theorem Zfs (hn:Zen e=true) (ha:PE X e te) (hr:WA X es ta):WA X (e::es) (Zle te ta):=⟨Zaa ha hr.out (Zdk hn)⟩
end
section
variable {P:Program}{w:World}{K:Yac}{mg:Str->Option Value}{base:Heap}
theorem okW {x qual:Str}{st:Stmt}{f:Addr}{fd:FuncData}{N ps:List Str}{k:Nat}{sp:Sp} (F:Fun K x qual st f fd) (S:FnScope N ps (Zac st)) (len:∀ vs H Q E,sp vs H Q E->vs.length=ps.length)
  (hbody:∀ (cdv:Value) (A:Around) (outer:List Env) (s:Shared) (H:Hp) (vs:List V) (Q:VK) (E:XK),Room k (A.deeper (envOfC qual (Zac st) s.heap.objs.size f cdv))->sp vs H Q E ->
   ∃ t,WSs (cxOf CX0 P w K mg base N qual (Zac st) f cdv A outer s H E).nox (Zaj st) t/\t { nx:=fun _ H'=>Q .non H',rt:=Q } (Zda N vs) H):FnOk P w K mg base CX0 (k+1) f fd ps sp :=
 F.ok S len fun cdv A outer s H vs Q E hr hsp=>by
  obtain⟨t,h,q⟩:=hbody cdv A outer s H vs Q E hr hsp;exact⟨t,h.out,q⟩
end
end L2
namespace L2
open PySem PySem.Spec PyProof.Rows PySem.SeqAt
theorem Zm4 {P:Program}{w:World}{k:Key}{u:Value} (h:(Zay P w).is k u=true):RelV (kV k) u:=by
 rw[Zhf] at h;rcases ZaA h with ⟨i,t,rfl,rfl⟩ | ⟨x,t,rfl,rfl⟩
 ·exact⟨t,rfl⟩
 ·exact⟨t,rfl⟩
section
variable {X:Cx}{pins:List (Addr × Obj)}{σ:St}{H:Hp}{s:Shared}{a:Addr}{u v:HO}{kvs:List (Key × V)}
theorem Inv.refit (I:Inv X pins σ H s) (e:H a=some u) (h1:∀ xs,u≠.tup xs) (h2:∀ x,u≠.own x) (h3:∀ ps,u≠.tbl ps)
  (h4:∀ o u',X.H₀ a≠some (.frz o u')) (new:ObjOk X.prog X.w (upd H a v) s.heap a v):Inv X pins σ (upd H a v) s:=by
 have nn:∀ b,H b=none->b≠a:=fun b z q=>by rw[q,e] at z;cases z
 refine⟨I.ok,I.os,I.bare,⟨I.base.keep,I.base.slot,fun b o q n hx=>?_,I.base.there,fun b xs q=>?_,fun b o u' q=>?_,fun b ps q=>?_⟩,I.loc,I.cell,?_,fun x c q=>?_,fun p hp=>?_,fun b ob q=>?_,I.len⟩
 ·have:=I.base.free b o q n hx;rw[Zaf (nn b this)];exact this
 ·have z:=I.base.tups b xs q;rw[Zaf (by rintro rfl;rw[e] at z;exact h1 xs (Yaw z))];exact z
 ·have z:=I.base.frzs b o u' q;rw[Zaf (by rintro rfl;exact h4 o u' q)];exact z
 ·obtain⟨more,z⟩:=I.base.tbls b ps q;exact⟨more,by rw[Zaf (by rintro rfl;rw[e] at z;exact h3 _ (Yaw z))];exact z⟩
 ·rw[Zaf (nn _ I.free)];exact I.free
 ·rw[Zaf (nn _ (I.freeC x c q))];exact I.freeC x c q
 ·obtain⟨z1,z2,z3⟩:=I.pin p hp;exact⟨z1,by rw[Zaf (nn _ z2)];exact z2,z3⟩
 ·by_cases hb:b=a
  ·subst hb;rw[Zab] at q;cases q;exact new
  ·rw[Zaf hb] at q;refine (I.hok b ob q).stay (fun _ _ _ z=>z) (fun c z=>?_) fun c xs z=>?_
   ·rw[Zaf (by rintro rfl;rw[e] at z;exact h2 _ (Yaw z))];exact z
   ·rw[Zaf (by rintro rfl;rw[e] at z;exact h1 _ (Yaw z))];exact z
theorem Inv.freeze (I:Inv X pins σ H s) (e:H a=some (.dK kvs)):∃ o,(∀ o u',X.H₀ a≠some (.frz o u'))/\Inv X pins σ (upd H a (.frz o (.dK kvs))) s:=by
 have q:ObjOk X.prog X.w H s.heap a (.dK kvs):=I.hok a _ e;obtain⟨z,hd,vs,r,o,es,ep,ho,rest⟩:=id q;have hn:∀ o u',X.H₀ a≠some (.frz o u'):=fun o u' q=>by
  have:=I.base.frzs a o u' q;rw[e] at this;cases this
 exact⟨o,hn,I.refit e (fun _ z=>nomatch z) (fun _ z=>nomatch z) (fun _ z=>nomatch z) hn ⟨ho,z,hd,vs,r,o,es,ep,ho,rest⟩⟩
theorem Inv.thaw {o:Obj} (I:Inv X pins σ H s) (e:H a=some (.frz o (.dK kvs))) (hn:∀ o u',X.H₀ a≠some (.frz o u')):Inv X pins σ (upd H a (.dK kvs)) s:=by
 obtain⟨_,z,hd,vs,r,q⟩:=(show ObjOk X.prog X.w H s.heap a (.frz o (.dK kvs)) from I.hok a _ e)
 exact I.refit e (fun _ z=>nomatch z) (fun _ z=>nomatch z) (fun _ z=>nomatch z) hn ⟨z,hd,vs,r,q⟩
end
def Znn (a:Addr) (o:Obj) (kvs:List (Key × V)) (D:Ends):Ends where
 nx:=fun σ H=>H a=some (.frz o (.dK kvs))/\D.nx σ (upd H a (.dK kvs))
 rt:=fun v H=>H a=some (.frz o (.dK kvs))/\D.rt v (upd H a (.dK kvs))
 bk:=fun σ H=>H a=some (.frz o (.dK kvs))/\D.bk σ (upd H a (.dK kvs))
 ct:=fun σ H=>H a=some (.frz o (.dK kvs))/\D.ct σ (upd H a (.dK kvs))
def sFrz (t:TS):TS:=fun D σ H=>(∃ a kvs,H a=some (.dK kvs)/\∀ o,t (Znn a o kvs D) σ (upd H a (.frz o (.dK kvs))))∨t D σ H
def tFrz (t:TE):TE:=fun σ H Q=>(∃ a kvs,H a=some (.dK kvs)/\∀ o,t σ (upd H a (.frz o (.dK kvs))) fun v H'=>H' a=some (.frz o (.dK kvs))/\Q v (upd H' a (.dK kvs)))∨t σ H Q
section
variable {X:Cx}
theorem ZmJ {st:Stmt}{t:TS} (h:PS X st t):PS X st (sFrz t):=by
 intro pins s σ H D I q;rcases q with ⟨a,kvs,e,q⟩ | q
 ·obtain⟨o,hn,I1⟩:=I.freeze e;refine wpAny_mono (h pins s σ _ _ I1 (q o)) (fun f s' z=>?_) fun _ _ z=>z
  cases f with
  | next=>obtain⟨σ',H',I',e',q'⟩:=z;exact⟨σ',_,I'.thaw e' hn,q'⟩
  | brk=>obtain⟨σ',H',I',e',q'⟩:=z;exact⟨σ',_,I'.thaw e' hn,q'⟩
  | cont=>obtain⟨σ',H',I',e',q'⟩:=z;exact⟨σ',_,I'.thaw e' hn,q'⟩
  | ret u=>obtain⟨v,σ',H',I',r,e',q'⟩:=z;exact⟨v,σ',_,I'.thaw e' hn,r,q'⟩
 ·exact h pins s σ H D I q
theorem ZmM {x:Expr}{t:TE} (h:PE X x t):PE X x (tFrz t):=by
 intro pins s σ H Q I q;rcases q with ⟨a,kvs,e,q⟩ | q
 ·obtain⟨o,hn,I1⟩:=I.freeze e;refine wpAny_mono (h pins s σ _ _ I1 (q o)) (fun f s' z=>?_) fun _ _ z=>z;obtain⟨v,H',I',r,e',q'⟩:=z;exact⟨v,_,I'.thaw e' hn,r,q'⟩
 ·exact h pins s σ H Q I q
end
def VwI (v a:Addr):HO:=.ext fun h=>h.IsItemsView v a
theorem Zmd {P:Program}{w:World}{H:Hp}{h:Heap}{v a:Addr} (x:h.IsItemsView v a):ObjOk P w H h v (VwI v a) :=
 ⟨x,let ⟨o,e,_⟩:=x;⟨o,e⟩,fun _ _ ⟨o,e,r⟩ k=>⟨o,k o e,r⟩⟩
theorem ZkJ {X:Cx}{pins:List (Addr × Obj)}{σ:St}{H:Hp}{s:Shared}{v a:Addr} (I:Inv X pins σ H s) (e:H v=some (VwI v a)):s.heap.IsItemsView v a :=
 (show ObjOk X.prog X.w H s.heap v (VwI v a) from I.hok v _ e).1
def Zml (to:TE):TE:=fun σ H Q=>to σ H fun x H1=>∃ a kvs,x=.ref a/\Rd H1 a (.dK kvs)/\∀ v,H1 v=none->Q (.ref v) (upd H1 v (VwI v a))
theorem Zej {X:Cx}{o:Expr}{to:TE}{apos cpos:Pos} (ho:PE X o to) (hbase:attributeBase o "items" X.env (eval o X.env)=eval o X.env:=by rfl) (hline:(apos.endLine == cpos.line)=true:=by rfl) :
  PE X (.Call (.Attribute o "items" apos) [] [] cpos) (Zml to):=by
 intro pins s σ H Q I h;refine wpAny_Call_method0_late hbase hline (thn (ho pins s σ H _ I h) fun v s1 ⟨x,H1,I1,r1,a,kvs,ex,hd,q1⟩=>?_);subst ex;cases r1;obtain⟨t1,t2,t3⟩:=ZkY I1 (.inl ⟨kvs,hd⟩);obtain⟨_,_,vs,rel,dd⟩:=Zhn I1.hok hd;refine⟨"dict","dict.items",Yd1,Yd0,PySem.F.type_dict_items,t1,t2,Yc5 rfl (PySem.evalArgs_none ?_)⟩;refine call_meetsIn Yd0 dd.typeIs PySem.F.entry_dict_items (PySem.F.args_dict_items_1 _) (meets_dict_items (Zay X.prog X.w) a t3) ⟨⟨vs,dd⟩,?_⟩;exact⟨.ref s1.heap.objs.size,_,I1.laid (o:=VwI s1.heap.objs.size a) (t':=s1.toks) (fun b o e=>Yab _ e) (Yag _) (Zmd ⟨_,Yav _ rfl,rfl,rfl⟩),rfl,q1 _ (I1.hok.fresh (Yag _))⟩
theorem ZiY {X:Cx}{pins:List (Addr × Obj)}{σ:St}{H:Hp}{s:Shared}{a:Addr}{o:Obj}{kvs:List (Key × V)} (I:Inv X pins σ H s) (e:H a=some (.frz o (.dK kvs))) :
  ∃ vs es ep,KV kvs vs/\kvs.length<=sizeLine/\(a == sysModules)=false/\o.data=.dict es ep/\es.size=kvs.length/\s.heap.DictAt (Zay X.prog X.w) a vs ep:=by
 obtain⟨ho,z,hd,vs,r,o',es,ep,ho',ex,hdat,hk,hp,hn⟩:=(show ObjOk X.prog X.w H s.heap a (.frz o (.dK kvs)) from I.hok a _ e)
 rw[ho] at ho';cases ho';refine⟨vs,es,ep,r,z,hd,hdat,?_,o,es,ho,ex,hdat,hk,hp,hn⟩;rw[r.length,<- hp.length];simp
theorem KV.get {κ:Type}:∀ {kvs:List (κ × V)}{vs:List (κ × Value)}{i:Nat}{k:κ}{v:V},KV kvs vs->kvs[i]?=some (k,v)->∃ u,vs[i]?=some (k,u)/\RelV v u
 | _,_,_,_,_,.nil,e=>by simp at e
 | _,_,0,k,v,.cons (a:=p) (b:=q) r _,e=>by
  simp at e;subst e;obtain⟨e1,r⟩:=r;obtain⟨q1,q2⟩:=q;cases e1;exact⟨q2,rfl,r⟩
 | _,_,i+1,k,v,.cons _ t,e=>by
  obtain⟨u,h1,h2⟩:=KV.get (i:=i) (k:=k) (v:=v) t (by simpa using e);exact⟨u,by simpa using h1,h2⟩
def Itd (o:Obj) (a:Addr):It :=
 ⟨fun i H=>∃ kvs p,H a=some (.frz o (.dK kvs))/\kvs[i]?=some p,fun i H y H'=>∃ p k v,H p=none/\y=.ref p/\H'=upd H p (.tup [kV k,v])/\∀ kvs,H a=some (.frz o (.dK kvs))->kvs[i]?=some (k,v),
  fun i H=>∃ kvs,H a=some (.frz o (.dK kvs))/\kvs.length<=i⟩
theorem Zjd {o:Obj}{es es':Array DictEntry}{ep ep':Nat} (h:o.data=.dict es ep) (h':o.data=.dict es' ep'):es=es'/\ep=ep':=by
 rw[h] at h';cases h';exact⟨rfl,rfl⟩
theorem ZgR {P:Program}{w:World}{K:Yac}{xs:List Expr}{x1}{pos:Pos} (a it:Addr) (o:Obj) (es:Array DictEntry) (ep:Nat) (hdat:o.data=.dict es ep) :
  Turn P w K (.Tuple xs x1 pos) (Itd o a) [it] it (fun i h=>∃ ok ov,IsItemIter h it a i es.size ep ok ov) where
 mem:=by simp
 obj:=fun i h st b hb=>by
  have e:b=it:=by simpa using hb
  subst e;obtain⟨ok,ov,st⟩:=st;exact⟨_,st,fun v z=>nomatch z⟩
 keep:=fun i h h' st k=>by
  obtain⟨ok,ov,st⟩:=st;exact⟨ok,ov,k it (by simp) _ st⟩
 item:=by
  intro X hP hw hK hc i pins s σ H E I hf st hg;subst hP hw hK;obtain⟨ok,ov,st⟩:=st;obtain⟨kvs,⟨k,v⟩,hq,hx⟩:=hg;obtain⟨vs,es',ep',r,_,_,hdat',hsz,da⟩:=ZiY I hq;obtain⟨rfl,rfl⟩:=Zjd hdat hdat';obtain⟨u,hu,ru⟩:=r.get hx;have st':IsItemIter s.heap it a i vs.length ep ok ov:=by rw[<- r.length,<- hsz];exact st
  refine wpAny_pyNext_items_item st' da hu fun key h' hkey ho ht hz hk=>?_;refine⟨_,rfl,wpAny_letOwnedTupleGo_items ho fun h'' he hs=>?_⟩;have lt:it<s.heap.objs.size:=Yah st;have live:∀ b∈[it],b<s.heap.objs.size:=fun b hb=>by
   have e:b=it:=by simpa using hb
   rw[e];exact lt
  have hsz':s.heap.objs.size≠it:=Yby lt;have fresh:H s.heap.objs.size=none:=I.hok.fresh (Yag _);refine⟨.ref s.heap.objs.size,_,I.pairOut (fp:=[it]) (tk:=s.toks) hf (fun b o hb q=>?_) ((hs.2 _ hsz').trans ht) live (fun b hb=>?_) (Zm4 hkey) ru,rfl,⟨s.heap.objs.size,k,v,fresh,rfl,rfl,fun kvs' h'=>?_⟩,⟨key,u,?_⟩,fun b hb=>?_⟩
  ·have hb:b≠it:=by simpa using hb
   exact (hs.2 b hb).trans (hk b o hb q)
  ·have e:b=it:=by simpa using hb
   rw[e];exact⟨_,he⟩
  ·rw[hq] at h';cases h';exact hx
  ·rw[hsz,r.length];exact he
  ·rw[Zaf (YaB (live b hb))];exact (hf b hb).1
 done:=by
  intro X hP hw hK hc i pins s σ H E I hf st hg;subst hP hw hK;obtain⟨ok,ov,st⟩:=st;obtain⟨kvs,hq,hx⟩:=hg;obtain⟨vs,es',ep',r,_,_,hdat',hsz,da⟩:=ZiY I hq;obtain⟨rfl,rfl⟩:=Zjd hdat hdat';have st':IsItemIter s.heap it a i vs.length ep ok ov:=by rw[<- r.length,<- hsz];exact st
  obtain⟨f0,f1,f2,f3,f4,f5⟩:=hf it (by simp);exact wpAny_pyNext_items_end (I.ok.hd hc) st' da (Ycu (by rw[<- r.length];exact hx)) fun h' eb=>⟨rfl,I.turned (t':=s.toks) (fun b o hb q=>eb b o hb q) f0 f1 f3 f4 f5⟩
 self:=fun _ _ _ _ _ st h=>by
  obtain⟨ok,ov,st⟩:=st;exact PySem.W.kcp_self st h
section
variable {X:Cx}
def Zm8 (tl:TE):TI:=fun σ H R=>tl σ H fun x H1=>∃ v a o kvs,x=.ref v/\H1 v=some (VwI v a)/\H1 a=some (.frz o (.dK kvs))/\R (Itd o a) H1
theorem Zgn {xs:List Expr}{x1}{tpos:Pos}{l:Expr}{tl:TE} (hl:PE X l tl):PI X (.Tuple xs x1 tpos) l (Zm8 tl):=by
 intro pins s σ H R I h;refine thn (hl pins s σ H _ I h) fun v s1 ⟨x,H1,I1,r1,vw,a,o,kvs,e,hv,hq,q⟩=>?_;subst e;cases r1;obtain⟨vs,es,ep,r,_,_,hdat,hsz,da⟩:=ZiY I1 hq;refine wpAny_pyIter_items (ZkJ I1 hv) da ?_;refine⟨s1.heap.objs.size,[s1.heap.objs.size],_,_,H1,rfl,I1.kept (t':=s1.toks) fun b o e=>Yab _ e,ZgR a _ o es ep hdat,⟨.none,.none,?_⟩,fun b hb=>?_,q⟩
 ·rw[hsz,r.length];exact Yav _ rfl
 ·have e:b=s1.heap.objs.size:=by simpa using hb
  subst e;exact I1.fpOk (Yag _) (I1.hok.fresh (Yag _))
end
theorem ZiZ {o:Obj}{a:Addr}{kvs:List (Key × V)}{g:TG}{tb:TS}{D:Ends}{σ:St}{H:Hp} (Pv:Nat->St->Hp->Prop) (h0:Pv 0 σ H) (hl:∀ i σ H,i<=kvs.length->Pv i σ H->H a=some (.frz o (.dK kvs)))
  (hs:∀ i k v p σ H,kvs[i]?=some (k,v)->Pv i σ H->H p=none->g (.ref p) σ (upd H p (.tup [kV k,v])) fun σ2 H2=>tb { D with nx:=Pv (i+1),ct:=Pv (i+1),bk:=D.nx } σ2 H2) (hd:∀ σ H,Pv kvs.length σ H->D.nx σ H) :
  ∃ W:Nat->Nat->St->Hp->Prop,(∃ m,W 0 m σ H)/\∀ i m σ H,W i m σ H ->
   ((Itd o a).stop i H/\D.nx σ H)∨((Itd o a).go i H/\∃ N:St->Hp->Prop,(∀ σ' H',N σ' H'->∃ m',m'<m/\W (i+1) m' σ' H')/\∀ x H',(Itd o a).yld i H x H'->g x σ H' fun σ2 H2=>tb { D with nx:=N,ct:=N,bk:=D.nx } σ2 H2):=by
 refine⟨fun i m σ H=>m=kvs.length - i/\i<=kvs.length/\Pv i σ H,⟨kvs.length,by simp,YaV _,h0⟩,?_⟩;rintro i m σ H ⟨rfl,hi,p⟩;have q:=hl i σ H hi p;by_cases hlt:i<kvs.length
 ·refine .inr ⟨⟨kvs,kvs[i],q,Yaf hlt⟩,Pv (i+1),fun σ' H' z=>⟨kvs.length - (i+1),by (clear hi;omega),rfl,hlt,z⟩,fun x H' y=>?_⟩;obtain⟨pa,k,v,hp,e1,e2,y⟩:=y;subst e1 e2;exact hs i k v pa σ H (y kvs q) p hp
 ·obtain rfl:i=kvs.length:=by omega
  exact .inl ⟨⟨kvs,q,Yag _⟩,hd σ H p⟩
section
variable {prog:Program}{w:World}{A:Around}{R:Result->Shared->Prop}{s:Shared}
theorem ZbE {kx vx target iter:Expr}{ifs:List Expr}{scope:Scope}{pos:Pos}{it:Value}{D:Addr}{env:Env} (I:Nat->Shared->Prop)
  (turn:∀ n s,I n s->wpAny (model prog w) A (pyNext it) (fun r s₁=>match r with
   | none=>R (.ok .next) s₁
   | some v=>wpAny (model prog w) A (letOwnedTupleGo target it v) (fun _ s₁'=>wpAny (model prog w) A (assign target env v) (fun _ s₂=>
     wpAny (model prog w) A (forIn ifs true fun c r=>if r=true then do let ok <- isTrue c env (eval c env);pure (Ya4 ok) else pure (Ya4 r)) (fun ok s₃=>
      if ok=true then wpAny (model prog w) A (eval kx env) (fun kv s₄=>wpAny (model prog w) A (eval vx env) (fun vv s₅=>
       wpAny (model prog w) A (dictSet D kv vv) (fun _ s₆=>∃ m,m<n/\I m s₆) (fun _ _=>False) s₅) (fun _ _=>False) s₄) (fun _ _=>False) s₃
      else ∃ m,m<n/\I m s₃) (fun _ _=>False) s₂) (fun _ _=>False) s₁') (fun _ _=>False) s₁) (fun _ _=>False) s)
  (n:Nat) (h:I n s) :
  codeAny (model prog w) A (.compLoop (.DictComp kx vx [⟨target,iter,ifs,0⟩] scope pos) 0 it (.ref D) env) R s:=by
 refine codeAny_loop rfl I (fun n s hI=>?_) n h;show wpAny _ A ((compTurn (.DictComp kx vx [⟨target,iter,ifs,0⟩] scope pos) 0 it (.ref D) env).onRaise (fun x=>do noteFrame x env;theTreesLotGoes x)) _ _ s;refine wpAny_noted ?_;rw[compTurn_dict];refine wpAny_bind (wpAny_standAt (wpAny_bind (wpAny_mono (turn n s hI) (fun r s₁ h₁=>?_) fun _ _ h'=>h'.elim)))
 cases r with
 | none=>exact wpAny_pure h₁
 | some v=>
  refine wpAny_bind (wpAny_mono h₁ (fun _ s₁' h₁=>?_) fun _ _ h'=>h'.elim);refine wpAny_bind (wpAny_mono h₁ (fun _ s₂ h₂=>wpAny_bind (wpAny_mono h₂ (fun ok s₃ h₃=>?_) fun _ _ h'=>h'.elim)) fun _ _ h'=>h'.elim)
  cases ok with
  | false=>exact wpAny_pure ⟨rfl,h₃⟩
  | true=>
   exact wpAny_bind (wpAny_bind (wpAny_mono h₃ (fun kv s₄ h₄=>wpAny_bind (wpAny_holding (wpAny_mono h₄ (fun vv s₅ h₅=>wpAny_bind (wpAny_standAt (wpAny_holding (wpAny_mono h₅ (fun _ s₆ h₆=>wpAny_pure ⟨rfl,h₆⟩) fun _ _ h'=>h'.elim)))) fun _ _ h'=>h'.elim))) fun _ _ h'=>h'.elim))
end
section
variable {X:Cx}{pins:List (Addr × Obj)}{σ:St}{H H':Hp}{s s':Shared}{scope:Scope}{own:List Str}{js:List Nat}{C:Addr}{fp:List Addr}
theorem Zhq {ob:HO}{acc:Addr}{m:Str->Option Value}{tk:Nat}{h':Heap} (c:CompOk X scope own js) (I:Inv X pins σ H s) (hC:s.heap.objs.size<=C) (hf:∀ b∈fp,FpOk X pins H b) (ho:∀ b∈fp,∃ o,s.heap.get? b=some o)
  (hn:h'.Ns C m) (k:∀ b u,s.heap.get? b=some u->h'.get? b=some u) (hacc:s.heap.objs.size<=acc) (haC:acc≠C) (new:ObjOk X.prog X.w (upd H acc ob) h' acc ob) :
  Inv (X.blk scope own js s H C fp pins) [] (blkσ own js σ) (upd H acc ob) { s with heap:=h',toks:=tk }:=by
 have ok:=Zk5 c I hC hf ho;have fresh:∀ {a:Addr},s.heap.objs.size<=a->H a=none:=fun h=>I.hok.fresh h;have neA:∀ b o,s.heap.get? b=some o->b≠acc:=fun b o e=>YaB (Yak (Yah e) hacc);refine⟨ok,rfl,I.bare,Un.laid k hacc (fresh hacc),⟨m,hn,fun i x v e1 e2 e3=>?_⟩,fun x a e=>?_,?_,fun x a e=>?_,fun p hp=>?_,I.hok.laid k hacc new,Zc7 own js σ X⟩
 ·
  have hi:own.length<=i:=by
   refine YdK fun hi=>?_;unfold blkσ at e2;rw[YaL (by simpa using hi),Yas] at e2
   cases q:own[i]? with
   | none=>rw[q] at e2;cases e2
   | some z=>rw[q] at e2;cases e2
  have e1':(js.map fun j=>X.N.getD j YcE)[i - own.length]?=some x:=by
   have e1:(own++js.map fun j=>X.N.getD j YcE)[i]?=some x:=e1
   rwa [YaI hi] at e1
  have e2':(js.map fun j=>(σ[j]?).join)[i - own.length]?=some (some v):=by
   unfold blkσ at e2;rw[YaI (by simpa using hi)] at e2;simpa using e2
  rw[Yas] at e1' e2'
  cases q:js[i - own.length]? with
  | none=>rw[q] at e1';cases e1'
  | some j=>
   rw[q] at e1' e2';obtain⟨x',hx',hfree⟩:=c.out j (YaE q);have ex:x'=x:=by
    have:X.N.getD j YcE=x:=Yaw e1';rw[YaC,hx'] at this;exact this
   subst ex;have eσ:σ[j]?=some (some v):=by
    have e2'':(σ[j]?).join=some v:=Yaw e2'
    cases r:σ[j]? with
    | none=>rw[r] at e2'';cases e2''
    | some z=>rw[r] at e2'';cases z with
     | none=>cases e2''
     | some y=>cases e2'';rfl
   have hmem:(x',YbR)∈scope.names:=Ybs hfree;have hkX:=c.free _ hmem rfl;have vis:Vis X.env.scope x':=by
    rcases hkX with z | z
    ·exact .inr (.inl z)
    ·exact .inr (.inr z)
   obtain⟨m0,hn0,hl0⟩:=I.loc;obtain⟨u,r,l⟩:=hl0 j x' v hx' eσ vis;refine⟨u,r,.inr ⟨Zbm hfree,?_⟩⟩;obtain⟨a,ha⟩:=ZgJ (env:=X.env) scope.names [] hmem;refine⟨a,ha,?_⟩;have haX:=c.look I ha;rcases l with ⟨z,_⟩ | ⟨_,a',ha',⟨o,ho',hd⟩⟩
   ·have z:X.env.kindOf x'=some .local:=z;rcases hkX with y | y
    ·have y:X.env.kindOf x'=some .cell:=y;rw[z] at y;cases y
    ·have y:X.env.kindOf x'=some .free:=y;rw[z] at y;cases y
   ·rw[haX] at ha';cases ha';exact⟨o,k _ o ho',hd⟩
 ·obtain⟨v,o,ho',hd⟩:=I.cell x a (c.look I e);exact⟨v,o,k _ o ho',hd⟩
 ·show upd H acc ob C=none;rw[Zaf (Yba haC)];exact fresh hC
 ·have e':=c.look I e;obtain⟨v,o,ho',hd⟩:=I.cell x a e';rw[Zaf (neA a o ho')];exact I.freeC x a e'
 ·have hp:p∈X.pn++pins:=by simpa[Cx.blk] using hp
  obtain⟨e,n,ne,nf,d⟩:=I.pin p hp;refine⟨k _ _ e,by rw[Zaf (neA _ _ e)];exact n,YaB (Yak (Yah e) hC),fun z=>?_,d⟩;rcases Yau.mp (I.stkSub _ z) with q | q
  ·exact ne q
  ·exact nf q
end
theorem Zjf {X:Cx}{pins:List (Addr × Obj)}{σ:St}{H:Hp}{s:Shared}{a:Addr}{kvs:List (Key × V)}{k:Key}{v:V}{u r:Value}{A:Around}{E:Value->Shared->Prop}{Q:Unit->Shared->Prop} (I:Inv X pins σ H s) (e:H a=some (.dK kvs)) (l:kvs.length<sizeLine) (ry:RelV (kV k) u) (rv:RelV v r) (h:∀ s',Inv X pins σ (upd H a (.dK (putK kvs k v))) s'->Q () s') :
  wpAny (model X.prog X.w) A (dictSet a u r) Q E s:=by
 obtain⟨z,hd,vs,rel,dd⟩:=Zl6 I.hok e;have hz:vs.length<=sizeLine:=by rw[<- rel.length];exact z
 have hl:(putK kvs k v).length<=sizeLine:=by have:=Zbg kvs k v;(clear hz z;omega)
 refine wpAny_dictSet_pairs (hsz:=hz) (ZiM ry) dd fun h' dd' hs=>h _ ?_;have he:∃ q,h'.get? a=some q:=let ⟨q,_,_,hq,_⟩:=dd';⟨q,hq⟩
 exact Zez I (by rw[e];exact Yb1) hs he (ZgF hl hd (rel.put k rv) dd')
def Zfu (own:List Str) (js:List Nat) (g:TG) (tt:TT) (tk tv:TE) (σ:St) (J:It) (H1:Hp) (Q:VK):Prop :=
 ∀ acc,H1 acc=none->∃ (W:Nat->Hp->Prop) (n:Nat),W 0 (upd H1 acc (.dK []))/\∀ i H2,W i H2 ->
  (J.stop i H2/\Q (.ref acc) H2)∨(i<n/\J.go i H2/\∀ x H3,J.yld i H2 x H3->g x (blkσ own js σ) H3 fun τ H4=>tt τ H4 fun c H5=>
   if c=true then tk τ H5 fun y H6=>tv τ H6 fun z H7=>∃ k kvs,y=kV k/\H7 acc=some (.dK kvs)/\kvs.length<sizeLine/\W (i+1) (upd H7 acc (.dK (putK kvs k z))) else W (i+1) H5)
def Zmo (own:List Str) (js:List Nat) (wi:TI) (g:TG) (tt:TT) (tk tv:TE):TE:=fun σ H Q=>wi σ H fun J H1=>Zfu own js g tt tk tv σ J H1 Q
section
variable {X:Cx}{scope:Scope}{own:List Str}{js:List Nat}{kx vx iter target:Expr}{ifs:List Expr}{wi:TI}{g:TG}{tt:TT}{tk tv:TE}{pos:Pos}
theorem ZkF {pins:List (Addr × Obj)}{σ:St}{H2:Hp}{s₂:Shared}{it:Addr}{fp:List Addr}{tn:Nat->Heap->Prop}{J:It}{Q:VK}{E:Value->Shared->Prop}{RR:Value->Addr->Result->Shared->Prop}
  (c:CompOk X scope own js) (hc:X.calm=true) (hgk:Zfn own g)
  (hg:∀ s H C fp pins,PG (X.blk scope own js s H C fp pins) target g) (ht:∀ s H C fp pins,PTs (X.blk scope own js s H C fp pins) ifs tt) (hk:∀ s H C fp pins,PE (X.blk scope own js s H C fp pins) kx tk) (hv:∀ s H C fp pins,PE (X.blk scope own js s H C fp pins) vx tv)
  (I:Inv X pins σ H2 s₂) (T:Turn X.prog X.w X.K target J fp it tn) (st:tn 0 s₂.heap) (hf:∀ b∈fp,FpOk X pins H2 b) (h:Zfu own js g tt tk tv σ J H2 Q)
  (hRR:∀ acc C H' s' m,s₂.heap.objs.size<=C->H' C=none->Inv X pins σ H' s'->s'.heap.Ns C m->Q (.ref acc) H'->RR (.ref acc) C (.ok .next) s') :
  wpAny (model X.prog X.w) X.A newDict (fun acc s₃=>wpAny (model X.prog X.w) X.A (newFunctionEnv scope X.env.globals (clOf scope X.env) [] X.env.qual none .none (some X.env)) (fun cenv s₄=>
   codeAny (model X.prog X.w) X.A (.compStart (.DictComp kx vx [⟨target,iter,ifs,0⟩] scope pos) 0 (.ref it) acc { cenv with scope:=relabel scope X.env }) (RR acc cenv.locals) s₄) E s₃) E s₂:=by
 refine wpAny_newObj_type (wpAny_newFunctionEnv c.cell (by intro y hy;simp at hy) (fun h₁ hns₁ hsb₁=>?_) c.kind);dsimp only at hns₁ hsb₁ ⊢;generalize hH2:s₂.heap.push { cls:=.type "dict",dict:=none,data:=.dict #[] }=G2 at hns₁ hsb₁ ⊢;have hC:G2.objs.size=s₂.heap.objs.size+1:=by rw[<- hH2,Ybj]
 have hDC:s₂.heap.objs.size≠G2.objs.size:=by rw[hC];exact YaB (YbF _)
 have hCle:s₂.heap.objs.size<=G2.objs.size:=by rw[hC];exact Yc0 _
 have old:∀ b o,s₂.heap.get? b=some o->h₁.get? b=some o:=fun b o e=>hsb₁.extBut b o (YaB (Yak (Yah e) hCle)) (Yab _ (hH2 ▸ Yab _ e));have hacc:ObjOk X.prog X.w (upd H2 s₂.heap.objs.size (.dK [])) h₁ s₂.heap.objs.size (.dK []):=by
  refine (Zey (H:=upd H2 s₂.heap.objs.size (.dK [])) s₂.heap I.big).stay (h':=h₁) (fun b u hb e=>?_) (fun _ q=>q) fun _ _ q=>q;have hb':b≠G2.objs.size:=by
   have:=Yah e;rw[hC];rw[Ybj] at this;exact YaB this
  exact hsb₁.extBut _ _ hb' (Yab _ (hH2 ▸ e))
 have ho2:∀ b∈fp,∃ o,s₂.heap.get? b=some o:=fun b hb=>let ⟨o,e,_⟩:=T.obj 0 _ st b hb;⟨o,e⟩
 have I0:∀ tk,Inv (X.blk scope own js s₂ H2 G2.objs.size fp pins) [] (blkσ own js σ) (upd H2 s₂.heap.objs.size (.dK [])) { s₂ with heap:=h₁,toks:=tk }:=fun tk=>
  Zhq c I hCle hf ho2 hns₁ old (Yag _) hDC hacc
 obtain⟨W,nn,w0,turn⟩:=h s₂.heap.objs.size (I.hok.fresh (Yag _));generalize hacc':s₂.heap.objs.size=acc at *;generalize hGC:G2.objs.size=C at *;have st1:tn 0 h₁:=T.keep 0 _ _ st fun b _ o e=>old b o e;have fOk:∀ {H':Hp},(∀ b∈fp,H' b=none)->∀ b∈fp,FpOk (X.blk scope own js s₂ H2 C fp pins) [] H' b:=fun hn b hb=>by
  obtain⟨f0,f1,f2,f3,f4,f5⟩:=hf b hb;obtain⟨o,e⟩:=ho2 b hb;refine⟨hn b hb,YaB (Yak (Yah e) (by rw[<- hacc'] at hCle;exact hCle)),fun z=>?_,.inl hb,fun x a h=>f4 x a (c.look I h),fun p hp=>f5 p (by simpa[Cx.blk] using hp)⟩;rcases Yau.mp (I.stkSub b z) with q | q
  ·exact f1 q
  ·exact f2 q
 have loop:∀ s₃:Shared,s₃={ s₂ with heap:=h₁,toks:=s₂.toks+([]:List (Str × Value)).length } ->
   codeAny (model X.prog X.w) X.A (.compLoop (.DictComp kx vx [⟨target,iter,ifs,0⟩] scope pos) 0 (.ref it) (.ref acc) (compEnvC scope (clOf scope X.env) C X.env)) (RR (.ref acc) C) s₃:=by
  rintro s₃ rfl;refine ZbE (fun n s'=>∃ i H',n=nn - i/\Inv (X.blk scope own js s₂ H2 C fp pins) [] (blkσ own js σ) H' s'/\tn i s'.heap/\(∀ b∈fp,H' b=none)/\W i H') ?_ nn ⟨0,_,rfl,I0 _,st1,fun b hb=>?_,w0⟩
  ·rintro n s3 ⟨i,H3,en,I3,st3,fr3,w3⟩;rcases turn i H3 w3 with ⟨stop,qn⟩ | ⟨hin,go,step⟩
   ·refine thn (T.done (X.blk scope own js s₂ H2 C fp pins) rfl rfl rfl hc i [] s3 _ H3 (fun _ _=>False) I3 (fOk fr3) st3 stop) fun r s4 ⟨hr,I4⟩=>?_;subst hr;obtain⟨m,hn,_⟩:=I4.loc;exact hRR acc C H3 s4 m hCle I4.free (Zf1 I hf I4) hn qn
   ·refine thn (T.item (X.blk scope own js s₂ H2 C fp pins) rfl rfl rfl hc i [] s3 _ H3 (fun _ _=>False) I3 (fOk fr3) st3 go) fun r s4 ⟨u,hr,h4⟩=>?_;subst hr;refine thn h4 fun _ s5 ⟨x,H5,I5,r5,y5,st5,fr5⟩=>?_;have I5':=I5.pinned (fOk fr5) (T.obj _ _ st5);have again:∀ {σ7:St}{H7:Hp}{s7:Shared},Inv (X.blk scope own js s₂ H2 C fp pins) ([]++Zcw fp s5.heap) σ7 H7 s7->(∀ (j:Nat) v,(blkσ own js σ)[j]?=some (some v)->σ7[j]?=some (some v))->W (i+1) H7 ->
      ∃ m,m<n/\∃ i H',m=nn - i/\Inv (X.blk scope own js s₂ H2 C fp pins) [] (blkσ own js σ) H' s7/\tn i s7.heap/\(∀ b∈fp,H' b=none)/\W i H':=fun {σ7 H7 s7} I7 hw w7=>by
     refine⟨nn - (i+1),by (clear hCle hDC hC hGC hacc';omega),i+1,H7,rfl,(I7.unpinned).weak ((Zc7 own js σ X).trans I7.len.symm) hw,T.keep _ _ _ st5 fun b hb o e=>(I7.pin (b,o) (Yao _ (Yao _ (ZaF hb e)))).1,fun b hb=>?_,w7⟩;obtain⟨o,e,d⟩:=T.obj _ _ st5 b hb;exact (I7.pin (b,o) (Yao _ (Yao _ (ZaF hb e)))).2.1
    refine thn (hg s₂ H2 C fp pins _ s5 _ H5 x u _ I5' r5 (hgk _ _ _ _ _ (step x H5 y5))) fun _ s6 ⟨σ6,H6,I6,kp,q6⟩=>?_;refine thn (ht s₂ H2 C fp pins _ s6 σ6 H6 _ I6 q6) fun ok s7 ⟨H7,I7,q7⟩=>?_
    cases ok with
    | false=>
     exact again I7 kp q7
    | true=>
     refine thn (hk s₂ H2 C fp pins _ s7 σ6 H7 _ I7 q7) fun y s8 ⟨v,H8,I8,r8,q8⟩=>?_;refine thn (hv s₂ H2 C fp pins _ s8 σ6 H8 _ I8 q8) fun z s9 ⟨zv,H9,I9,r9,k,kvs,ek,hl,hz,w9⟩=>?_;subst ek;exact Zjf (X:=X.blk scope own js s₂ H2 C fp pins) I9 hl hz r8 r9 fun s10 I10=>again I10 kp w9
  ·rw[Zaf ?_]
   ·exact (hf b hb).1
   ·obtain⟨o,e⟩:=ho2 b hb;rw[<- hacc'];exact YaB (Yah e)
 exact codeAny_compStart_dict (loop _ rfl) (T.self _ 0 _ _ _ st1 (loop _ rfl))
theorem Zj5 (c:CompOk X scope own js) (hc:X.calm=true) (hi:PI X target iter wi) (hgk:Zfn own g)
  (hg:∀ s H C fp pins,PG (X.blk scope own js s H C fp pins) target g) (ht:∀ s H C fp pins,PTs (X.blk scope own js s H C fp pins) ifs tt) (hk:∀ s H C fp pins,PE (X.blk scope own js s H C fp pins) kx tk) (hv:∀ s H C fp pins,PE (X.blk scope own js s H C fp pins) vx tv)
  (hs:∀ x,foldedSetIterable iter X.env x=pure x:=by intro _;rfl):PE X (.DictComp kx vx [⟨target,iter,ifs,0⟩] scope pos) (Zmo own js wi g tt tk tv):=by
 intro pins s σ H Q I h;rw[arm_eval_DictComp];refine wpAny_comprehension_free (use:=none) rfl hs (ZbC (c.cl I)) c.kind c.names (thn (hi pins s σ H _ I h) fun v s1 h1=>thn h1 fun itv s2 h2=>?_);obtain⟨it,fp,tn,J,H2,e,I2,T,st2,f2,hw⟩:=h2;subst e;refine ZkF (RR:=fun acc C=>compPost (model X.prog X.w) X.A X.xe none (EP X pins σ Q) acc C) c hc hgk hg ht hk hv I2 T st2 f2 hw ?_;intro acc C H' s' m hCs hCn I' hn q;refine⟨m,hn,fun h' hs'=>⟨.ref acc,H',I'.other hs' hCn ?_ ?_ ?_ ?_,rfl,q⟩⟩
 ·exact Yby (Yak I2.lt hCs)
 ·exact Ybt I2.sz hCs
 ·intro x a e z;obtain⟨v,q⟩:=I2.cell x a e;exact absurd (Yak q.lt (by rw[z];exact hCs)) (Ybb _)
 ·intro p hp z;exact absurd (Yak (Yah (I2.pin p hp).1) (by rw[z];exact hCs)) (Ybb _)
end
theorem ZfV {o:Obj}{own:List Str}{js:List Nat}{g:TG}{tt:TT}{tk tv:TE}{σ:St}{H1:Hp}{Q:VK}{a:Addr}{kvs:List (Key × V)} (Pv:Addr->Nat->Hp->Prop) (h0:∀ acc,H1 acc=none->Pv acc 0 (upd H1 acc (.dK []))) (hl:∀ acc i H,H1 acc=none->i<=kvs.length->Pv acc i H->H a=some (.frz o (.dK kvs)))
  (hs:∀ acc i k v p H,H1 acc=none->kvs[i]?=some (k,v)->Pv acc i H->H p=none->g (.ref p) (blkσ own js σ) (upd H p (.tup [kV k,v])) fun τ H4=>tt τ H4 fun c H5=>
   if c=true then tk τ H5 fun y H6=>tv τ H6 fun z H7=>∃ k kvs',y=kV k/\H7 acc=some (.dK kvs')/\kvs'.length<sizeLine/\(i+1<=kvs.length/\Pv acc (i+1) (upd H7 acc (.dK (putK kvs' k z)))) else (i+1<=kvs.length/\Pv acc (i+1) H5))
  (hd:∀ acc H,H1 acc=none->Pv acc kvs.length H->Q (.ref acc) H):Zfu own js g tt tk tv σ (Itd o a) H1 Q:=by
 intro acc hacc;refine⟨fun i H=>i<=kvs.length/\Pv acc i H,kvs.length,⟨YaV _,h0 acc hacc⟩,?_⟩;rintro i H ⟨hi,p⟩;have q:=hl acc i H hacc hi p;by_cases hlt:i<kvs.length
 ·refine .inr ⟨hlt,⟨kvs,kvs[i],q,Yaf hlt⟩,fun x H' y=>?_⟩;obtain⟨pa,k,v,hp,e1,e2,y⟩:=y;subst e1 e2;exact hs acc i k v pa _ hacc (y kvs q) p hp
 ·obtain rfl:i=kvs.length:=by omega
  exact .inl ⟨⟨kvs,q,Yag _⟩,hd acc H hacc p⟩
theorem Zf0 {X:Cx}:Zca X (.type "dict") (fun xs H Q=>∃ a kvs,xs=[.ref a]/\Rd H a (.dK kvs)/\∀ p,H p=none->Q (.ref p) (upd H p (.dK kvs))):=by
 intro pins s σ H xs us Q I r h;obtain⟨a,kvs,rfl,e,q⟩:=h;obtain⟨u,rfl,r1⟩:=ZdU r;cases r1;exact ZkD I e fun p s' hp I'=>⟨.ref p,_,I',rfl,q p hp⟩
end L2
namespace L2
open PySem PyProof.Rows
structure KO extends KeyOrd where
 ky:Keyed->α
namespace KO
variable {O:KO}{x y z:Keyed}
def le (O:KO) (x y:Keyed):Prop:=O.blt (O.ky y) (O.ky x)=false
theorem le_refl:O.le x x:=O.irrefl _
theorem le_trans (h1:O.le x y) (h2:O.le y z):O.le x z:=Ycv (O:=O.toKeyOrd) h1 h2
theorem le_of_lt (h:O.blt (O.ky x) (O.ky y)=true):O.le x y:=KeyOrd.klt_asymm (O:=O.toKeyOrd) h
abbrev Srt (O:KO) (l:List Keyed):Prop:=l.Pairwise O.le
end KO
def ZfQ:Bool->Keyed->Array Keyed->Nat->Nat->Nat->StateT SortSt Sem (Option Nat):=sortPriv% PySem.Builtin.gallop
def Zko:Array Keyed->Array Keyed->StateT SortSt Sem (Array Keyed):=sortPriv% PySem.Builtin.mergeLo
def Zkp:Array Keyed->Array Keyed->StateT SortSt Sem (Array Keyed):=sortPriv% PySem.Builtin.mergeHi
def ZgY:Nat->StateT SortSt Sem Unit:=sortPriv% PySem.Builtin.setMinGallop
section
variable {prog:Program}{w:World}{A:Around}{E:Value->Shared->Prop}{s:Shared}{O:KO}{knd:SortKind}{ok:Keyed->Prop}{st:SortSt}
def Asks (prog:Program) (w:World) (A:Around) (s:Shared) (O:KO) (knd:SortKind) (ok:Keyed->Prop):Prop :=
 ∀ x y,ok x->ok y->∀ (E:Value->Shared->Prop) (Q:Bool->Shared->Prop),Q (O.blt (O.ky x) (O.ky y)) s->wpAny (model prog w) A (keyLt' knd x.1 y.1) Q E s
theorem ZeE {x y:Keyed}{Q:Option Bool->SortSt->Prop} (hA:Asks prog w A s O knd ok) (hk:kindOf st=knd) (hx:ok x) (hy:ok y) (h:Q (some (O.blt (O.ky x) (O.ky y))) st):wpS (model prog w) A E s (lt' x y) Q st:=by
 rw[lt'_eq];refine wpS_bind (wpS_get ?_);rw[hk];refine wpS_bind (wpS_lift (wpAny_attempt (hA x y hx hy _ _ ⟨rfl,?_⟩)));exact wpS_pure h
theorem Zao {arr:Array Keyed}{i:Nat}{x:Keyed}{Q:Keyed->SortSt->Prop} (e:arr[i]?=some x) (h:Q x st):wpS (model prog w) A E s (elem' arr i) Q st:=by
 rw[elem'_eq,e];exact wpS_pure h
def Zjp (left:Bool) (key:Keyed) (arr:Array Keyed) (base i:Nat):StateT SortSt Sem (Option Bool) :=
 elem' arr (base+i) >>= fun x=>if left=true then lt' x key else lt' key x >>= fun r=>pure (r.map (! ·))
theorem Zdg {left:Bool}{key:Keyed}{arr:Array Keyed}{base n hint:Nat}{Q:Option Nat->SortSt->Prop} (hA:Asks prog w A s O knd ok) (hk:kindOf st=knd) (hkey:ok key) (B:Nat->Bool)
    (hB:∀ i,i<n->∃ x,arr[base+i]?=some x/\ok x/\B i=if left=true then O.blt (O.ky x) (O.ky key) else !(O.blt (O.ky key) (O.ky x)))
    (mono:∀ i j,i<=j->j<n->B j=true->B i=true) (hh:hint<n)
    (h:∀ k,k<=n->(∀ i,i<k->B i=true)->(∀ i,k<=i->i<n->B i=false)->Q (some k) st):wpS (model prog w) A E s (ZfQ left key arr base n hint) Q st:=by
  have bey:∀ i,i<n->∀ {Q':Option Bool->SortSt->Prop},Q' (some (B i)) st->wpS (model prog w) A E s (Zjp left key arr base i) Q' st:=by
    intro i hi Q' hq;obtain⟨x,e,hx,eb⟩:=hB i hi;refine wpS_bind (Zao e ?_);rw[eb] at hq
    cases left with
    | true=>simp only[if_true] at hq ⊢;exact ZeE hA hk hx hkey hq
    | false=>
      simp only[YaR,if_false] at hq ⊢;exact wpS_bind (ZeE hA hk hkey hx (wpS_pure hq))
  have monoF:∀ i j,i<=j->j<n->B i=false->B j=false:=by
    intro i j hij hj hf
    cases e:B j with
    | false=>rfl
    | true=>rw[mono i j hij hj e] at hf;cases hf
  have jp:∀ lo hi,lo<=hi->hi<=n->(∀ i,i<lo->B i=true)->(∀ i,hi<=i->i<n->B i=false) ->
      wpS (model prog w) A E s (forIn [:n] ((none : Option (Option Nat)), lo, hi) fun _ c => if c.2.1 ≥ c.2.2 then pure (Yca (none, c.2.1, c.2.2)) else Zjp left key arr base (c.2.1 + (c.2.2 - c.2.1) / 2) >>= fun x => match x with
          | some more=>if more=true then pure (Ya4 (none,c.2.1+(c.2.2 - c.2.1) / 2+1,c.2.2)) else pure (Ya4 (none,c.2.1,c.2.1+(c.2.2 - c.2.1) / 2))
          | _=>pure (Yca (some none,c.2.1,c.2.2)))
        (fun c st'=>st'=st/\∃ l k,c=(none,l,k)/\Q (some k) st) st:=by
    intro lo hi hle hin hlo hhi;refine wpS_forRange (I:=fun x c st'=>st'=st/\∃ l k,c=(none,l,k)/\l<=k/\k<=n/\k - l<=n - x/\(∀ i,i<l->B i=true)/\(∀ i,k<=i->i<n->B i=false)) ?step ?fin ⟨rfl,lo,hi,rfl,hle,hin,by (clear hle hh;omega),hlo,hhi⟩
    case fin=>
      rintro c st' ⟨rfl,l,k,rfl,h1,h2,h3,h4,h5⟩;have e:l=k:=by (clear h2 hin hle hh;omega)
      subst e;exact⟨rfl,l,l,rfl,h l h2 h4 h5⟩
    case step=>
      rintro x c st' _ hx ⟨rfl,l,k,rfl,h1,h2,h3,h4,h5⟩;dsimp only;by_cases hge:l ≥ k
      · rw[if_pos hge];have e:l=k:=by (clear h3 h2 hx hin hle hh;omega)
        subst e;exact wpS_pure ⟨rfl,l,l,rfl,h l h2 h4 h5⟩
      · rw[if_neg hge];have hm:l+(k - l) / 2<k:=by (clear h3 h2 h1 hx hin hle hh;omega)
        refine wpS_bind (bey _ (by (clear hm h3 h1 hx hin hle hh;omega)) ?_)
        cases e:B (l+(k - l) / 2) with
        | true=>
          simp only[if_true];exact wpS_pure ⟨rfl,_,_,rfl,by (clear hm h3 h2 h1 hx hin hle hh;omega),h2,by (clear hm hge h2 h1 hx hin hle hh;omega),fun i hi=>mono i _ (by (clear hm hge h3 h2 h1 hx hin hle hh;omega)) (by (clear hi hm h3 h1 hx hin hle hh;omega)) e,h5⟩
        | false=>
          simp only[YaR,if_false];exact wpS_pure ⟨rfl,_,_,rfl,by (clear hm hge h3 h2 h1 hx hin hle hh;omega),by (clear hm hge h3 hx hin hle hh;omega),by (clear hm hge h2 h1 hx hin hle hh;omega),h4,fun i h6 h7=>monoF _ i h6 h7 e⟩
  refine wpS_bind (bey hint hh ?_);dsimp only
  cases e0:B hint with
  | true=>
    simp only[if_true];refine wpS_bind (wpS_mono (wpS_forRange (I:=fun x c st'=>st'=st/\∃ l k,c=((none:Option (Option Nat)),l,k)/\l<k/\x+1<=k/\hint+l<n/\B (hint+l)=true)
      (Q:=fun c st'=>st'=st/\∃ l k,c=((none:Option (Option Nat)),l,k)/\l<k/\hint+l<n/\B (hint+l)=true/\(n - hint<=k∨(hint+k<n/\B (hint+k)=false))) ?step ?fin ⟨rfl,0,1,rfl,by (clear hh;omega),by (clear hh;omega),hh,e0⟩) ?post)
    case fin=>
      rintro c st' ⟨rfl,l,k,rfl,h1,h2,h3,h4⟩;exact⟨rfl,l,k,rfl,h1,h3,h4,.inl (by (clear h3 h1 hh;omega))⟩
    case step=>
      rintro x c st' _ hx ⟨rfl,l,k,rfl,h1,h2,h3,h4⟩;dsimp only;by_cases hge:k ≥ n - hint
      · rw[if_pos hge];exact wpS_pure ⟨rfl,l,k,rfl,h1,h3,h4,.inl hge⟩
      · rw[if_neg hge];refine wpS_bind (bey (hint+k) (by (clear h3 h2 h1 hx hh;omega)) ?_)
        cases e:B (hint+k) with
        | true=>
          simp only[YcY,YaR,if_false];exact wpS_pure ⟨rfl,_,_,rfl,by (clear hge h3 h2 h1 hx hh;omega),by (clear hge h3 h1 hx hh;omega),by (clear h3 h2 h1 hx hh;omega),e⟩
        | false=>
          simp only[Bool.not_false,if_true];exact wpS_pure ⟨rfl,l,k,rfl,h1,h3,h4,.inr ⟨by (clear h3 h2 h1 hx hh;omega),e⟩⟩
    case post=>
      rintro c st' ⟨rfl,l,k,rfl,h1,h3,h4,h5⟩;dsimp only;refine wpS_bind (wpS_mono (jp (hint+l+1) (hint+min k (n - hint)) (by (clear h5 hh;omega)) (by (clear h5 h3 h1;omega)) (fun i hi=>mono i (hint+l) (by (clear h5 h3 h1 hh;omega)) h3 h4) (fun i h6 h7=>?_)) ?_)
      · rcases h5 with h5 | ⟨h5,h8⟩
        · (clear h3 h1 hh;omega)
        · exact monoF (hint+k) i (by (clear h5 h3 h1 hh;omega)) h7 h8
      · rintro c st' ⟨rfl,l,k,rfl,q⟩;exact wpS_pure q
  | false=>
    simp only[YaR,if_false];refine wpS_bind (wpS_mono (wpS_forRange (I:=fun x c st'=>st'=st/\∃ l k,c=((none:Option (Option Nat)),l,k)/\l<k/\x+1<=k/\l<=hint/\B (hint - l)=false)
      (Q:=fun c st'=>st'=st/\∃ l k,c=((none:Option (Option Nat)),l,k)/\l<k/\l<=hint/\B (hint - l)=false/\(hint+1<=k∨(k<=hint/\B (hint - k)=true))) ?step ?fin ⟨rfl,0,1,rfl,by (clear hh;omega),by (clear hh;omega),by (clear hh;omega),e0⟩) ?post)
    case fin=>
      rintro c st' ⟨rfl,l,k,rfl,h1,h2,h3,h4⟩;exact⟨rfl,l,k,rfl,h1,h3,h4,.inl (by (clear h3 h1;omega))⟩
    case step=>
      rintro x c st' _ hx ⟨rfl,l,k,rfl,h1,h2,h3,h4⟩;dsimp only;by_cases hge:k ≥ hint+1
      · rw[if_pos hge];exact wpS_pure ⟨rfl,l,k,rfl,h1,h3,h4,.inl hge⟩
      · rw[if_neg hge];refine wpS_bind (bey (hint - k) (by (clear hge h3 h2 h1 hx;omega)) ?_)
        cases e:B (hint - k) with
        | true=>
          simp only[if_true];exact wpS_pure ⟨rfl,l,k,rfl,h1,h3,h4,.inr ⟨by (clear h3 h2 h1 hx hh;omega),e⟩⟩
        | false=>
          simp only[YaR,if_false];exact wpS_pure ⟨rfl,_,_,rfl,by (clear hge h3 h2 h1 hx hh;omega),by (clear hge h3 h1 hx hh;omega),by (clear h3 h2 h1 hx hh;omega),e⟩
    case post=>
      rintro c st' ⟨rfl,l,k,rfl,h1,h3,h4,h5⟩;dsimp only;refine wpS_bind (wpS_mono (jp (hint+1 - min k (hint+1)) (hint - l) (by (clear h5 h3 hh;omega)) (by (clear h5 h3 h1;omega)) (fun i hi=>?_) (fun i h6 h7=>monoF _ i h6 h7 h4)) ?_)
      · rcases h5 with h5 | ⟨h5,h8⟩
        · (clear h3 h1 hh;omega)
        · exact mono i (hint - k) (by (clear h5 h3 h1 hh;omega)) (by (clear h5 hi h3 h1;omega)) h8
      · rintro c st' ⟨rfl,l,k,rfl,q⟩;exact wpS_pure q
end
section
variable {O:KO}{a b out:List Keyed}{ia ib:Nat}{x:Keyed}
theorem ZfT {l:List Keyed}{i:Nat}{x:Keyed} (e:l[i]?=some x):l.drop i=x::l.drop (i+1):=by
 obtain⟨h,rfl⟩:=Yaa.mp e;exact YcO h
theorem ZgB (a:Array Keyed) (i:Nat):(a.extract i a.size).toList=a.toList.drop i:=by
 rw[Ycz];simp only[Yet];exact Ybr (by simp)
theorem ZfS (a:Array Keyed) (i k:Nat):(a.extract i (i+k)).toList=(a.toList.drop i).take k:=by
 rw[Ycz];simp[Yet]
structure MI (O:KO) (a b out:List Keyed) (ia ib:Nat):Prop where
 perm:(out++(a.drop ia++b.drop ib)).Perm (a++b)
 srt:O.Srt out
 le:∀ x∈out,∀ y∈a.drop ia++b.drop ib,O.le x y
theorem Zgd (h:O.Srt out) (hx:∀ y∈out,O.le y x):O.Srt (out++[x]) :=
 YaQ.mpr ⟨h,Yef _ _,fun y hy z hz=>by rw[YaN.mp hz];exact hx y hy⟩
theorem MI.takeA (h:MI O a b out ia ib) (sa:O.Srt a) (e:a[ia]?=some x) (hb:∀ y∈b.drop ib,O.le x y):MI O a b (out++[x]) (ia+1) ib:=by
 have ed:=ZfT e;have sd:O.Srt (x::a.drop (ia+1)):=ed ▸ sa.drop;refine⟨?_,Zgd h.srt fun y hy=>h.le y hy x (by rw[ed];simp),fun y hy z hz=>?_⟩
 ·have p:=h.perm;rw[ed] at p;simpa using p
 ·rcases Yap.mp hy with hy | hy
  ·refine h.le y hy z ?_;rw[ed];rcases Yap.mp hz with hz | hz
   ·exact YaM _ (Yam _ hz)
   ·exact Yao _ hz
  ·rw[YaN.mp hy];rcases Yap.mp hz with hz | hz
   ·exact (YaS.mp sd).1 z hz
   ·exact hb z hz
theorem MI.takeB (h:MI O a b out ia ib) (sb:O.Srt b) (e:b[ib]?=some x) (ha:∀ y∈a.drop ia,O.le x y):MI O a b (out++[x]) ia (ib+1):=by
 have ed:=ZfT e;have sd:O.Srt (x::b.drop (ib+1)):=ed ▸ sb.drop;refine⟨?_,Zgd h.srt fun y hy=>h.le y hy x (by rw[ed];simp),fun y hy z hz=>?_⟩
 ·have p:=h.perm;rw[ed] at p;refine YcX ?_ p;rw[YaG];exact YbL _ (show List.Perm (x::(a.drop ia++b.drop (ib+1))) _ from YdE.symm)
 ·rcases Yap.mp hy with hy | hy
  ·refine h.le y hy z ?_;rw[ed];rcases Yap.mp hz with hz | hz
   ·exact YaM _ hz
   ·exact Yao _ (Yam _ hz)
  ·rw[YaN.mp hy];rcases Yap.mp hz with hz | hz
   ·exact ha z hz
   ·exact (YaS.mp sd).1 z hz
theorem ZeM {l:List Keyed}{i k:Nat}{x:Keyed} (e:l[i+k]?=some x):(l.drop i).take (k+1)=(l.drop i).take k++[x]:=by
 rw[List.take_succ,YcK,e];rfl
theorem MI.takeAs (h:MI O a b out ia ib) (sa:O.Srt a):∀ k,ia+k<=a.length->(∀ i z,i<k->a[ia+i]?=some z->∀ y∈b.drop ib,O.le z y)->MI O a b (out++(a.drop ia).take k) (ia+k) ib
 | 0,_,_=>by simpa using h
 | k+1,hl,hz=>by
  have q:=MI.takeAs h sa k (by omega) fun i z hi e=>hz i z (by (clear hl;omega)) e;have e:a[ia+k]?=some a[ia+k]:=Yaf (by omega);have r:=q.takeA sa e (hz k _ (by omega) e);rw[YaG,<- ZeM e] at r;exact r
theorem MI.takeBs (h:MI O a b out ia ib) (sb:O.Srt b):∀ k,ib+k<=b.length->(∀ i z,i<k->b[ib+i]?=some z->∀ y∈a.drop ia,O.le z y)->MI O a b (out++(b.drop ib).take k) ia (ib+k)
 | 0,_,_=>by simpa using h
 | k+1,hl,hz=>by
  have q:=MI.takeBs h sb k (by omega) fun i z hi e=>hz i z (by (clear hl;omega)) e;have e:b[ib+k]?=some b[ib+k]:=Yaf (by omega);have r:=q.takeB sb e (hz k _ (by omega) e);rw[YaG,<- ZeM e] at r;exact r
def Mg (O:KO) (a b r:List Keyed):Prop:=r.Perm (a++b)/\O.Srt r
theorem MI.doneA (h:MI O a b out ia ib) (sa:O.Srt a) (e:b.length<=ib):Mg O a b (out++a.drop ia++b.drop ib):=by
 have eb:b.drop ib=[]:=List.drop_eq_nil_of_le e;refine⟨by rw[YaG];exact h.perm,?_⟩;rw[eb,YbC];exact YaQ.mpr ⟨h.srt,sa.drop,fun x hx y hy=>h.le x hx y (YaM _ hy)⟩
theorem MI.doneB (h:MI O a b out ia ib) (sa:O.Srt a) (sb:O.Srt b) (hl:∀ x∈b.drop ib,∀ y∈a.drop ia,O.le x y):Mg O a b (out++b.drop ib++a.drop ia):=by
 refine⟨by rw[YaG];exact (YbL _ Yer).trans h.perm,?_⟩;rw[YaG];refine YaQ.mpr ⟨h.srt,YaQ.mpr ⟨sb.drop,sa.drop,hl⟩,fun x hx y hy=>h.le x hx y ?_⟩;rcases Yap.mp hy with hy | hy
 ·exact Yao _ hy
 ·exact YaM _ hy
end
section
variable {prog:Program}{w:World}{A:Around}{E:Value->Shared->Prop}{s:Shared}{O:KO}{knd:SortKind}{ok:Keyed->Prop}{st:SortSt}
theorem Zaz {α:Type}{c:Prop} [Decidable c] {p q:StateT SortSt Sem α}{Q:α->SortSt->Prop} (h1:c->wpS (model prog w) A E s p Q st) (h2:¬ c->wpS (model prog w) A E s q Q st):wpS (model prog w) A E s (if c then p else q) Q st:=by
 by_cases h:c
 ·rw[if_pos h];exact h1 h
 ·rw[if_neg h];exact h2 h
def Gal (st st':SortSt):Prop:=kindOf st'=kindOf st/\arrOf st'=arrOf st/\pendingOf st'=pendingOf st/\failedOf st'=failedOf st
theorem Gal.refl:Gal st st:=⟨rfl,rfl,rfl,rfl⟩
theorem Za1 {g:Nat}{st1:SortSt}{Q:Unit->SortSt->Prop} (hG:Gal st st1) (h:∀ st',Gal st st'->Q () st'):wpS (model prog w) A E s (ZgY g) Q st1 :=
 wpS_modify (h _ ⟨hG.1,hG.2.1,hG.2.2.1,hG.2.2.2⟩)
theorem ZbZ {l:List Keyed} (sl:O.Srt l) {i j:Nat}{x y:Keyed} (hij:i<=j) (hx:l[i]?=some x) (hy:l[j]?=some y):O.le x y:=by
 obtain⟨h1,rfl⟩:=Yaa.mp hx;obtain⟨h2,rfl⟩:=Yaa.mp hy;rcases YeY hij with h | h
 ·exact Yea.mp sl i j h1 h2 h
 ·subst h;exact KO.le_refl
theorem ZaM {l:List Keyed}{i:Nat}{y:Keyed} (h:y∈l.drop i):∃ j,i<=j/\l[j]?=some y:=by
 obtain⟨j,hj,e⟩:=YeE.mp h;exact⟨i+j,by omega,by rw[<- YcK,Yaf hj,e]⟩
theorem Zcs {l:List Keyed} (sl:O.Srt l) {i:Nat}{x:Keyed} (hx:l[i]?=some x):∀ y∈l.drop i,O.le x y:=fun y hy=>
 let ⟨_,hj,e⟩:=ZaM hy
 ZbZ sl hj hx e
theorem ZaB {a:Array Keyed}{i:Nat} (h:i<a.size):∃ x,a[i]?=some x/\a.toList[i]?=some x/\x∈a.toList :=
 ⟨a[i],Yce h,by rw[Yan];exact Yce h,by simp⟩
theorem ZdS {a:Array Keyed}{i:Nat}{x:Keyed} (h:a[i]?=some x):a.toList[i]?=some x:=by rw[Yan];exact h
theorem ZbI {key:Keyed}{a:Array Keyed}{i n hint:Nat}{Q:Option Nat->SortSt->Prop} (hA:Asks prog w A s O knd ok) (hk:kindOf st=knd) (hkey:ok key) (oka:∀ x∈a.toList,ok x) (hi:i+n<=a.size)
  (sa:∀ p q x y,i<=p->p<=q->q<i+n->a[p]?=some x->a[q]?=some y->O.le x y) (hh:hint<n)
  (h:∀ k,k<=n->(∀ j z,j<k->a[i+j]?=some z->O.le z key)->(∀ j z,k<=j->j<n->a[i+j]?=some z->O.blt (O.ky key) (O.ky z)=true)->Q (some k) st):wpS (model prog w) A E s (ZfQ false key a i n hint) Q st:=by
 refine Zdg hA hk hkey (fun j=>!(O.blt (O.ky key) (O.ky (a.getD (i+j) key)))) ?_ ?_ hh ?_
 ·intro j hj;obtain⟨x,e1,_,e3⟩:=ZaB (a:=a) (i:=i+j) (by (clear hh;omega));refine⟨x,e1,oka x e3,?_⟩;have e4:a.getD (i+j) key=x:=by rw[Ya1,e1];rfl
  simp[e4]
 ·intro p q hpq hq hb;obtain⟨x,e1,_,_⟩:=ZaB (a:=a) (i:=i+p) (by (clear hh;omega));obtain⟨y,f1,_,_⟩:=ZaB (a:=a) (i:=i+q) (by (clear hpq hh;omega));have e4:a.getD (i+p) key=x:=by rw[Ya1,e1];rfl
  have f4:a.getD (i+q) key=y:=by rw[Ya1,f1];rfl
  rw[f4] at hb;rw[e4];have z:O.le x key:=KO.le_trans (sa _ _ x y (by (clear hq hpq hh hi;omega)) (by (clear hq hh hi;omega)) (by (clear hpq hh hi;omega)) e1 f1) (show O.blt _ _=false by simpa using hb);have z:O.blt (O.ky key) (O.ky x)=false:=z;simpa using z
 ·intro k hk1 h1 h2;refine h k hk1 (fun j z hj e=>?_) (fun j z hj hj2 e=>?_)
  ·have e4:a.getD (i+j) key=z:=by rw[Ya1,e];rfl
   have:=h1 j hj;rw[e4] at this;exact (show O.blt _ _=false by simpa using this)
  ·have e4:a.getD (i+j) key=z:=by rw[Ya1,e];rfl
   have:=h2 j hj hj2;rw[e4] at this;simpa using this
theorem Za5 {key:Keyed}{a:Array Keyed}{i n hint:Nat}{Q:Option Nat->SortSt->Prop} (hA:Asks prog w A s O knd ok) (hk:kindOf st=knd) (hkey:ok key) (oka:∀ x∈a.toList,ok x) (hi:i+n<=a.size)
  (sa:∀ p q x y,i<=p->p<=q->q<i+n->a[p]?=some x->a[q]?=some y->O.le x y) (hh:hint<n)
  (h:∀ k,k<=n->(∀ j z,j<k->a[i+j]?=some z->O.blt (O.ky z) (O.ky key)=true)->(∀ j z,k<=j->j<n->a[i+j]?=some z->O.le key z)->Q (some k) st):wpS (model prog w) A E s (ZfQ true key a i n hint) Q st:=by
 refine Zdg hA hk hkey (fun j=>O.blt (O.ky (a.getD (i+j) key)) (O.ky key)) ?_ ?_ hh ?_
 ·intro j hj;obtain⟨x,e1,_,e3⟩:=ZaB (a:=a) (i:=i+j) (by (clear hh;omega));refine⟨x,e1,oka x e3,?_⟩;have e4:a.getD (i+j) key=x:=by rw[Ya1,e1];rfl
  simp[e4]
 ·intro p q hpq hq hb;obtain⟨x,e1,_,_⟩:=ZaB (a:=a) (i:=i+p) (by (clear hh;omega));obtain⟨y,f1,_,_⟩:=ZaB (a:=a) (i:=i+q) (by (clear hpq hh;omega));have e4:a.getD (i+p) key=x:=by rw[Ya1,e1];rfl
  have f4:a.getD (i+q) key=y:=by rw[Ya1,f1];rfl
  rw[f4] at hb;rw[e4];exact KeyOrd.klt_of_kle_of_klt (O:=O.toKeyOrd) (sa _ _ x y (by (clear hq hpq hh hi;omega)) (by (clear hq hh hi;omega)) (by (clear hpq hh hi;omega)) e1 f1) hb
 ·intro k hk1 h1 h2;refine h k hk1 (fun j z hj e=>?_) (fun j z hj hj2 e=>?_)
  ·have e4:a.getD (i+j) key=z:=by rw[Ya1,e];rfl
   have:=h1 j hj;rw[e4] at this;exact this
  ·have e4:a.getD (i+j) key=z:=by rw[Ya1,e];rfl
   have:=h2 j hj hj2;rw[e4] at this;exact this
theorem srtA {a:Array Keyed} (sa:O.Srt a.toList) (i n:Nat):∀ p q x y,i<=p->p<=q->q<i+n->a[p]?=some x->a[q]?=some y->O.le x y:=fun p q x y _ h _ e1 e2=>ZbZ sa h (ZdS e1) (ZdS e2)
theorem Zfq {a b:Array Keyed}{Q:Array Keyed->SortSt->Prop} (hA:Asks prog w A s O knd ok) (hk:kindOf st=knd) (oka:∀ x∈a.toList,ok x) (okb:∀ x∈b.toList,ok x) (sa:O.Srt a.toList) (sb:O.Srt b.toList) (ha:1<=a.size) (hb:1<=b.size)
  (hfirst:∀ y,b[0]?=some y->∀ x∈a.toList,O.le y x) (hlast:∀ z,a[a.size - 1]?=some z->∀ y∈b.toList,O.blt (O.ky y) (O.ky z)=true)
  (h:∀ r st',Gal st st'->Mg O a.toList b.toList r.toList->Q r st'):wpS (model prog w) A E s (Zko a b) Q st:=by
 obtain⟨b0,eb0,eb0',_⟩:=ZaB (a:=b) (i:=0) (by (clear ha;omega));have done:∀ {out:Array Keyed}{ia ib:Nat},MI O a.toList b.toList out.toList ia ib->b.size<=ib->Mg O a.toList b.toList (out++a.extract ia a.size++b.extract ib b.size).toList:=by
  intro out ia ib m hl;rw[Ya5,Ya5,ZgB,ZgB];exact m.doneA sa hl
 have last:∀ {out:Array Keyed}{ia ib:Nat},MI O a.toList b.toList out.toList ia ib->ia+1=a.size->Mg O a.toList b.toList (out++b.extract ib b.size++a.extract ia a.size).toList:=by
  intro out ia ib m hl;rw[Ya5,Ya5,ZgB,ZgB];refine m.doneB sa sb fun x hx y hy=>?_;obtain⟨j,hj,e⟩:=ZaM hy;have hj2:j<a.size:=(Yaa.mp e).1
  have e2:j=a.size - 1:=by (clear hb ha;omega)
  rw[e2] at e;rw[Yan] at e;exact KO.le_of_lt (hlast y e x (Ycc hx))
 have pB:∀ {out:Array Keyed}{ia ib:Nat}{y:Keyed},MI O a.toList b.toList out.toList ia ib->b[ib]?=some y->(∀ z∈a.toList.drop ia,O.le y z)->MI O a.toList b.toList (out.push y).toList ia (ib+1):=by
  intro out ia ib y m e hz;rw[Ycq];exact m.takeB sb (ZdS e) hz
 have pA:∀ {out:Array Keyed}{ia ib:Nat}{y:Keyed},MI O a.toList b.toList out.toList ia ib->a[ia]?=some y->(∀ z∈b.toList.drop ib,O.le y z)->MI O a.toList b.toList (out.push y).toList (ia+1) ib:=by
  intro out ia ib y m e hz;rw[Ycq];exact m.takeA sa (ZdS e) hz
 refine wpS_bind (wpS_lift (wpAny_rule ⟨rfl,?_⟩));refine wpS_bind (Zao eb0 ?_);have m0:MI O a.toList b.toList #[b0].toList 0 1 :=
  MI.takeB (out:=[]) (ib:=0) ⟨by simp,YbY,fun x hx=>by cases hx⟩ sb eb0' (by simpa using hfirst b0 eb0)
 dsimp only;by_cases c1:1=b.size
 ·rw[if_pos (by simpa using c1)];exact wpS_pure (h _ _ Gal.refl (done m0 (by (clear hb ha;omega))))
 rw[if_neg (by simpa using c1)];by_cases c2:0+1=a.size
 ·rw[if_pos (by simpa using c2)];exact wpS_pure (h _ _ Gal.refl (last m0 (by (clear c1 hb ha;omega))))
 rw[if_neg (by simpa using c2)];refine wpS_bind (wpS_get ?_);refine wpS_bind (wpS_mono (wpS_forRange
  (I:=fun x c st'=>Gal st st'/\∃ (out:Array Keyed) (ia ib g:Nat),c=((none:Option (Array Keyed)),out,ia,ib,g)/\MI O a.toList b.toList out.toList ia ib/\ia+1<a.size/\ib<b.size/\x<=ia+ib)
  (Q:=fun c st'=>Gal st st'/\∃ (r out:Array Keyed) (ia ib g:Nat),c=(some r,out,ia,ib,g)/\Mg O a.toList b.toList r.toList) ?step ?fin ⟨Gal.refl,#[b0],0,1,gallopOf st,rfl,m0,by (clear c1 hb;omega),by (clear c2 ha;omega),by (clear c2 c1 hb ha;omega)⟩) ?post)
 case fin=>
  rintro c st' ⟨_,out,ia,ib,g,rfl,_,h1,h2,h3⟩
  (clear c2 c1 hb ha;omega)
 case post=>
  rintro c st' ⟨hG,r,out,ia,ib,g,rfl,hm⟩;exact wpS_pure (h r st' hG hm)
 case step=>
  rintro x c st1 _ hx ⟨hG1,out,ia,ib,g,rfl,hm,h1,h2,h3⟩;dsimp only;have hk1:kindOf st1=knd:=hG1.1.trans hk;refine wpS_bind (wpS_mono (wpS_forRange
   (I:=fun y c st'=>st'=st1/\∃ (out:Array Keyed) (ia ib p q:Nat),c=((none:Option (Array Keyed)),out,ia,ib,p,q)/\MI O a.toList b.toList out.toList ia ib/\ia+1<a.size/\ib<b.size/\x+y<=ia+ib)
   (Q:=fun c st'=>st'=st1/\((∃ (r out:Array Keyed) (ia ib p q:Nat),c=(some r,out,ia,ib,p,q)/\Mg O a.toList b.toList r.toList) ∨
    (∃ (out:Array Keyed) (ia ib p q:Nat),c=(none,out,ia,ib,p,q)/\MI O a.toList b.toList out.toList ia ib/\ia+1<a.size/\ib<b.size/\x+1<=ia+ib))) ?step1 ?fin1 ⟨rfl,out,ia,ib,0,0,rfl,hm,h1,h2,by (clear h2 h1 hx c2 c1 hb ha;omega)⟩) ?post1)
  case fin1=>
   rintro c st' ⟨rfl,out,ia,ib,p,q,rfl,hm,h1,h2,h3⟩;exact⟨rfl,.inr ⟨out,ia,ib,p,q,rfl,hm,h1,h2,by (clear h2 h1 hx c2 c1 hb ha;omega)⟩⟩
  case step1=>
   rintro y c st' _ hy ⟨rfl,out,ia,ib,p,q,rfl,hm,h1,h2,h3⟩;dsimp only;obtain⟨u,eu,eu',mu⟩:=ZaB (a:=b) h2;obtain⟨v,ev,ev',mv⟩:=ZaB (a:=a) (i:=ia) (by (clear h3 h2 hy hx c2 c1 hb ha;omega));refine wpS_bind (Zao eu (wpS_bind (Zao ev ?_)));refine wpS_bind (ZeE hA hk1 (okb u mu) (oka v mv) ?_)
   cases e:O.blt (O.ky u) (O.ky v) with
   | true=>
    simp only[if_true];refine wpS_bind (Zao eu ?_);have m2:=pB hm eu fun z hz=>KO.le_trans (KO.le_of_lt e) (Zcs sa ev' z hz);by_cases c3:ib+1=b.size
    ·rw[if_pos (by simpa using c3)];exact wpS_pure ⟨rfl,.inl ⟨_,_,_,_,_,_,rfl,done m2 (by (clear h3 h2 h1 hy hx c2 c1 hb ha;omega))⟩⟩
    rw[if_neg (by simpa using c3)];refine Zaz (fun _=>?_) (fun _=>?_)
    ·exact wpS_pure ⟨rfl,.inr ⟨_,_,_,_,_,rfl,m2,by (clear c3 h3 h2 hy hx c2 c1 hb ha;omega),by (clear h3 h1 hy hx c2 c1 hb ha;omega),by (clear c3 h2 h1 hy hx c2 c1 hb ha;omega)⟩⟩
    ·exact wpS_pure ⟨rfl,_,_,_,_,_,rfl,m2,by (clear c3 h3 h2 hy hx c2 c1 hb ha;omega),by (clear h3 h1 hy hx c2 c1 hb ha;omega),by (clear c3 h2 h1 hy hx c2 c1 hb ha;omega)⟩
   | false=>
    simp only[YaR,if_false];refine wpS_bind (Zao ev ?_);have m2:=pA hm ev fun z hz=>KO.le_trans (show O.le v u from e) (Zcs sb eu' z hz);by_cases c3:ia+1+1=a.size
    ·rw[if_pos (by simpa using c3)];exact wpS_pure ⟨rfl,.inl ⟨_,_,_,_,_,_,rfl,last m2 c3⟩⟩
    rw[if_neg (by simpa using c3)];refine Zaz (fun _=>?_) (fun _=>?_)
    ·exact wpS_pure ⟨rfl,.inr ⟨_,_,_,_,_,rfl,m2,by (clear h3 h2 hy hx c2 c1 hb ha;omega),by (clear c3 h3 h1 hy hx c2 c1 hb ha;omega),by (clear c3 h2 h1 hy hx c2 c1 hb ha;omega)⟩⟩
    ·exact wpS_pure ⟨rfl,_,_,_,_,_,rfl,m2,by (clear h3 h2 hy hx c2 c1 hb ha;omega),by (clear c3 h3 h1 hy hx c2 c1 hb ha;omega),by (clear c3 h2 h1 hy hx c2 c1 hb ha;omega)⟩
  case post1=>
   rintro c st' ⟨rfl,⟨r,out,ia,ib,p,q,rfl,hr⟩ | ⟨out,ia,ib,p,q,rfl,hm,h1,h2,h3⟩⟩
   ·exact wpS_pure ⟨hG1,_,_,_,_,_,rfl,hr⟩
   dsimp only;refine wpS_bind (wpS_lift (wpAny_rule ⟨rfl,?_⟩));refine wpS_bind (wpS_mono (wpS_forRange
    (I:=fun y c st'=>Gal st st'/\∃ (out:Array Keyed) (ia ib g p q:Nat),c=((none:Option (Array Keyed)),out,ia,ib,g,p,q)/\MI O a.toList b.toList out.toList ia ib/\ia+1<a.size/\ib<b.size/\x+1<=ia+ib)
    (Q:=fun c st'=>Gal st st'/\((∃ (r out:Array Keyed) (ia ib g p q:Nat),c=(some r,out,ia,ib,g,p,q)/\Mg O a.toList b.toList r.toList) ∨
     (∃ (out:Array Keyed) (ia ib g p q:Nat),c=(none,out,ia,ib,g,p,q)/\MI O a.toList b.toList out.toList ia ib/\ia+1<a.size/\ib<b.size/\x+1<=ia+ib))) ?step2 ?fin2 ⟨hG1,out,ia,ib,g+1,p,q,rfl,hm,h1,h2,h3⟩) ?post2)
   case fin2=>
    rintro c st' ⟨hG,out,ia,ib,g,p,q,rfl,hm,h1,h2,h3⟩;exact⟨hG,.inr ⟨out,ia,ib,g,p,q,rfl,hm,h1,h2,h3⟩⟩
   case post2=>
    rintro c st' ⟨hG,⟨r,out,ia,ib,g,p,q,rfl,hr⟩ | ⟨out,ia,ib,g,p,q,rfl,hm,h1,h2,h3⟩⟩
    ·exact wpS_pure ⟨hG,_,_,_,_,_,rfl,hr⟩
    exact wpS_bind (Za1 hG fun st2 hG2=>wpS_pure ⟨hG2,_,_,_,_,rfl,hm,h1,h2,h3⟩)
   case step2=>
    rintro y c st' _ hy ⟨hG,out,ia,ib,g,p,q,rfl,hm,h1,h2,h3⟩;dsimp only;obtain⟨u,eu,eu',mu⟩:=ZaB (a:=b) h2;refine Zaz (fun cg=>?_) (fun cg=>?_)
    all_goals
     refine wpS_bind (Za1 hG fun st2 hG2=>wpS_bind (Zao eu ?_));refine wpS_bind (ZbI hA (hG2.1.trans hk) (okb u mu) oka (by (clear cg h3 h2 hy hx c2 c1 hb ha;omega)) (srtA sa _ _) (by (clear cg h3 h2 hy hx c2 c1 hb ha;omega)) fun k hk1 b1 b2=>?_);have m3:=hm.takeAs sa k (by simp;(clear cg h3 h2 hy hx c2 c1 hb ha;omega)) fun i z hi e y hy=>KO.le_trans (b1 i z hi (by rw[<- Yan];exact e)) (Zcs sb eu' y hy);have hu:∀ z∈a.toList.drop (ia+k),O.le u z:=by
      intro z hz;obtain⟨j,hj,e⟩:=ZaM hz;have hj2:j<a.size:=(Yaa.mp e).1
      refine KO.le_of_lt (b2 (j - ia) z (by (clear hj2 hk1 cg h3 h2 h1 hy hx c2 c1 hb ha;omega)) (by (clear hj hk1 cg h3 h2 hy hx c2 c1 hb ha;omega)) ?_);rw[show ia+(j - ia)=j by (clear hj2 hk1 cg h3 h2 h1 hy hx c2 c1 hb ha;omega),<- Yan];exact e
     have hka:ia+k<a.size:=by
      rcases YeY hk1 with z | z
      ·(clear hk1 cg h3 h2 h1 hy hx c2 c1 hb ha;omega)
      ·obtain⟨zl,el,_,_⟩:=ZaB (a:=a) (i:=a.size - 1) (by (clear z hk1 cg h3 h2 h1 hy hx c2 c1 hb ha;omega));have q1:=hlast zl el u mu;have q2:=b1 (a.size - 1 - ia) zl (by (clear hk1 cg h3 h2 hy hx c2 c1 hb ha;omega)) (by rw[show ia+(a.size - 1 - ia)=a.size - 1 by (clear z hk1 cg h3 h2 hy hx c2 c1 hb ha;omega)];exact el);rw[show O.blt (O.ky u) (O.ky zl)=false from q2] at q1;cases q1
     dsimp only;by_cases ck:k > 0
     ·rw[if_pos ck];rw[<- ZfS,<- Ya5] at m3;by_cases c3:ia+k+1=a.size
      ·rw[if_pos (by simpa using c3)];exact wpS_pure ⟨hG2,.inl ⟨_,_,_,_,_,_,_,rfl,last m3 c3⟩⟩
      rw[if_neg (by simpa using c3),if_neg (by simp;(clear c3 ck hk1 cg h3 h2 h1 hy hx c2 c1 hb ha;omega))];refine wpS_bind (Zao eu ?_);have m4:=pB m3 eu hu;by_cases c4:ib+1=b.size
      ·rw[if_pos (by simpa using c4)];exact wpS_pure ⟨hG2,.inl ⟨_,_,_,_,_,_,_,rfl,done m4 (by (clear c3 ck hka hk1 cg h3 h2 h1 hy hx c2 c1 hb ha;omega))⟩⟩
      rw[if_neg (by simpa using c4)];obtain⟨v,ev,ev',mv⟩:=ZaB (a:=a) (i:=ia+k) (by (clear c4 c3 ck hk1 cg h3 h2 h1 hy hx c2 c1 hb ha;omega));refine wpS_bind (Zao ev ?_);refine wpS_bind (Za5 hA (hG2.1.trans hk) (oka v mv) okb (by (clear c4 c3 ck hka hk1 cg h3 h1 hy hx c2 c1 hb ha;omega)) (srtA sb _ _) (by (clear c3 ck hka hk1 cg h3 h1 hy hx c2 c1 hb ha;omega)) fun k2 hk2 d1 d2=>?_);have m5:=m4.takeBs sb k2 (by simp;(clear c4 c3 ck hka hk1 cg h3 h1 hy hx c2 c1 hb ha;omega)) fun i z hi e y hy=>KO.le_trans (KO.le_of_lt (d1 i z hi (by rw[<- Yan];exact e))) (Zcs sa ev' y hy);have hv:∀ z∈b.toList.drop (ib+1+k2),O.le v z:=by
       intro z hz;obtain⟨j,hj,e⟩:=ZaM hz;have hj2:j<b.size:=(Yaa.mp e).1
       refine d2 (j - (ib+1)) z (by (clear hj2 hk2 c4 c3 ck hka hk1 cg h3 h2 h1 hy hx c2 c1 hb ha;omega)) (by (clear hj hk2 c3 ck hka hk1 cg h3 h1 hy hx c2 c1 hb ha;omega)) ?_;rw[show ib+1+(j - (ib+1))=j by (clear hj2 hk2 c4 c3 ck hka hk1 cg h3 h2 h1 hy hx c2 c1 hb ha;omega),<- Yan];exact e
      dsimp only;by_cases ck2:k2 > 0
      ·rw[if_pos ck2];rw[<- ZfS,<- Ya5] at m5;by_cases c6:ib+1+k2=b.size
       ·rw[if_pos (by simpa using c6)];exact wpS_pure ⟨hG2,.inl ⟨_,_,_,_,_,_,_,rfl,done m5 (by (clear ck2 hk2 c4 c3 ck hka hk1 cg h3 h2 h1 hy hx c2 c1 hb ha;omega))⟩⟩
       rw[if_neg (by simpa using c6)];refine wpS_bind (Zao ev ?_);have m7:=pA m5 ev hv;by_cases c7:ia+k+1+1=a.size
       ·rw[if_pos (by simpa using c7)];exact wpS_pure ⟨hG2,.inl ⟨_,_,_,_,_,_,_,rfl,last m7 c7⟩⟩
       rw[if_neg (by simpa using c7)];refine Zaz (fun _=>?_) (fun _=>?_)
       ·exact wpS_pure ⟨hG2,.inr ⟨_,_,_,_,_,_,rfl,m7,by (clear c6 ck2 hk2 c4 ck hk1 cg h3 h2 h1 hy hx c2 c1 hb ha;omega),by (clear c7 ck2 c4 c3 ck hka hk1 cg h3 h1 hy hx c2 c1 hb ha;omega),by (clear c7 c6 ck2 hk2 c4 c3 ck hka hk1 cg h2 h1 hy hx c2 c1 hb ha;omega)⟩⟩
       ·exact wpS_pure ⟨hG2,_,_,_,_,_,_,rfl,m7,by (clear c6 ck2 hk2 c4 ck hk1 cg h3 h2 h1 hy hx c2 c1 hb ha;omega),by (clear c7 ck2 c4 c3 ck hka hk1 cg h3 h1 hy hx c2 c1 hb ha;omega),by (clear c7 c6 ck2 hk2 c4 c3 ck hka hk1 cg h2 h1 hy hx c2 c1 hb ha;omega)⟩
      ·rw[if_neg ck2];have k0:k2=0:=by (clear hk2 c4 c3 ck hka hk1 cg h3 h2 h1 hy hx c2 c1 hb ha;omega)
       subst k0;rw[Ybv,YbC] at m5;refine wpS_bind (Zao ev ?_);have m7:=pA m5 ev hv;by_cases c7:ia+k+1+1=a.size
       ·rw[if_pos (by simpa using c7)];exact wpS_pure ⟨hG2,.inl ⟨_,_,_,_,_,_,_,rfl,last m7 c7⟩⟩
       rw[if_neg (by simpa using c7)];refine Zaz (fun _=>?_) (fun _=>?_)
       ·exact wpS_pure ⟨hG2,.inr ⟨_,_,_,_,_,_,rfl,m7,by (clear ck2 hk2 c4 ck hk1 cg h3 h2 h1 hy hx c2 c1 hb ha;omega),by (clear c7 ck2 hk2 c3 ck hka hk1 cg h3 h1 hy hx c2 c1 hb ha;omega),by (clear c7 ck2 hk2 c4 c3 ck hka hk1 cg h2 h1 hy hx c2 c1 hb ha;omega)⟩⟩
       ·exact wpS_pure ⟨hG2,_,_,_,_,_,_,rfl,m7,by (clear ck2 hk2 c4 ck hk1 cg h3 h2 h1 hy hx c2 c1 hb ha;omega),by (clear c7 ck2 hk2 c3 ck hka hk1 cg h3 h1 hy hx c2 c1 hb ha;omega),by (clear c7 ck2 hk2 c4 c3 ck hka hk1 cg h2 h1 hy hx c2 c1 hb ha;omega)⟩
     ·rw[if_neg ck];have k0:k=0:=by (clear hka hk1 cg h3 h2 h1 hy hx c2 c1 hb ha;omega)
      subst k0;rw[Ybv,YbC] at m3;refine wpS_bind (Zao eu ?_);have m4:=pB m3 eu hu;by_cases c4:ib+1=b.size
      ·rw[if_pos (by simpa using c4)];exact wpS_pure ⟨hG2,.inl ⟨_,_,_,_,_,_,_,rfl,done m4 (by (clear ck hka hk1 cg h3 h2 h1 hy hx c2 c1 hb ha;omega))⟩⟩
      rw[if_neg (by simpa using c4)];obtain⟨v,ev,ev',mv⟩:=ZaB (a:=a) (i:=ia+0) (by (clear c4 ck hka hk1 cg h3 h2 hy hx c2 c1 hb ha;omega));refine wpS_bind (Zao ev ?_);refine wpS_bind (Za5 hA (hG2.1.trans hk) (oka v mv) okb (by (clear c4 ck hka hk1 cg h3 h1 hy hx c2 c1 hb ha;omega)) (srtA sb _ _) (by (clear ck hka hk1 cg h3 h1 hy hx c2 c1 hb ha;omega)) fun k2 hk2 d1 d2=>?_);have m5:=m4.takeBs sb k2 (by simp;(clear c4 ck hka hk1 cg h3 h1 hy hx c2 c1 hb ha;omega)) fun i z hi e y hy=>KO.le_trans (KO.le_of_lt (d1 i z hi (by rw[<- Yan];exact e))) (Zcs sa ev' y hy);have hv:∀ z∈b.toList.drop (ib+1+k2),O.le v z:=by
       intro z hz;obtain⟨j,hj,e⟩:=ZaM hz;have hj2:j<b.size:=(Yaa.mp e).1
       refine d2 (j - (ib+1)) z (by (clear hj2 hk2 c4 ck hka hk1 cg h3 h2 h1 hy hx c2 c1 hb ha;omega)) (by (clear hj hk2 ck hka hk1 cg h3 h1 hy hx c2 c1 hb ha;omega)) ?_;rw[show ib+1+(j - (ib+1))=j by (clear hj2 hk2 c4 ck hka hk1 cg h3 h2 h1 hy hx c2 c1 hb ha;omega),<- Yan];exact e
      dsimp only;by_cases ck2:k2 > 0
      ·rw[if_pos ck2];rw[<- ZfS,<- Ya5] at m5;by_cases c6:ib+1+k2=b.size
       ·rw[if_pos (by simpa using c6)];exact wpS_pure ⟨hG2,.inl ⟨_,_,_,_,_,_,_,rfl,done m5 (by (clear ck2 hk2 c4 ck hka hk1 cg h3 h2 h1 hy hx c2 c1 hb ha;omega))⟩⟩
       rw[if_neg (by simpa using c6)];refine wpS_bind (Zao ev ?_);have m7:=pA m5 ev hv;by_cases c7:ia+0+1+1=a.size
       ·rw[if_pos (by simpa using c7)];exact wpS_pure ⟨hG2,.inl ⟨_,_,_,_,_,_,_,rfl,last m7 c7⟩⟩
       rw[if_neg (by simpa using c7)];refine Zaz (fun _=>?_) (fun _=>?_)
       ·exact wpS_pure ⟨hG2,.inr ⟨_,_,_,_,_,_,rfl,m7,by (clear c6 ck2 hk2 c4 ck hka hk1 cg h3 h2 hy hx c2 c1 hb ha;omega),by (clear c7 ck2 c4 ck hka hk1 cg h3 h1 hy hx c2 c1 hb ha;omega),by (clear c7 c6 ck2 hk2 c4 ck hka hk1 cg h2 h1 hy hx c2 c1 hb ha;omega)⟩⟩
       ·exact wpS_pure ⟨hG2,_,_,_,_,_,_,rfl,m7,by (clear c6 ck2 hk2 c4 ck hka hk1 cg h3 h2 hy hx c2 c1 hb ha;omega),by (clear c7 ck2 c4 ck hka hk1 cg h3 h1 hy hx c2 c1 hb ha;omega),by (clear c7 c6 ck2 hk2 c4 ck hka hk1 cg h2 h1 hy hx c2 c1 hb ha;omega)⟩
      ·rw[if_neg ck2];have k0:k2=0:=by (clear hk2 c4 ck hka hk1 cg h3 h2 h1 hy hx c2 c1 hb ha;omega)
       subst k0;rw[Ybv,YbC] at m5;refine wpS_bind (Zao ev ?_);have m7:=pA m5 ev hv;by_cases c7:ia+0+1+1=a.size
       ·rw[if_pos (by simpa using c7)];exact wpS_pure ⟨hG2,.inl ⟨_,_,_,_,_,_,_,rfl,last m7 c7⟩⟩
       rw[if_neg (by simpa using c7)];refine Zaz (fun _=>?_) (fun _=>?_)
       ·exact wpS_pure ⟨hG2,.inr ⟨_,_,_,_,_,_,rfl,m7,by (clear ck2 hk2 c4 ck hka hk1 cg h3 h2 hy hx c2 c1 hb ha;omega),by (clear c7 ck2 hk2 ck hka hk1 cg h3 h1 hy hx c2 c1 hb ha;omega),by (clear c7 ck2 hk2 c4 ck hka hk1 cg h2 h1 hy hx c2 c1 hb ha;omega)⟩⟩
       ·exact wpS_pure ⟨hG2,_,_,_,_,_,_,rfl,m7,by (clear ck2 hk2 c4 ck hka hk1 cg h3 h2 hy hx c2 c1 hb ha;omega),by (clear c7 ck2 hk2 ck hka hk1 cg h3 h1 hy hx c2 c1 hb ha;omega),by (clear c7 ck2 hk2 c4 ck hka hk1 cg h2 h1 hy hx c2 c1 hb ha;omega)⟩
end
section
variable {O:KO}{a b out:List Keyed}{na nb:Nat}{x:Keyed}
structure MH (O:KO) (a b out:List Keyed) (na nb:Nat):Prop where
 perm:(a.take na++b.take nb++out.reverse).Perm (a++b)
 srt:O.Srt out.reverse
 le:∀ x∈a.take na++b.take nb,∀ y∈out,O.le x y
theorem ZhG {l:List Keyed}{i:Nat}{x:Keyed} (e:l[i]?=some x):l.take (i+1)=l.take i++[x]:=by
 rw[List.take_succ,e];rfl
theorem MH.takeA (h:MH O a b out (na+1) nb) (sa:O.Srt a) (e:a[na]?=some x) (hb:∀ y∈b.take nb,O.le y x):MH O a b (out++[x]) na nb:=by
 have ed:=ZhG e;have sd:O.Srt (a.take na++[x]):=ed ▸ sa.take;have hx:x∈a.take (na+1)++b.take nb:=by rw[ed];simp
 refine⟨?_,?_,fun y hy z hz=>?_⟩
 ·have p:=h.perm;rw[ed] at p;refine YcX ?_ p;rw[Ycj];simp only[YbH,Yc2,Yb6,YaG,List.singleton_append];refine YbL _ ?_;exact (YdE (a:=x) (l₁:=b.take nb) (l₂:=out.reverse))
 ·rw[Ycj];exact YaS.mpr ⟨fun y hy=>h.le x hx y (Yc3.mp hy),h.srt⟩
 ·rcases Yap.mp hz with hz | hz
  ·refine h.le y ?_ z hz;rw[ed];rcases Yap.mp hy with hy | hy
   ·exact YaM _ (YaM _ hy)
   ·exact Yao _ hy
  ·rw[YaN.mp hz];rcases Yap.mp hy with hy | hy
   ·exact (YaQ.mp sd).2.2 y hy x (by simp)
   ·exact hb y hy
theorem MH.takeB (h:MH O a b out na (nb+1)) (sb:O.Srt b) (e:b[nb]?=some x) (ha:∀ y∈a.take na,O.le y x):MH O a b (out++[x]) na nb:=by
 have ed:=ZhG e;have sd:O.Srt (b.take nb++[x]):=ed ▸ sb.take;have hx:x∈a.take na++b.take (nb+1):=by rw[ed];simp
 refine⟨?_,?_,fun y hy z hz=>?_⟩
 ·have p:=h.perm;rw[ed] at p;rw[Ycj];simpa using p
 ·rw[Ycj];exact YaS.mpr ⟨fun y hy=>h.le x hx y (Yc3.mp hy),h.srt⟩
 ·rcases Yap.mp hz with hz | hz
  ·refine h.le y ?_ z hz;rw[ed];rcases Yap.mp hy with hy | hy
   ·exact YaM _ hy
   ·exact Yao _ (YaM _ hy)
  ·rw[YaN.mp hz];rcases Yap.mp hy with hy | hy
   ·exact ha y hy
   ·exact (YaQ.mp sd).2.2 y hy x (by simp)
theorem Zgg {l:List Keyed}{i d:Nat}{x:Keyed} (e:l[i]?=some x):(l.drop i).take (d+1)=x::(l.drop (i+1)).take d:=by
 rw[ZfT e];rfl
theorem MH.takeAs (h:MH O a b out na nb) (sa:O.Srt a) (hn:na<=a.length):∀ d,d<=na->(∀ i z,na - d<=i->i<na->a[i]?=some z->∀ y∈b.take nb,O.le y z)->MH O a b (out++((a.drop (na - d)).take d).reverse) (na - d) nb
 | 0,_,_=>by simpa using h
 | d+1,hl,hz=>by
  have q:=MH.takeAs h sa hn d (by (clear hn;omega)) fun i z h1 h2 e=>hz i z (by (clear h2 hl hn;omega)) h2 e;have e:a[na - (d+1)]?=some a[na - (d+1)]:=Yaf (by omega);rw[show na - d=na - (d+1)+1 by omega] at q;have r:=q.takeA sa e (hz _ _ (by omega) (by omega) e);rw[YaG,<- YbH,<- Zgg e] at r;exact r
theorem MH.takeBs (h:MH O a b out na nb) (sb:O.Srt b) (hn:nb<=b.length):∀ d,d<=nb->(∀ i z,nb - d<=i->i<nb->b[i]?=some z->∀ y∈a.take na,O.le y z)->MH O a b (out++((b.drop (nb - d)).take d).reverse) na (nb - d)
 | 0,_,_=>by simpa using h
 | d+1,hl,hz=>by
  have q:=MH.takeBs h sb hn d (by (clear hn;omega)) fun i z h1 h2 e=>hz i z (by (clear h2 hl hn;omega)) h2 e;have e:b[nb - (d+1)]?=some b[nb - (d+1)]:=Yaf (by omega);rw[show nb - d=nb - (d+1)+1 by omega] at q;have r:=q.takeB sb e (hz _ _ (by omega) (by omega) e);rw[YaG,<- YbH,<- Zgg e] at r;exact r
theorem MH.doneA (h:MH O a b out 0 nb) (sb:O.Srt b):Mg O a b (a.take 0++b.take nb++out.reverse):=by
 refine⟨h.perm,?_⟩;rw[Ybv,Yb6];exact YaQ.mpr ⟨sb.take,h.srt,fun x hx y hy=>h.le x (Yao _ hx) y (Yc3.mp hy)⟩
theorem MH.doneB (h:MH O a b out na nb) (sa:O.Srt a) (sb:O.Srt b) (hl:∀ x∈b.take nb,∀ y∈a.take na,O.le x y):Mg O a b (b.take nb++a.take na++out.reverse):=by
 refine⟨(YcT _ Yer).trans h.perm,?_⟩;refine YaQ.mpr ⟨YaQ.mpr ⟨sb.take,sa.take,hl⟩,h.srt,fun x hx y hy=>h.le x ?_ y (Yc3.mp hy)⟩;rcases Yap.mp hx with hx | hx
 ·exact Yao _ hx
 ·exact YaM _ hx
theorem ZaL {l:List Keyed}{i:Nat}{y:Keyed} (h:y∈l.take i):∃ j,j<i/\l[j]?=some y:=by
 obtain⟨j,hj,e⟩:=YeE.mp h;rw[YaA] at hj;refine⟨j,by omega,?_⟩;rw[Ydt] at e;rw[Yaf (by omega),e]
theorem ZiE {l:List Keyed} (sl:O.Srt l) {i:Nat}{x:Keyed} (hx:l[i]?=some x):∀ y∈l.take (i+1),O.le y x:=fun y hy=>
 let ⟨_,hj,e⟩:=ZaL hy
 ZbZ sl (by omega) e hx
theorem Zew (a:Array Keyed) (i:Nat):(a.extract 0 i).toList=a.toList.take i:=by
 rw[Ycz];simp[Yet]
theorem Zev (a:Array Keyed) (i n:Nat):(a.extract i n).toList=(a.toList.drop i).take (n - i):=by
 rw[Ycz]
end
section
variable {prog:Program}{w:World}{A:Around}{E:Value->Shared->Prop}{s:Shared}{O:KO}{knd:SortKind}{ok:Keyed->Prop}{st:SortSt}
theorem Zfr {a b:Array Keyed}{Q:Array Keyed->SortSt->Prop} (hA:Asks prog w A s O knd ok) (hk:kindOf st=knd) (oka:∀ x∈a.toList,ok x) (okb:∀ x∈b.toList,ok x) (sa:O.Srt a.toList) (sb:O.Srt b.toList) (ha:1<=a.size) (hb:1<=b.size)
  (hfirst:∀ y,b[0]?=some y->∀ x∈a.toList,O.blt (O.ky y) (O.ky x)=true) (hlast:∀ z,a[a.size - 1]?=some z->∀ y∈b.toList,O.le y z)
  (h:∀ r st',Gal st st'->Mg O a.toList b.toList r.toList->Q r st'):wpS (model prog w) A E s (Zkp a b) Q st:=by
 obtain⟨a0,ea0,ea0',_⟩:=ZaB (a:=a) (i:=a.size - 1) (by (clear hb;omega));have done:∀ {out:Array Keyed}{nb:Nat},MH O a.toList b.toList out.toList 0 nb->Mg O a.toList b.toList (a.extract 0 0++b.extract 0 nb++out.reverse).toList:=by
  intro out nb m;rw[Ya5,Ya5,Zew,Zew,Ycb];exact m.doneA sb
 have first:∀ {out:Array Keyed}{na:Nat},MH O a.toList b.toList out.toList na 1->Mg O a.toList b.toList (b.extract 0 1++a.extract 0 na++out.reverse).toList:=by
  intro out na m;rw[Ya5,Ya5,Zew,Zew,Ycb];refine m.doneB sa sb fun x hx y hy=>?_;obtain⟨j,hj,e⟩:=ZaL hx;have e2:j=0:=by (clear hb ha;omega)
  rw[e2,Yan] at e;exact KO.le_of_lt (hfirst x e y (Ybo hy))
 have pB:∀ {out:Array Keyed}{na nb:Nat}{y:Keyed},1<=nb->MH O a.toList b.toList out.toList na nb->b[nb - 1]?=some y->(∀ z∈a.toList.take na,O.le z y)->MH O a.toList b.toList (out.push y).toList na (nb - 1):=by
  intro out na nb y hn m e hz;rw[Ycq];exact MH.takeB (by rw[show nb - 1+1=nb by (clear hb ha;omega)];exact m) sb (ZdS e) hz
 have pA:∀ {out:Array Keyed}{na nb:Nat}{y:Keyed},1<=na->MH O a.toList b.toList out.toList na nb->a[na - 1]?=some y->(∀ z∈b.toList.take nb,O.le z y)->MH O a.toList b.toList (out.push y).toList (na - 1) nb:=by
  intro out na nb y hn m e hz;rw[Ycq];exact MH.takeA (by rw[show na - 1+1=na by (clear hb ha;omega)];exact m) sa (ZdS e) hz
 have leT:∀ {l:List Keyed}{i:Nat}{x:Keyed},O.Srt l->1<=i->l[i - 1]?=some x->∀ y∈l.take i,O.le y x:=by
  intro l i x sl hi e y hy;exact ZiE sl e y (by rw[show i - 1+1=i by (clear hb ha;omega)];exact hy)
 refine wpS_bind (wpS_lift (wpAny_rule ⟨rfl,?_⟩));refine wpS_bind (Zao ea0 ?_);have m0:MH O a.toList b.toList #[a0].toList (a.size - 1) b.size:=by
  refine MH.takeA (out:=[]) (na:=a.size - 1) (nb:=b.size) ⟨?_,YbY,fun x hx y hy=>by cases hy⟩ sa ea0' fun y hy=>hlast a0 ea0 y (Ybo hy);rw[show a.size - 1+1=a.size by (clear hb;omega),Ybr (by simp),Ybr (by simp)];simp
 dsimp only;by_cases c1:a.size - 1=0
 ·rw[if_pos (by simpa using c1)];rw[c1] at m0 ⊢;exact wpS_pure (h _ _ Gal.refl (done m0))
 rw[if_neg (by simpa using c1)];by_cases c2:b.size=1
 ·rw[if_pos (by simpa using c2)];rw[c2] at m0;rw[c2];exact wpS_pure (h _ _ Gal.refl (first m0))
 rw[if_neg (by simpa using c2)];refine wpS_bind (wpS_get ?_);refine wpS_bind (wpS_mono (wpS_forRange
  (I:=fun x c st'=>Gal st st'/\∃ (out:Array Keyed) (na nb g:Nat),c=((none:Option (Array Keyed)),na,nb,out,g)/\MH O a.toList b.toList out.toList na nb/\1<=na/\na<=a.size/\2<=nb/\nb<=b.size/\x+na+nb<=a.size+b.size)
  (Q:=fun c st'=>Gal st st'/\∃ (r out:Array Keyed) (na nb g:Nat),c=(some r,na,nb,out,g)/\Mg O a.toList b.toList r.toList) ?step ?fin ⟨Gal.refl,#[a0],a.size - 1,b.size,gallopOf st,rfl,m0,by (clear c2 hb ha;omega),by (clear c2 c1 hb ha;omega),by (clear c1 ha;omega),by (clear c2 c1 hb ha;omega),show 0+(a.size - 1)+b.size<=_ by (clear c2 c1 hb ha;omega)⟩) ?post)
 case fin=>
  rintro c st' ⟨_,out,na,nb,g,rfl,_,h1,h1',h2,h2',h3⟩
  (clear h2' h2 h1' c2 c1 hb ha;omega)
 case post=>
  rintro c st' ⟨hG,r,out,na,nb,g,rfl,hm⟩;exact wpS_pure (h r st' hG hm)
 case step=>
  rintro x c st1 _ hx ⟨hG1,out,na,nb,g,rfl,hm,h1,h1',h2,h2',h3⟩;dsimp only;have hk1:kindOf st1=knd:=hG1.1.trans hk;refine wpS_bind (wpS_mono (wpS_forRange
   (I:=fun y c st'=>st'=st1/\∃ (out:Array Keyed) (na nb p q:Nat),c=((none:Option (Array Keyed)),na,nb,out,p,q)/\MH O a.toList b.toList out.toList na nb/\1<=na/\na<=a.size/\2<=nb/\nb<=b.size/\x+y+na+nb<=a.size+b.size)
   (Q:=fun c st'=>st'=st1/\((∃ (r out:Array Keyed) (na nb p q:Nat),c=(some r,na,nb,out,p,q)/\Mg O a.toList b.toList r.toList) ∨
    (∃ (out:Array Keyed) (na nb p q:Nat),c=(none,na,nb,out,p,q)/\MH O a.toList b.toList out.toList na nb/\1<=na/\na<=a.size/\2<=nb/\nb<=b.size/\x+1+na+nb<=a.size+b.size))) ?step1 ?fin1 ⟨rfl,out,na,nb,0,0,rfl,hm,h1,h1',h2,h2',by (clear h2' h2 h1' h1 hx c2 c1 hb ha;omega)⟩) ?post1)
  case fin1=>
   rintro c st' ⟨rfl,out,na,nb,p,q,rfl,hm,h1,h1',h2,h2',h3⟩;exact⟨rfl,.inr ⟨out,na,nb,p,q,rfl,hm,h1,h1',h2,h2',by (clear h2' h2 h1' h1 hx c2 c1 hb ha;omega)⟩⟩
  case step1=>
   rintro y c st' _ hy ⟨rfl,out,na,nb,p,q,rfl,hm,h1,h1',h2,h2',h3⟩;dsimp only;obtain⟨u,eu,eu',mu⟩:=ZaB (a:=b) (i:=nb - 1) (by (clear h3 h2 h1' h1 hy hx c2 c1 hb ha;omega));obtain⟨v,ev,ev',mv⟩:=ZaB (a:=a) (i:=na - 1) (by (clear h3 h2' h2 h1 hy hx c2 c1 hb ha;omega));refine wpS_bind (Zao eu (wpS_bind (Zao ev ?_)));refine wpS_bind (ZeE hA hk1 (okb u mu) (oka v mv) ?_)
   cases e:O.blt (O.ky u) (O.ky v) with
   | true=>
    simp only[if_true];refine wpS_bind (Zao ev ?_);have m2:=pA h1 hm ev fun z hz=>KO.le_trans (leT sb (by (clear h3 h2' h1' h1 hy hx c2 c1 hb ha;omega)) eu' z hz) (KO.le_of_lt e);by_cases c3:na - 1=0
    ·rw[if_pos (by simpa using c3)];rw[c3] at m2 ⊢;exact wpS_pure ⟨rfl,.inl ⟨_,_,_,_,_,_,rfl,done m2⟩⟩
    rw[if_neg (by simpa using c3)];refine Zaz (fun _=>?_) (fun _=>?_)
    ·exact wpS_pure ⟨rfl,.inr ⟨_,_,_,_,_,rfl,m2,by (clear h3 h2' h2 h1' h1 hy hx c2 c1 hb ha;omega),by (clear c3 h3 h2' h2 h1 hy hx c2 c1 hb ha;omega),by (clear c3 h3 h2' h1' h1 hy hx c2 c1 hb ha;omega),by (clear c3 h3 h2 h1' h1 hy hx c2 c1 hb ha;omega),by (clear c3 h2' h2 h1' hy hx c2 c1 hb ha;omega)⟩⟩
    ·exact wpS_pure ⟨rfl,_,_,_,_,_,rfl,m2,by (clear h3 h2' h2 h1' h1 hy hx c2 c1 hb ha;omega),by (clear c3 h3 h2' h2 h1 hy hx c2 c1 hb ha;omega),by (clear c3 h3 h2' h1' h1 hy hx c2 c1 hb ha;omega),by (clear c3 h3 h2 h1' h1 hy hx c2 c1 hb ha;omega),by (clear c3 h2' h2 h1' hy hx c2 c1 hb ha;omega)⟩
   | false=>
    simp only[YaR,if_false];refine wpS_bind (Zao eu ?_);have m2:=pB (by (clear h3 h2' h1' h1 hy hx c2 c1 hb ha;omega)) hm eu fun z hz=>KO.le_trans (leT sa (by (clear h3 h2' h2 h1' hy hx c2 c1 hb ha;omega)) ev' z hz) (show O.le v u from e);by_cases c3:nb - 1=1
    ·rw[if_pos (by simpa using c3)];rw[c3] at m2 ⊢;exact wpS_pure ⟨rfl,.inl ⟨_,_,_,_,_,_,rfl,first m2⟩⟩
    rw[if_neg (by simpa using c3)];refine Zaz (fun _=>?_) (fun _=>?_)
    ·exact wpS_pure ⟨rfl,.inr ⟨_,_,_,_,_,rfl,m2,by (clear c3 h3 h2' h2 h1' hy hx c2 c1 hb ha;omega),by (clear c3 h3 h2' h2 h1 hy hx c2 c1 hb ha;omega),by (clear h3 h2' h1' h1 hy hx c2 c1 hb ha;omega),by (clear c3 h3 h2 h1' h1 hy hx c2 c1 hb ha;omega),by (clear c3 h2' h1' h1 hy hx c2 c1 hb ha;omega)⟩⟩
    ·exact wpS_pure ⟨rfl,_,_,_,_,_,rfl,m2,by (clear c3 h3 h2' h2 h1' hy hx c2 c1 hb ha;omega),by (clear c3 h3 h2' h2 h1 hy hx c2 c1 hb ha;omega),by (clear h3 h2' h1' h1 hy hx c2 c1 hb ha;omega),by (clear c3 h3 h2 h1' h1 hy hx c2 c1 hb ha;omega),by (clear c3 h2' h1' h1 hy hx c2 c1 hb ha;omega)⟩
  case post1=>
   rintro c st' ⟨rfl,⟨r,out,na,nb,p,q,rfl,hr⟩ | ⟨out,na,nb,p,q,rfl,hm,h1,h1',h2,h2',h3⟩⟩
   ·exact wpS_pure ⟨hG1,_,_,_,_,_,rfl,hr⟩
   dsimp only;refine wpS_bind (wpS_lift (wpAny_rule ⟨rfl,?_⟩));refine wpS_bind (wpS_mono (wpS_forRange
    (I:=fun y c st'=>Gal st st'/\∃ (out:Array Keyed) (na nb g p q:Nat),c=((none:Option (Array Keyed)),na,nb,out,g,p,q)/\MH O a.toList b.toList out.toList na nb/\1<=na/\na<=a.size/\2<=nb/\nb<=b.size/\x+1+na+nb<=a.size+b.size)
    (Q:=fun c st'=>Gal st st'/\((∃ (r out:Array Keyed) (na nb g p q:Nat),c=(some r,na,nb,out,g,p,q)/\Mg O a.toList b.toList r.toList) ∨
     (∃ (out:Array Keyed) (na nb g p q:Nat),c=(none,na,nb,out,g,p,q)/\MH O a.toList b.toList out.toList na nb/\1<=na/\na<=a.size/\2<=nb/\nb<=b.size/\x+1+na+nb<=a.size+b.size))) ?step2 ?fin2 ⟨hG1,out,na,nb,g+1,p,q,rfl,hm,h1,h1',h2,h2',h3⟩) ?post2)
   case fin2=>
    rintro c st' ⟨hG,out,na,nb,g,p,q,rfl,hm,h1,h1',h2,h2',h3⟩;exact⟨hG,.inr ⟨out,na,nb,g,p,q,rfl,hm,h1,h1',h2,h2',h3⟩⟩
   case post2=>
    rintro c st' ⟨hG,⟨r,out,na,nb,g,p,q,rfl,hr⟩ | ⟨out,na,nb,g,p,q,rfl,hm,h1,h1',h2,h2',h3⟩⟩
    ·exact wpS_pure ⟨hG,_,_,_,_,_,rfl,hr⟩
    exact wpS_bind (Za1 hG fun st2 hG2=>wpS_pure ⟨hG2,_,_,_,_,rfl,hm,h1,h1',h2,h2',h3⟩)
   case step2=>
    rintro y c st' _ hy ⟨hG,out,na,nb,g,p,q,rfl,hm,h1,h1',h2,h2',h3⟩;dsimp only;obtain⟨u,eu,eu',mu⟩:=ZaB (a:=b) (i:=nb - 1) (by (clear h3 h2 h1' h1 hy hx c2 c1 hb ha;omega));refine Zaz (fun cg=>?_) (fun cg=>?_)
    all_goals
     refine wpS_bind (Za1 hG fun st2 hG2=>wpS_bind (Zao eu ?_));refine wpS_bind (ZbI hA (hG2.1.trans hk) (okb u mu) oka (by (clear cg h3 h2' h2 h1 hy hx c2 c1 hb ha;omega)) (srtA sa _ _) (by (clear cg h3 h2' h2 h1' hy hx c2 c1 hb ha;omega)) fun k hk1 b1 b2=>?_);have m3:=hm.takeAs sa (by simp;(clear hk1 cg h3 h2' h2 h1 hy hx c2 c1 hb ha;omega)) (na - k) (by (clear hk1 cg h3 h2' h2 h1' h1 hy hx c2 c1 hb ha;omega)) fun i z h6 h7 e y hy=>KO.le_trans (leT sb (by (clear h7 h6 hk1 cg h3 h2' h1' h1 hx c2 c1 hb ha;omega)) eu' y hy) (KO.le_of_lt (b2 i z (by (clear h7 cg h3 h2' h2 h1' h1 hx c2 c1 hb ha;omega)) (by (clear h6 hk1 cg h3 h2' h2 h1' h1 hx c2 c1 hb ha;omega)) (by rw[YbG,<- Yan];exact e)));rw[show na - (na - k)=k by (clear cg h3 h2' h2 h1' h1 hy hx c2 c1 hb ha;omega)] at m3;have hu:∀ z∈a.toList.take k,O.le z u:=by
      intro z hz;obtain⟨j,hj,e⟩:=ZaL hz;refine b1 j z hj ?_;rw[YbG,<- Yan];exact e
     dsimp only;by_cases ck:na - k > 0
     ·rw[if_pos ck];rw[<- Zev,<- Ycb,<- Ya5] at m3;by_cases c3:k=0
      ·rw[if_pos (by simpa using c3)];rw[c3] at m3 ⊢;exact wpS_pure ⟨hG2,.inl ⟨_,_,_,_,_,_,_,rfl,done m3⟩⟩
      rw[if_neg (by simpa using c3)];refine wpS_bind (Zao eu ?_);have m4:=pB (by (clear c3 ck hk1 cg h3 h2' h1' h1 hy hx c2 c1 hb ha;omega)) m3 eu hu;by_cases c4:nb - 1=1
      ·rw[if_pos (by simpa using c4)];rw[c4] at m4 ⊢;exact wpS_pure ⟨hG2,.inl ⟨_,_,_,_,_,_,_,rfl,first m4⟩⟩
      rw[if_neg (by simpa using c4)];obtain⟨v,ev,ev',mv⟩:=ZaB (a:=a) (i:=k - 1) (by (clear c4 c3 ck cg h3 h2' h2 h1 hy hx c2 c1 hb ha;omega));refine wpS_bind (Zao ev ?_);refine wpS_bind (Za5 hA (hG2.1.trans hk) (oka v mv) okb (by (clear c4 c3 ck hk1 cg h3 h2 h1' h1 hy hx c2 c1 hb ha;omega)) (srtA sb _ _) (by (clear c4 c3 ck hk1 cg h3 h2' h1' h1 hy hx c2 c1 hb ha;omega)) fun k2 hk2 d1 d2=>?_);have hk20:1<=k2:=by
       rcases Ydr k2 with z | z
       ·obtain⟨zl,el,_,_⟩:=ZaB (a:=b) (i:=0) (by (clear z hk2 c4 c3 ck hk1 cg h3 h2' h2 h1' h1 hy hx c2 c1 hb ha;omega));have q1:=hfirst zl el v mv;have q2:=d2 0 zl (by (clear hk2 c4 c3 ck hk1 cg h3 h2' h2 h1' h1 hy hx c2 c1 hb ha;omega)) (by (clear z hk2 c4 c3 ck hk1 cg h3 h2' h1' h1 hy hx c2 c1 hb ha;omega)) (by rw[YbG];exact el);rw[show O.blt (O.ky zl) (O.ky v)=false from q2] at q1;cases q1
       ·exact z
      have m5:=m4.takeBs sb (by simp;(clear hk20 hk2 c4 c3 ck hk1 cg h3 h2 h1' h1 hy hx c2 c1 hb ha;omega)) (nb - 1 - k2) (by (clear hk20 hk2 c4 c3 ck hk1 cg h3 h2' h2 h1' h1 hy hx c2 c1 hb ha;omega)) fun i z h6 h7 e y hy=>KO.le_trans (leT sa (by (clear h7 h6 hk20 hk2 c4 ck hk1 cg h3 h2' h2 h1' h1 hx c2 c1 hb ha;omega)) ev' y hy) (d2 i z (by (clear h7 hk20 c4 c3 ck hk1 cg h3 h2' h2 h1' h1 hx c2 c1 hb ha;omega)) (by (clear h6 hk20 hk2 c4 c3 ck hk1 cg h3 h2' h2 h1' h1 hx c2 c1 hb ha;omega)) (by rw[YbG,<- Yan];exact e));rw[show nb - 1 - (nb - 1 - k2)=k2 by (clear hk20 c4 c3 ck hk1 cg h3 h2' h2 h1' h1 hy hx c2 c1 hb ha;omega)] at m5;have hv:∀ z∈b.toList.take k2,O.le z v:=by
       intro z hz;obtain⟨j,hj,e⟩:=ZaL hz;refine KO.le_of_lt (d1 j z hj ?_);rw[YbG,<- Yan];exact e
      dsimp only;by_cases ck2:nb - 1 - k2 > 0
      ·rw[if_pos ck2];rw[<- Zev,<- Ycb,<- Ya5] at m5;by_cases c6:k2=1
       ·rw[if_pos (by simpa using c6)];rw[c6] at m5 ⊢;exact wpS_pure ⟨hG2,.inl ⟨_,_,_,_,_,_,_,rfl,first m5⟩⟩
       rw[if_neg (by simpa using c6),if_neg (by simp;(clear c6 ck2 hk2 c4 c3 ck hk1 cg h3 h2' h2 h1' h1 hy hx c2 c1 hb ha;omega))];obtain⟨v2,ev2,ev2',mv2⟩:=ZaB (a:=a) (i:=k - 1) (by (clear c6 ck2 hk20 hk2 c4 c3 ck cg h3 h2' h2 h1 hy hx c2 c1 hb ha;omega));refine wpS_bind (Zao ev2 ?_);have ee:v2=v:=Yaw (ev2.symm.trans ev);subst ee;have m7:=pA (by (clear c6 ck2 hk20 hk2 c4 ck hk1 cg h3 h2' h2 h1' h1 hy hx c2 c1 hb ha;omega)) m5 ev2 hv;by_cases c7:k - 1=0
       ·rw[if_pos (by simpa using c7)];rw[c7] at m7 ⊢;exact wpS_pure ⟨hG2,.inl ⟨_,_,_,_,_,_,_,rfl,done m7⟩⟩
       rw[if_neg (by simpa using c7)];refine Zaz (fun _=>?_) (fun _=>?_)
       ·exact wpS_pure ⟨hG2,.inr ⟨_,_,_,_,_,_,rfl,m7,by (clear c6 ck2 hk20 hk2 c4 c3 ck hk1 cg h3 h2' h2 h1' h1 hy hx c2 c1 hb ha;omega),by (clear c7 c6 ck2 hk20 hk2 c4 c3 ck cg h3 h2' h2 h1 hy hx c2 c1 hb ha;omega),by (clear c7 ck2 hk2 c4 c3 ck hk1 cg h3 h2' h2 h1' h1 hy hx c2 c1 hb ha;omega),by (clear c7 c6 ck2 hk20 c4 c3 ck hk1 cg h3 h2 h1' h1 hy hx c2 c1 hb ha;omega),by (clear c7 c6 ck2 hk20 c4 c3 ck cg h2' h2 h1' h1 hy hx c2 c1 hb ha;omega)⟩⟩
       ·exact wpS_pure ⟨hG2,_,_,_,_,_,_,rfl,m7,by (clear c6 ck2 hk20 hk2 c4 c3 ck hk1 cg h3 h2' h2 h1' h1 hy hx c2 c1 hb ha;omega),by (clear c7 c6 ck2 hk20 hk2 c4 c3 ck cg h3 h2' h2 h1 hy hx c2 c1 hb ha;omega),by (clear c7 ck2 hk2 c4 c3 ck hk1 cg h3 h2' h2 h1' h1 hy hx c2 c1 hb ha;omega),by (clear c7 c6 ck2 hk20 c4 c3 ck hk1 cg h3 h2 h1' h1 hy hx c2 c1 hb ha;omega),by (clear c7 c6 ck2 hk20 c4 c3 ck cg h2' h2 h1' h1 hy hx c2 c1 hb ha;omega)⟩
      ·rw[if_neg ck2];have k0:nb - 1=k2:=by (clear hk20 c4 c3 ck hk1 cg h3 h2' h2 h1' h1 hy hx c2 c1 hb ha;omega)
       rw[show nb - 1 - k2=0 by (clear k0 hk20 hk2 c4 c3 ck hk1 cg h3 h2' h2 h1' h1 hy hx c2 c1 hb ha;omega),Ybv,Yc2,YbC] at m5;rw[k0];obtain⟨v2,ev2,ev2',mv2⟩:=ZaB (a:=a) (i:=k - 1) (by (clear k0 ck2 hk20 hk2 c4 c3 ck cg h3 h2' h2 h1 hy hx c2 c1 hb ha;omega));refine wpS_bind (Zao ev2 ?_);have ee:v2=v:=Yaw (ev2.symm.trans ev);subst ee;have m7:=pA (by (clear k0 ck2 hk20 hk2 c4 ck hk1 cg h3 h2' h2 h1' h1 hy hx c2 c1 hb ha;omega)) m5 ev2 hv;by_cases c7:k - 1=0
       ·rw[if_pos (by simpa using c7)];rw[c7] at m7 ⊢;exact wpS_pure ⟨hG2,.inl ⟨_,_,_,_,_,_,_,rfl,done m7⟩⟩
       rw[if_neg (by simpa using c7)];refine Zaz (fun _=>?_) (fun _=>?_)
       ·exact wpS_pure ⟨hG2,.inr ⟨_,_,_,_,_,_,rfl,m7,by (clear k0 ck2 hk20 hk2 c4 c3 ck hk1 cg h3 h2' h2 h1' h1 hy hx c2 c1 hb ha;omega),by (clear c7 k0 ck2 hk20 hk2 c4 c3 ck cg h3 h2' h2 h1 hy hx c2 c1 hb ha;omega),by (clear c7 k0 hk20 hk2 c3 ck hk1 cg h3 h2' h1' h1 hy hx c2 c1 hb ha;omega),by (clear c7 k0 ck2 hk20 c4 c3 ck hk1 cg h3 h2 h1' h1 hy hx c2 c1 hb ha;omega),by (clear c7 k0 ck2 hk20 c4 c3 ck cg h2' h2 h1' h1 hy hx c2 c1 hb ha;omega)⟩⟩
       ·exact wpS_pure ⟨hG2,_,_,_,_,_,_,rfl,m7,by (clear k0 ck2 hk20 hk2 c4 c3 ck hk1 cg h3 h2' h2 h1' h1 hy hx c2 c1 hb ha;omega),by (clear c7 k0 ck2 hk20 hk2 c4 c3 ck cg h3 h2' h2 h1 hy hx c2 c1 hb ha;omega),by (clear c7 k0 hk20 hk2 c3 ck hk1 cg h3 h2' h1' h1 hy hx c2 c1 hb ha;omega),by (clear c7 k0 ck2 hk20 c4 c3 ck hk1 cg h3 h2 h1' h1 hy hx c2 c1 hb ha;omega),by (clear c7 k0 ck2 hk20 c4 c3 ck cg h2' h2 h1' h1 hy hx c2 c1 hb ha;omega)⟩
     ·rw[if_neg ck];have k0:na=k:=by (clear cg h3 h2' h2 h1' h1 hy hx c2 c1 hb ha;omega)
      rw[show na - k=0 by (clear k0 hk1 cg h3 h2' h2 h1' h1 hy hx c2 c1 hb ha;omega),Ybv,Yc2,YbC] at m3;rw[k0];refine wpS_bind (Zao eu ?_);have m4:=pB (by (clear k0 ck hk1 cg h3 h2' h1' h1 hy hx c2 c1 hb ha;omega)) m3 eu hu;by_cases c4:nb - 1=1
      ·rw[if_pos (by simpa using c4)];rw[c4] at m4 ⊢;exact wpS_pure ⟨hG2,.inl ⟨_,_,_,_,_,_,_,rfl,first m4⟩⟩
      rw[if_neg (by simpa using c4)];obtain⟨v,ev,ev',mv⟩:=ZaB (a:=a) (i:=k - 1) (by (clear c4 k0 ck cg h3 h2' h2 h1 hy hx c2 c1 hb ha;omega));refine wpS_bind (Zao ev ?_);refine wpS_bind (Za5 hA (hG2.1.trans hk) (oka v mv) okb (by (clear c4 k0 ck hk1 cg h3 h2 h1' h1 hy hx c2 c1 hb ha;omega)) (srtA sb _ _) (by (clear c4 k0 ck hk1 cg h3 h2' h1' h1 hy hx c2 c1 hb ha;omega)) fun k2 hk2 d1 d2=>?_);have hk20:1<=k2:=by
       rcases Ydr k2 with z | z
       ·obtain⟨zl,el,_,_⟩:=ZaB (a:=b) (i:=0) (by (clear z hk2 c4 k0 ck hk1 cg h3 h2' h2 h1' h1 hy hx c2 c1 hb ha;omega));have q1:=hfirst zl el v mv;have q2:=d2 0 zl (by (clear hk2 c4 k0 ck hk1 cg h3 h2' h2 h1' h1 hy hx c2 c1 hb ha;omega)) (by (clear z hk2 c4 k0 ck hk1 cg h3 h2' h1' h1 hy hx c2 c1 hb ha;omega)) (by rw[YbG];exact el);rw[show O.blt (O.ky zl) (O.ky v)=false from q2] at q1;cases q1
       ·exact z
      have m5:=m4.takeBs sb (by simp;(clear hk20 hk2 c4 k0 ck hk1 cg h3 h2 h1' h1 hy hx c2 c1 hb ha;omega)) (nb - 1 - k2) (by (clear hk20 hk2 c4 k0 ck hk1 cg h3 h2' h2 h1' h1 hy hx c2 c1 hb ha;omega)) fun i z h6 h7 e y hy=>KO.le_trans (leT sa (by (clear h7 h6 hk20 hk2 c4 k0 hk1 cg h3 h2' h2 h1' hx c2 c1 hb ha;omega)) ev' y hy) (d2 i z (by (clear h7 hk20 c4 k0 ck hk1 cg h3 h2' h2 h1' h1 hx c2 c1 hb ha;omega)) (by (clear h6 hk20 hk2 c4 k0 ck hk1 cg h3 h2' h2 h1' h1 hx c2 c1 hb ha;omega)) (by rw[YbG,<- Yan];exact e));rw[show nb - 1 - (nb - 1 - k2)=k2 by (clear hk20 c4 k0 ck hk1 cg h3 h2' h2 h1' h1 hy hx c2 c1 hb ha;omega)] at m5;have hv:∀ z∈b.toList.take k2,O.le z v:=by
       intro z hz;obtain⟨j,hj,e⟩:=ZaL hz;refine KO.le_of_lt (d1 j z hj ?_);rw[YbG,<- Yan];exact e
      dsimp only;by_cases ck2:nb - 1 - k2 > 0
      ·rw[if_pos ck2];rw[<- Zev,<- Ycb,<- Ya5] at m5;by_cases c6:k2=1
       ·rw[if_pos (by simpa using c6)];rw[c6] at m5 ⊢;exact wpS_pure ⟨hG2,.inl ⟨_,_,_,_,_,_,_,rfl,first m5⟩⟩
       rw[if_neg (by simpa using c6),if_neg (by simp;(clear c6 ck2 hk2 c4 k0 ck hk1 cg h3 h2' h2 h1' h1 hy hx c2 c1 hb ha;omega))];obtain⟨v2,ev2,ev2',mv2⟩:=ZaB (a:=a) (i:=k - 1) (by (clear c6 ck2 hk20 hk2 c4 k0 ck cg h3 h2' h2 h1 hy hx c2 c1 hb ha;omega));refine wpS_bind (Zao ev2 ?_);have ee:v2=v:=Yaw (ev2.symm.trans ev);subst ee;have m7:=pA (by (clear c6 ck2 hk20 hk2 c4 k0 hk1 cg h3 h2' h2 h1' hy hx c2 c1 hb ha;omega)) m5 ev2 hv;by_cases c7:k - 1=0
       ·rw[if_pos (by simpa using c7)];rw[c7] at m7 ⊢;exact wpS_pure ⟨hG2,.inl ⟨_,_,_,_,_,_,_,rfl,done m7⟩⟩
       rw[if_neg (by simpa using c7)];refine Zaz (fun _=>?_) (fun _=>?_)
       ·exact wpS_pure ⟨hG2,.inr ⟨_,_,_,_,_,_,rfl,m7,by (clear c6 ck2 hk20 hk2 c4 k0 ck hk1 cg h3 h2' h2 h1' h1 hy hx c2 c1 hb ha;omega),by (clear c7 c6 ck2 hk20 hk2 c4 k0 ck cg h3 h2' h2 h1 hy hx c2 c1 hb ha;omega),by (clear c7 ck2 hk2 c4 k0 ck hk1 cg h3 h2' h2 h1' h1 hy hx c2 c1 hb ha;omega),by (clear c7 c6 ck2 hk20 c4 k0 ck hk1 cg h3 h2 h1' h1 hy hx c2 c1 hb ha;omega),by (clear c7 c6 ck2 hk20 c4 k0 ck cg h2' h2 h1' h1 hy hx c2 c1 hb ha;omega)⟩⟩
       ·exact wpS_pure ⟨hG2,_,_,_,_,_,_,rfl,m7,by (clear c6 ck2 hk20 hk2 c4 k0 ck hk1 cg h3 h2' h2 h1' h1 hy hx c2 c1 hb ha;omega),by (clear c7 c6 ck2 hk20 hk2 c4 k0 ck cg h3 h2' h2 h1 hy hx c2 c1 hb ha;omega),by (clear c7 ck2 hk2 c4 k0 ck hk1 cg h3 h2' h2 h1' h1 hy hx c2 c1 hb ha;omega),by (clear c7 c6 ck2 hk20 c4 k0 ck hk1 cg h3 h2 h1' h1 hy hx c2 c1 hb ha;omega),by (clear c7 c6 ck2 hk20 c4 k0 ck cg h2' h2 h1' h1 hy hx c2 c1 hb ha;omega)⟩
      ·rw[if_neg ck2];have k0:nb - 1=k2:=by (clear hk20 c4 k0 ck hk1 cg h3 h2' h2 h1' h1 hy hx c2 c1 hb ha;omega)
       rw[show nb - 1 - k2=0 by (clear k0 hk20 hk2 c4 ck hk1 cg h3 h2' h2 h1' h1 hy hx c2 c1 hb ha;omega),Ybv,Yc2,YbC] at m5;rw[k0];obtain⟨v2,ev2,ev2',mv2⟩:=ZaB (a:=a) (i:=k - 1) (by (clear k0 ck2 hk20 hk2 c4 ck hk1 cg h3 h2' h2 h1 hy hx c2 c1 hb ha;omega));refine wpS_bind (Zao ev2 ?_);have ee:v2=v:=Yaw (ev2.symm.trans ev);subst ee;have m7:=pA (by (clear k0 ck2 hk20 hk2 c4 ck hk1 cg h3 h2' h2 h1' hy hx c2 c1 hb ha;omega)) m5 ev2 hv;by_cases c7:k - 1=0
       ·rw[if_pos (by simpa using c7)];rw[c7] at m7 ⊢;exact wpS_pure ⟨hG2,.inl ⟨_,_,_,_,_,_,_,rfl,done m7⟩⟩
       rw[if_neg (by simpa using c7)];refine Zaz (fun _=>?_) (fun _=>?_)
       ·exact wpS_pure ⟨hG2,.inr ⟨_,_,_,_,_,_,rfl,m7,by (clear k0 ck2 hk20 hk2 c4 ck hk1 cg h3 h2' h2 h1' h1 hy hx c2 c1 hb ha;omega),by (clear c7 k0 ck2 hk20 hk2 c4 ck hk1 cg h3 h2' h2 h1 hy hx c2 c1 hb ha;omega),by (clear c7 k0 hk20 hk2 ck hk1 cg h3 h2' h1' h1 hy hx c2 c1 hb ha;omega),by (clear c7 k0 ck2 hk20 c4 ck hk1 cg h3 h2 h1' h1 hy hx c2 c1 hb ha;omega),by (clear c7 k0 ck2 hk20 c4 ck hk1 cg h2' h2 h1' h1 hy hx c2 c1 hb ha;omega)⟩⟩
       ·exact wpS_pure ⟨hG2,_,_,_,_,_,_,rfl,m7,by (clear k0 ck2 hk20 hk2 c4 ck hk1 cg h3 h2' h2 h1' h1 hy hx c2 c1 hb ha;omega),by (clear c7 k0 ck2 hk20 hk2 c4 ck hk1 cg h3 h2' h2 h1 hy hx c2 c1 hb ha;omega),by (clear c7 k0 hk20 hk2 ck hk1 cg h3 h2' h1' h1 hy hx c2 c1 hb ha;omega),by (clear c7 k0 ck2 hk20 c4 ck hk1 cg h3 h2 h1' h1 hy hx c2 c1 hb ha;omega),by (clear c7 k0 ck2 hk20 c4 ck hk1 cg h2' h2 h1' h1 hy hx c2 c1 hb ha;omega)⟩
def ka (O:KO) (xs:Array Keyed) (i:Nat):O.α:=O.ky ((xs[i]?).getD (.none,.none))
def Up (O:KO) (lo n:Nat) (xs:Array Keyed):Prop:=∀ i j,i<=j->j<n->O.kle (ka O xs (lo+i)) (ka O xs (lo+j))
def Dn (O:KO) (lo n:Nat) (xs:Array Keyed):Prop:=∀ i j,i<=j->j<n->O.kle (ka O xs (lo+j)) (ka O xs (lo+i))
structure FB (knd:SortKind) (b₀:Array Keyed) (p₀:Array (Nat × Nat × Nat)) (lo:Nat) (st:SortSt):Prop where
 perm:(arrOf st).Perm b₀
 keep:∀ i,i<lo->(arrOf st)[i]?=b₀[i]?
 kind:kindOf st=knd
 failed:failedOf st=none
 pend:pendingOf st=p₀
section
variable {b₀:Array Keyed}{p₀:Array (Nat × Nat × Nat)}{lo:Nat}
theorem FB.size (h:FB knd b₀ p₀ lo st):(arrOf st).size=b₀.size:=h.perm.size_eq
theorem FB.put {xs:Array Keyed} (h:FB knd b₀ p₀ lo st) (hp:xs.Perm (arrOf st)) (hx:∀ i,i<lo->xs[i]?=(arrOf st)[i]?):FB knd b₀ p₀ lo (setArr st xs) :=
 ⟨hp.trans h.perm,fun i hi=>(hx i hi).trans (h.keep i hi),h.kind,h.failed,h.pend⟩
theorem FB.mir (h:FB knd b₀ p₀ lo st) {i j:Nat} (hi:lo<=i) (hj:j<=b₀.size):FB knd b₀ p₀ lo (setArr st (mirror (arrOf st) i j ((j - i) / 2))) :=
 h.put (mirror_perm _ _ _ _) fun k hk=>by rw[getElem?_mirror_all (by rw[h.size];exact hj),if_neg (by (clear hj;omega))]
theorem Zb5 {xs ys:Array Keyed}{i j:Nat} (h:xs[i]?=ys[j]?):ka O xs i=ka O ys j:=by unfold ka;rw[h]
theorem ZiL {xs:Array Keyed}{i j:Nat} (hj:j<=xs.size) (k:Nat):ka O (mirror xs i j ((j - i) / 2)) k=if i<=k/\k<j then ka O xs (i+j - 1 - k) else ka O xs k:=by
 have e:=getElem?_mirror_all (i:=i) hj k;split
 ·rename_i c;rw[if_pos c] at e;exact Zb5 e
 ·rename_i c;rw[if_neg c] at e;exact Zb5 e
theorem ZbR {xs:Array Keyed}{i j:Nat} (hj:j<=xs.size) (he:∀ k,i<=k->k<j->ka O xs k=ka O xs (j - 1)) (k:Nat):ka O (mirror xs i j ((j - i) / 2)) k=ka O xs k:=by
 rw[ZiL hj];split
 ·rw[he _ (by (clear hj;omega)) (by (clear hj;omega)),he k (by (clear hj;omega)) (by (clear hj;omega))]
 ·rfl
theorem ZkW {xs:Array Keyed}{src d:Nat} (hs:src<xs.size) (hd:d<=src) (k:Nat):ka O (bubble xs src d) k=if k=src - d then ka O xs src else if src - d<k/\k<=src then ka O xs (k - 1) else ka O xs k:=by
 have e:=getElem?_bubble hs d hd k;split
 ·rename_i c;rw[if_pos c] at e;exact Zb5 e
 ·rename_i c;rw[if_neg c] at e;split
  ·rename_i c2;rw[if_pos c2] at e;exact Zb5 e
  ·rename_i c2;rw[if_neg c2] at e;exact Zb5 e
theorem ZcH {i j:Nat}{Q:Option Bool->SortSt->Prop} (hA:Asks prog w A s O knd ok) (h0:∀ x∈b₀.toList,ok x) (hF:FB knd b₀ p₀ lo st) (hi:i<b₀.size) (hj:j<b₀.size) (h:Q (some (O.blt (ka O (arrOf st) i) (ka O (arrOf st) j))) st):wpS (model prog w) A E s (ltAt' i j) Q st:=by
 obtain⟨x,ex,_,mx⟩:=ZaB (a:=arrOf st) (i:=i) (by rw[hF.size];exact hi);obtain⟨y,ey,_,my⟩:=ZaB (a:=arrOf st) (i:=j) (by rw[hF.size];exact hj);have pm:=YdX.mp hF.perm;rw[ltAt'_eq];refine wpS_bind (wpS_get ?_);refine wpS_bind (Zao ex (wpS_bind (Zao ey ?_)));refine ZeE hA hF.kind (h0 x (pm.mem_iff.mp mx)) (h0 y (pm.mem_iff.mp my)) ?_;unfold ka at h;rw[ex,ey] at h;exact h
theorem Zbl {i j:Nat}{Q:Unit->SortSt->Prop} (h:Q () (setArr st (mirror (arrOf st) i j ((j - i) / 2)))):wpS (model prog w) A E s (reverseSlice' i j) Q st:=by
 rw[reverseSlice'_eq];exact wpS_modify h
def ascL (lo a nrem:Nat):StateT SortSt Sem (Option (Option Nat) × Nat) :=
 forIn [a:nrem] ((none,a):Option (Option Nat) × Nat) fun _ c=>ltAt' (lo+c.2) (lo+c.2 - 1) >>= fun x=>match x with
  | some sm=>if sm=true then pure (Yca (none,c.2)) else pure (Ya4 (none,c.2+1))
  | _=>pure (Yca (some none,c.2))
theorem ZbU {a nrem:Nat}{Q:Option (Option Nat) × Nat->SortSt->Prop} (hA:Asks prog w A s O knd ok) (h0:∀ x∈b₀.toList,ok x) (hF:FB knd b₀ p₀ lo st) (hn:lo+nrem<=b₀.size) (ha:1<=a) (hl:a<=nrem) (hu:Up O lo a (arrOf st))
  (h:∀ n,a<=n->n<=nrem->Up O lo n (arrOf st)->(n=nrem∨O.klt (ka O (arrOf st) (lo+n)) (ka O (arrOf st) (lo+n - 1)))->Q (none,n) st):wpS (model prog w) A E s (ascL lo a nrem) Q st:=by
 unfold ascL;refine wpS_forRange (I:=fun n c τ=>τ=st/\c=((none:Option (Option Nat)),n)/\Up O lo n (arrOf st)) ?go ?out ⟨rfl,rfl,hu⟩
 case out=>
  rintro c τ ⟨rfl,rfl,u⟩;rw[YdJ hl] at u ⊢;exact h nrem hl (Yag _) u (.inl rfl)
 case go=>
  rintro n c τ h1 h2 ⟨rfl,rfl,u⟩;refine wpS_bind (ZcH hA h0 hF (by dsimp only;(clear h1 hl ha;omega)) (by dsimp only;(clear h1 hl ha;omega)) ?_);dsimp only
  cases e:O.blt (ka O (arrOf τ) (lo+n)) (ka O (arrOf τ) (lo+n - 1)) with
  | true=>
   simp only[if_true];exact wpS_pure (h n h1 (by (clear h1 hl ha hn;omega)) u (.inr e))
  | false=>
   simp only[YaR,if_false];refine wpS_pure ⟨rfl,rfl,fun i j hij hj=>?_⟩;rcases YbD j n with z | z
   ·exact u i j hij z
   ·obtain rfl:j=n:=by (clear hij h2 h1 hl ha hn;omega)
    rcases YbD i j with y | y
    ·exact Ycv (u i (j - 1) (by (clear z hj h2 h1 hij hl ha hn;omega)) (by (clear y z hj h2 hij hl hn;omega))) (by rw[show lo+(j - 1)=lo+j - 1 by (clear y z hj h2 hij hl hn;omega)];exact e)
    ·obtain rfl:i=j:=by (clear z hj h2 h1 hl ha hn;omega)
     exact Yb5 _
theorem Zf7 {n:Nat}{xs:Array Keyed} (hd:Dn O lo n xs) (hsz:lo+n<=xs.size):Up O lo n (mirror xs lo (lo+n) ((lo+n - lo) / 2)):=by
 intro i j hij hj;rw[ZiL hsz,ZiL hsz,if_pos (by (clear hsz;omega)),if_pos (by (clear hij hsz;omega))];have q:=hd (n - 1 - j) (n - 1 - i) (by (clear hj hsz;omega)) (by (clear hij hsz;omega));rw[show lo+(n - 1 - j)=lo+(lo+n) - 1 - (lo+j) by (clear hij hsz;omega),show lo+(n - 1 - i)=lo+(lo+n) - 1 - (lo+i) by (clear hsz;omega)] at q;exact q
def dscL (lo n nrem:Nat):StateT SortSt Sem (Option (Option Nat) × Nat × Nat) :=
 forIn [n:nrem] ((none,n,0):Option (Option Nat) × Nat × Nat) fun _ c=>ltAt' (lo+c.2.1) (lo+c.2.1 - 1) >>= fun x=>match x with
  | some sm=>if sm=true then (if c.2.2 > 0 then reverseSlice' (lo+c.2.1 - (c.2.2+1)) (lo+c.2.1) >>= fun _=>pure (Ya4 (none,c.2.1+1,0)) else pure (Ya4 (none,c.2.1+1,0)))
   else ltAt' (lo+c.2.1 - 1) (lo+c.2.1) >>= fun y=>match y with
    | some lg=>if lg=true then pure (Yca (none,c.2.1,c.2.2)) else pure (Ya4 (none,c.2.1+1,c.2.2+1))
    | _=>pure (Yca (some none,c.2.1,c.2.2))
  | _=>pure (Yca (some none,c.2.1,c.2.2))
theorem Zf4 {n nrem:Nat}{Q:Option (Option Nat) × Nat × Nat->SortSt->Prop} (hA:Asks prog w A s O knd ok) (h0:∀ x∈b₀.toList,ok x) (hF:FB knd b₀ p₀ lo st) (hn:lo+nrem<=b₀.size) (h1:1<=n) (hl:n<=nrem) (hd:Dn O lo n (arrOf st))
  (h:∀ m e τ,FB knd b₀ p₀ lo τ->n<=m->m<=nrem->Dn O lo m (arrOf τ)->e+1<=m->(∀ i,m - (e+1)<=i->i<m->ka O (arrOf τ) (lo+i)=ka O (arrOf τ) (lo+m - 1))->Q (none,m,e) τ):wpS (model prog w) A E s (dscL lo n nrem) Q st:=by
 unfold dscL;refine wpS_forRange (I:=fun m c τ=>∃ e,c=((none:Option (Option Nat)),m,e)/\FB knd b₀ p₀ lo τ/\Dn O lo m (arrOf τ)/\e+1<=m/\∀ i,m - (e+1)<=i->i<m->ka O (arrOf τ) (lo+i)=ka O (arrOf τ) (lo+m - 1)) ?go ?out
  ⟨0,rfl,hF,hd,by (clear hl hn;omega),fun i h2 h3=>by congr 1;(clear hl h1 hn;omega)⟩
 case out=>
  rintro c τ ⟨e,rfl,hT,d,q,he⟩;rw[YdJ hl] at d q he ⊢;exact h nrem e τ hT hl (Yag _) d q he
 case go=>
  rintro m c τ h2 h3 ⟨e,rfl,hT,d,q,he⟩;have hsz:lo+m<=(arrOf τ).size:=by rw[hT.size];(clear q h2 hl h1;omega)
  have more:∀ xs:Array Keyed,(∀ k,ka O xs k=ka O (arrOf τ) k)->O.kle (ka O (arrOf τ) (lo+m)) (ka O (arrOf τ) (lo+m - 1))->Dn O lo (m+1) xs:=by
   intro xs hk hle i j hij hj;rw[hk,hk];rcases YbD j m with z | z
   ·exact d i j hij z
   ·obtain rfl:j=m:=by (clear hij hsz q h3 h2 hl h1 hn;omega)
    rcases YbD i j with y | y
    ·exact Ycv hle (by rw[show lo+j - 1=lo+(j - 1) by (clear y z hj hsz q h3 hij hl hn;omega)];exact d i (j - 1) (by (clear z hj hsz q h3 h2 hij hl h1 hn;omega)) (by (clear y z hj hsz q h3 hij hl hn;omega)))
    ·obtain rfl:i=j:=by (clear z hj hsz q h3 h2 hl h1 hn;omega)
     exact Yb5 _
  have eq1:∀ k,lo+m - (e+1)<=k->k<lo+m->ka O (arrOf τ) k=ka O (arrOf τ) (lo+m - 1):=fun k k1 k2=>by
   have:=he (k - lo) (by (clear k2 hsz q h3 h2 hl h1 hn;omega)) (by (clear k1 hsz q h3 hl hn;omega))
   rwa [show lo+(k - lo)=k by (clear k2 hsz h3 h2 hl h1 hn;omega)] at this
  refine wpS_bind (ZcH hA h0 hT (by dsimp only;(clear hsz q h2 hl h1;omega)) (by dsimp only;(clear hsz q h2 hl h1;omega)) ?_);dsimp only
  cases ew:O.blt (ka O (arrOf τ) (lo+m)) (ka O (arrOf τ) (lo+m - 1)) with
  | true=>
   simp only[if_true];refine Zaz (fun _=>?_) (fun _=>?_)
   ·exact wpS_bind (Zbl (wpS_pure ⟨0,rfl,hT.mir (by (clear hsz h3 h2 hl h1 hn;omega)) (by (clear hsz q h2 hl h1;omega)),more _ (ZbR hsz eq1) (Yb7 ew),by (clear hsz q h3 h2 hl h1 hn;omega),fun i h2 h3=>by congr 1;(clear hsz q hl h1 hn;omega)⟩))
   ·exact wpS_pure ⟨0,rfl,hT,more _ (fun _=>rfl) (Yb7 ew),by (clear hsz q h3 h2 hl h1 hn;omega),fun i h2 h3=>by congr 1;(clear hsz q hl h1 hn;omega)⟩
  | false=>
   simp only[YaR,if_false];refine wpS_bind (ZcH hA h0 hT (by (clear hsz q h2 hl h1;omega)) (by (clear hsz q h2 hl h1;omega)) ?_);dsimp only
   cases eg:O.blt (ka O (arrOf τ) (lo+m - 1)) (ka O (arrOf τ) (lo+m)) with
   | true=>
    simp only[if_true];exact wpS_pure (h m e τ hT h2 (by (clear hsz q h2 hl h1 hn;omega)) d q he)
   | false=>
    simp only[YaR,if_false];have hx:ka O (arrOf τ) (lo+m)=ka O (arrOf τ) (lo+m - 1):=Yeu (O:=O.toKeyOrd) eg ew;refine wpS_pure ⟨e+1,rfl,hT,more _ (fun _=>rfl) eg,by (clear hsz h3 h2 hl h1 hn;omega),fun i i1 i2=>?_⟩;rw[show lo+(m+1) - 1=lo+m by (clear i2 i1 hsz q h3 h2 hl h1 hn;omega)];rcases YbD i m with z | z
    ·rw[hx];exact he i (by (clear z i2 hsz q h3 h2 hl h1 hn;omega)) z
    ·obtain rfl:i=m:=by (clear i1 hsz q h3 h2 hl h1 hn;omega)
     rfl
theorem Zk7 {nrem:Nat}{Q:Option Nat->SortSt->Prop} (hA:Asks prog w A s O knd ok) (h0:∀ x∈b₀.toList,ok x) (hF:FB knd b₀ p₀ lo st) (hn:lo+nrem<=b₀.size) (h1:1<=nrem)
  (h:∀ m τ,FB knd b₀ p₀ lo τ->1<=m->m<=nrem->Up O lo m (arrOf τ)->Q (some m) τ):wpS (model prog w) A E s (countRun' lo nrem) Q st:=by
 refine wpS_bind (ZbU (a:=1) hA h0 hF hn (Yag 1) h1 (fun i j hij hj=>?_) fun n n1 n2 u hor=>?_)
 ·obtain rfl:i=j:=by (clear h1 hn;omega)
  exact Yb5 _
 dsimp only;by_cases c:n=nrem
 ·rw[if_pos (by simpa using c)];exact wpS_pure (h n st hF n1 n2 u)
 rw[if_neg (by simpa using c)];have hlt:=hor.resolve_left c;have hsz:lo+n<=(arrOf st).size:=by rw[hF.size];(clear c hor n1 h1;omega)
 by_cases cg:n > 1
 ·rw[if_pos cg];refine wpS_bind (ZcH hA h0 hF (by (clear cg hsz c hor n2 n1;omega)) (by (clear cg hsz c hor n1;omega)) ?_)
  cases e:O.blt (ka O (arrOf st) lo) (ka O (arrOf st) (lo+n - 1)) with
  | true=>
   simp only[if_true];exact wpS_pure (h n st hF n1 n2 u)
  | false=>
   simp only[YaR,if_false];have all:∀ k,lo<=k->k<lo+n->ka O (arrOf st) k=ka O (arrOf st) (lo+n - 1):=by
    intro k k1 k2;have a1:=u 0 (k - lo) (by (clear k2 k1 cg hsz c hor n2 n1 h1 hn;omega)) (by (clear k1 cg hsz c hor n2 h1 hn;omega));have a2:=u (k - lo) (n - 1) (by (clear k1 cg hsz c hor n2 n1 h1 hn;omega)) (by (clear k2 k1 cg hsz c hor n2 h1 hn;omega));rw[show lo+(k - lo)=k by (clear k2 cg hsz c hor n2 n1 h1 hn;omega)] at a1 a2;rw[show lo+(n - 1)=lo+n - 1 by (clear k2 k1 cg hsz c hor n2 h1 hn;omega)] at a2;exact Yeu a2 (Ycv (O:=O.toKeyOrd) e a1)
   refine wpS_bind (Zbl ?_);have hF7:=FB.mir hF (i:=lo) (j:=lo+n) (Yag _) (by (clear cg hsz c hor n1 h1;omega));have d7:Dn O lo (n+1) (arrOf (setArr st (mirror (arrOf st) lo (lo+n) ((lo+n - lo) / 2)))):=by
    intro i j hij hj;show O.kle (ka O (mirror (arrOf st) _ _ _) _) (ka O (mirror (arrOf st) _ _ _) _);rw[ZbR hsz all,ZbR hsz all];rcases YbD j n with z | z
    ·rw[all _ (by (clear z hj hij cg hsz c hor n2 n1 h1 hn;omega)) (show lo+j<lo+n by (clear hj hij cg hsz c hor n2 n1 h1 hn;omega)),all _ (by (clear z hj hij cg hsz c hor n2 n1 h1 hn;omega)) (show lo+i<lo+n by (clear hj cg hsz c hor n2 n1 h1 hn;omega))];exact Yb5 _
    ·obtain rfl:j=n:=by (clear hij cg hsz c hor n2 n1 h1 hn;omega)
     rcases YbD i j with y | y
     ·rw[all _ (by (clear y z hj cg hsz c hor n2 n1 hij h1 hn;omega)) (show lo+i<lo+j by (clear z hj cg hsz c hor n2 n1 hij h1 hn;omega))];exact Yb7 hlt
     ·obtain rfl:i=j:=by (clear z hj cg hsz c hor n2 n1 h1 hn;omega)
      exact Yb5 _
   refine wpS_bind (wpS_lift (wpAny_rule ⟨rfl,?_⟩));refine wpS_bind (Zf4 hA h0 hF7 hn (by (clear cg hsz c hor n2 n1 h1 hn;omega)) (by (clear cg hsz hor n1 h1 hn;omega)) d7 fun m e τ hT m1 m2 d q he=>?_);dsimp only;have hsz:lo+m<=(arrOf τ).size:=by rw[hT.size];(clear q m1 cg hsz c hor n2 n1 h1;omega)
   have eq1:∀ k,lo+m - (e+1)<=k->k<lo+m->ka O (arrOf τ) k=ka O (arrOf τ) (lo+m - 1):=fun k k1 k2=>by
    have:=he (k - lo) (by (clear k2 hsz q m2 m1 cg c hor n2 n1 h1 hn;omega)) (by (clear k1 hsz q m2 cg c hor n2 n1 h1 hn;omega))
    rwa [show lo+(k - lo)=k by (clear k2 hsz m2 m1 cg c hor n2 n1 h1 hn;omega)] at this
   refine Zaz (fun _=>?_) (fun _=>?_)
   ·refine wpS_bind (Zbl ?_);have hF8:=FB.mir hT (i:=lo+m - (e+1)) (j:=lo+m) (by (clear hsz m2 m1 cg c hor n2 n1 h1 hn;omega)) (by (clear hsz q m1 cg c hor n2 n1 h1;omega));have d8:Dn O lo m (arrOf (setArr τ (mirror (arrOf τ) (lo+m - (e+1)) (lo+m) ((lo+m - (lo+m - (e+1))) / 2)))):=by
     intro i j hij hj;show O.kle (ka O (mirror (arrOf τ) _ _ _) _) (ka O (mirror (arrOf τ) _ _ _) _);rw[ZbR hsz eq1,ZbR hsz eq1];exact d i j hij hj
    refine wpS_bind (Zbl ?_);have hF9:=FB.mir hF8 (i:=lo) (j:=lo+m) (Yag _) (by (clear hsz q m1 cg c hor n2 n1 h1;omega));refine wpS_bind (ZbU hA h0 hF9 hn (by (clear hsz q m2 cg c hor n2 n1 h1 hn;omega)) m2 (Zf7 d8 (by rw[FB.size hF8];(clear hsz q m1 cg c hor n2 n1 h1;omega))) fun m' m1' m2' u' _=>wpS_pure (h m' _ hF9 (by (clear m2' hsz q m2 cg c hor n2 n1 h1 hn;omega)) m2' u'))
   ·
    refine wpS_bind (Zbl ?_);have hF9:=FB.mir hT (i:=lo) (j:=lo+m) (Yag _) (by (clear hsz q m1 cg c hor n2 n1 h1;omega));refine wpS_bind (ZbU hA h0 hF9 hn (by (clear hsz q m2 cg c hor n2 n1 h1 hn;omega)) m2 (Zf7 d (by rw[FB.size hT];(clear hsz q m1 cg c hor n2 n1 h1;omega))) fun m' m1' m2' u' _=>wpS_pure (h m' _ hF9 (by (clear m2' hsz q m2 cg c hor n2 n1 h1 hn;omega)) m2' u'))
 ·rw[if_neg cg];obtain rfl:n=1:=by (clear hsz c hor n2 h1 hn;omega)
  have d7:Dn O lo (1+1) (arrOf st):=by
   intro i j hij hj;rcases YbD i j with y | y
   ·obtain rfl:i=0:=by (clear hij cg hsz c hor n2 n1 h1 hn;omega)
    obtain rfl:j=1:=by (clear hij cg hsz c hor n2 n1 h1 hn;omega)
    exact Yb7 hlt
   ·obtain rfl:i=j:=by (clear hj cg hsz c hor n2 n1 h1 hn;omega)
    exact Yb5 _
  refine wpS_bind (wpS_lift (wpAny_rule ⟨rfl,?_⟩));refine wpS_bind (Zf4 hA h0 hF hn (by (clear cg hsz c hor n2 n1 h1 hn;omega)) (by (clear cg hsz hor n2 n1 hn;omega)) d7 fun m e τ hT m1 m2 d q he=>?_);dsimp only;have hsz:lo+m<=(arrOf τ).size:=by rw[hT.size];(clear q m1 cg hsz c hor n2 n1 h1;omega)
  have eq1:∀ k,lo+m - (e+1)<=k->k<lo+m->ka O (arrOf τ) k=ka O (arrOf τ) (lo+m - 1):=fun k k1 k2=>by
   have:=he (k - lo) (by (clear k2 hsz q m2 m1 cg c hor n2 n1 h1 hn;omega)) (by (clear k1 hsz q m2 cg c hor n2 n1 h1 hn;omega))
   rwa [show lo+(k - lo)=k by (clear k2 hsz m2 m1 cg c hor n2 n1 h1 hn;omega)] at this
  refine Zaz (fun _=>?_) (fun _=>?_)
  ·refine wpS_bind (Zbl ?_);have hF8:=FB.mir hT (i:=lo+m - (e+1)) (j:=lo+m) (by (clear hsz m2 m1 cg c hor n2 n1 h1 hn;omega)) (by (clear hsz q m1 cg c hor n2 n1 h1;omega));have d8:Dn O lo m (arrOf (setArr τ (mirror (arrOf τ) (lo+m - (e+1)) (lo+m) ((lo+m - (lo+m - (e+1))) / 2)))):=by
    intro i j hij hj;show O.kle (ka O (mirror (arrOf τ) _ _ _) _) (ka O (mirror (arrOf τ) _ _ _) _);rw[ZbR hsz eq1,ZbR hsz eq1];exact d i j hij hj
   refine wpS_bind (Zbl ?_);have hF9:=FB.mir hF8 (i:=lo) (j:=lo+m) (Yag _) (by (clear hsz q m1 cg c hor n2 n1 h1;omega));refine wpS_bind (ZbU hA h0 hF9 hn (by (clear hsz q m2 cg c hor n2 n1 h1 hn;omega)) m2 (Zf7 d8 (by rw[FB.size hF8];(clear hsz q m1 cg c hor n2 n1 h1;omega))) fun m' m1' m2' u' _=>wpS_pure (h m' _ hF9 (by (clear m2' hsz q m2 cg c hor n2 n1 h1 hn;omega)) m2' u'))
  ·
   refine wpS_bind (Zbl ?_);have hF9:=FB.mir hT (i:=lo) (j:=lo+m) (Yag _) (by (clear hsz q m1 cg c hor n2 n1 h1;omega));refine wpS_bind (ZbU hA h0 hF9 hn (by (clear hsz q m2 cg c hor n2 n1 h1 hn;omega)) m2 (Zf7 d (by rw[FB.size hT];(clear hsz q m1 cg c hor n2 n1 h1;omega))) fun m' m1' m2' u' _=>wpS_pure (h m' _ hF9 (by (clear m2' hsz q m2 cg c hor n2 n1 h1 hn;omega)) m2' u'))
end
end
end L2
namespace L2
open PySem PyProof.Rows
section
variable {prog:Program}{w:World}{A:Around}{E:Value->Shared->Prop}{s:Shared}{O:KO}{knd:SortKind}{ok:Keyed->Prop}{st:SortSt}{b₀:Array Keyed}{p₀:Array (Nat × Nat × Nat)}{lo:Nat}
theorem ZmX {l r:Nat} (h:l<r):l<=(l+r) / 2/\(l+r) / 2<r:=by omega
theorem ZnP {l r k x N:Nat} (m1:l<=(l+r) / 2) (m2:(l+r) / 2<r) (hx:x<N) (e2:r<=k) (e3:r - l<=k - x):(l+r) / 2 - l<=k - (x+1):=by (clear e2 hx m2 m1;omega)
theorem ZnO {l r k x N:Nat} (m1:l<=(l+r) / 2) (m2:(l+r) / 2<r) (hx:x<N) (e2:r<=k) (e3:r - l<=k - x):r - ((l+r) / 2+1)<=k - (x+1):=by (clear e2 hx m2 m1;omega)
theorem Zk8 {n m:Nat}{Q:Bool->SortSt->Prop} (hA:Asks prog w A s O knd ok) (h0:∀ x∈b₀.toList,ok x) (hF:FB knd b₀ p₀ lo st) (hn:lo+n<=b₀.size) (h1:1<=m) (hm:m<=n) (hu:Up O lo m (arrOf st))
  (h:∀ τ,FB knd b₀ p₀ lo τ->Up O lo n (arrOf τ)->Q true τ):wpS (model prog w) A E s (binarySort' lo n m) Q st:=by
 rw[binarySort'_eq,Nat.max_eq_left h1];refine wpS_bind (wpS_mono (wpS_forRange (I:=fun k c τ=>c=(none,())/\FB knd b₀ p₀ lo τ/\Up O lo k (arrOf τ))
  (Q:=fun c τ=>c=(none,())/\FB knd b₀ p₀ lo τ/\Up O lo n (arrOf τ)) ?go ?out ⟨rfl,hF,hu⟩) ?fin)
 case fin=>
  rintro c τ ⟨rfl,hT,u⟩;exact wpS_pure (h τ hT u)
 case out=>
  rintro c τ ⟨hc,hT,u⟩;rw[YdJ hm] at u;exact⟨hc,hT,u⟩
 case go=>
  rintro k c τ k1 k2 ⟨rfl,hT,u⟩;refine wpS_bind (wpS_mono (wpS_forRange (I:=fun x c τ'=>τ'=τ/\∃ l r,c=(none,l,r)/\l<=r/\r<=k/\r - l<=k - x /\
    (∀ i,i<l->O.kle (ka O (arrOf τ) (lo+i)) (ka O (arrOf τ) (lo+k)))/\∀ i,r<=i->i<k->O.klt (ka O (arrOf τ) (lo+k)) (ka O (arrOf τ) (lo+i)))
   (Q:=fun c τ'=>τ'=τ/\∃ l,c=(none,l,l)/\l<=k/\(∀ i,i<l->O.kle (ka O (arrOf τ) (lo+i)) (ka O (arrOf τ) (lo+k)))/\∀ i,l<=i->i<k->O.klt (ka O (arrOf τ) (lo+k)) (ka O (arrOf τ) (lo+i))) ?go2 ?out2
   ⟨rfl,0,k,rfl,YaV _,Yag _,Yag _,fun i hi=>absurd hi (YcG _),fun i i1 i2=>absurd i2 (Nat.not_lt.mpr i1)⟩) ?fin2)
  case out2=>
   rintro c τ' ⟨rfl,l,r,rfl,e1,e2,e3,e4,e5⟩;obtain rfl:l=r:=by (clear e2 k2 k1 hm h1 hn;omega)
   exact⟨rfl,l,rfl,e2,e4,e5⟩
  case go2=>
   rintro x c τ' _ hx ⟨rfl,l,r,rfl,e1,e2,e3,e4,e5⟩;dsimp only;by_cases hge:l ≥ r
   ·rw[if_pos hge];obtain rfl:l=r:=by (clear e3 e2 hx k2 k1 hm h1 hn;omega)
    exact wpS_pure ⟨rfl,l,rfl,e2,e4,e5⟩
   rw[if_neg hge];obtain⟨m1,m2⟩:=ZmX (Nat.lt_of_not_le hge);have mk:(l+r) / 2<k:=Yak m2 e2;have kn:lo+k<b₀.size:=Yak (YeP k2 lo) hn;refine wpS_bind (ZcH hA h0 hT kn (Nat.lt_trans (YeP mk lo) kn) ?_)
   cases e:O.blt (ka O (arrOf τ') (lo+k)) (ka O (arrOf τ') (lo+(l+r) / 2)) with
   | true=>
    simp only[if_true];exact wpS_pure ⟨rfl,l,(l+r) / 2,rfl,m1,Ya8 mk,ZnP m1 m2 hx e2 e3,e4,fun i i1 i2=>KeyOrd.klt_of_klt_of_kle e (u _ _ i1 i2)⟩
   | false=>
    simp only[YaR,if_false];exact wpS_pure ⟨rfl,(l+r) / 2+1,r,rfl,m2,e2,ZnO m1 m2 hx e2 e3,fun i i1=>Ycv (u i ((l+r) / 2) (Nat.le_of_lt_succ i1) mk) e,e5⟩
  case fin2=>
   rintro c τ' ⟨rfl,l,rfl,e2,e4,e5⟩;dsimp only;rw[moveDown'_eq];have hks:lo+k<(arrOf τ').size:=by rw[hT.size];(clear e2 k1 hm h1;omega)
   refine wpS_bind (wpS_modify (wpS_pure ⟨rfl,hT.put (bubble_perm _ _ _) (fun i hi=>?_),?_⟩))
   ·rw[getElem?_bubble hks _ (by (clear hi hks e2 k2 k1 hm h1 hn;omega)),if_neg (by (clear hks e2 k2 k1 hm h1 hn;omega)),if_neg (by (clear hks e2 k2 k1 hm h1 hn;omega))]
   ·intro i j hij hj;show O.kle (ka O (bubble (arrOf τ') (lo+k) (lo+k - (lo+l))) _) (ka O (bubble (arrOf τ') (lo+k) (lo+k - (lo+l))) _);rw[ZkW hks (by (clear hj hij hks e2 k2 k1 hm h1 hn;omega)),ZkW hks (by (clear hj hij hks e2 k2 k1 hm h1 hn;omega)),show lo+k - (lo+k - (lo+l))=lo+l by (clear hj hij hks k2 k1 hm h1 hn;omega)]
    repeat' split
    all_goals first
     | (exfalso;omega)
     | exact Yb5 _
     | exact e4 _ (by omega)
     | (rw[show lo+j - 1=lo+(j - 1) by (clear hj hij hks e2 k2 k1 hm h1 hn;omega)];exact Yb7 (e5 _ (by (clear hj hij hks e2 k2 k1 hm h1 hn;omega)) (by (clear hj hij hks e2 k2 k1 hm h1 hn;omega))))
     | exact Yb7 (e5 _ (by omega) (by omega))
     | (rw[show lo+i - 1=lo+(i - 1) by (clear hj hij hks e2 k2 k1 hm h1 hn;omega),show lo+j - 1=lo+(j - 1) by (clear hj hij hks e2 k2 k1 hm h1 hn;omega)];exact u _ _ (by (clear hj hks e2 k2 k1 hm h1 hn;omega)) (by (clear hj hij hks e2 k2 k1 hm h1 hn;omega)))
     | (rw[show lo+j - 1=lo+(j - 1) by (clear hj hij hks e2 k2 k1 hm h1 hn;omega)];exact u _ _ (by (clear hj hks e2 k2 k1 hm h1 hn;omega)) (by (clear hj hij hks e2 k2 k1 hm h1 hn;omega)))
     | exact u _ _ (by (clear hj hks e2 k2 k1 hm h1 hn;omega)) (by (clear hij hks k2 k1 hm h1 hn;omega))
def pos:Nat->List (List Keyed)->List (Nat × Nat)
 | _,[]=>[]
 | o,r::rs=>(o,r.length)::pos (o+r.length) rs
theorem Zbz:∀ (o:Nat) (xs ys:List (List Keyed)),pos o (xs++ys)=pos o xs++pos (o+xs.flatten.length) ys
 | o,[],ys=>by simp[pos]
 | o,r::rs,ys=>by
  simp only[Ybx,pos,Zbz,YaF,Yaj];rw[Nat.add_assoc]
theorem Zco:∀ (o:Nat) (xs:List (List Keyed)),(pos o xs).length=xs.length
 | _,[]=>rfl
 | o,r::rs=>by simp only[pos,YaH,Zco]
def pr (p:Nat × Nat × Nat):Nat × Nat:=(p.1,p.2.1)
structure RI (O:KO) (knd:SortKind) (a₀:List Keyed) (runs:List (List Keyed)) (rest:List Keyed) (st:SortSt):Prop where
 arr:(arrOf st).toList=runs.flatten++rest
 perm:(arrOf st).toList.Perm a₀
 srt:∀ r∈runs,O.Srt r
 ne:∀ r∈runs,1<=r.length
 kind:kindOf st=knd
 failed:failedOf st=none
 pend:(pendingOf st).toList.map pr=pos 0 runs
theorem Zdf:∀ (l:List Keyed) (n sa:Nat) (xs:Array Keyed) (P M S:List Keyed),xs.toList=P++M++S->M.length=l.length->P.length=sa+n ->
  ((l.zipIdx n).foldl (fun a (q:Keyed × Nat)=>a.setIfInBounds (sa+q.2) q.1) xs).toList=P++l++S
 | [],n,sa,xs,P,M,S,e,h1,h2=>by
  have:M=[]:=Ycm.mp h1;subst this;simpa using e
 | x::l,n,sa,xs,P,[],S,e,h1,h2=>by cases h1
 | x::l,n,sa,xs,P,y::M,S,e,h1,h2=>by
  rw[YdC,List.foldl_cons];have q:=Zdf l (n+1) sa (xs.setIfInBounds (sa+n) x) (P++[x]) M S ?_ (by simpa using h1) (by simp;(clear h1;omega))
  ·rw[q];simp
  ·rw[YdW,e,<- h2];simp
theorem Ziv {α β:Type}{f:α->β}{l:List α}{X Z:List β}{x y:β} (h:l.map f=X++x::y::Z):∃ P p q S,l=P++p::q::S/\P.map f=X/\f p=x/\f q=y/\S.map f=Z:=by
 obtain⟨P,l2,e1,e2,e3⟩:=List.map_eq_append_iff.mp h;obtain⟨p,l3,e4,e5,e6⟩:=YeF.mp e3;obtain⟨q,S,e7,e8,e9⟩:=YeF.mp e6;exact⟨P,p,q,S,by rw[e1,e4,e7],e2,e5,e8,e9⟩
theorem Zcz {α:Type}{pre m post:List α}{l:List α}{i:Nat} (e:l=pre++m++post) (hi:i<m.length):l[pre.length+i]?=m[i]?:=by
 rw[e,YaG,YaI (by (clear hi;omega)),Yc1,YaL hi]
theorem ZkN {xs:Array Keyed}{pre m post:List Keyed} (e:xs.toList=pre++m++post) (sm:O.Srt m):∀ p q x y,pre.length<=p->p<=q->q<pre.length+m.length->xs[p]?=some x->xs[q]?=some y->O.le x y:=by
 intro p q x y h1 h2 h3 e1 e2;have f1:=Zcz (i:=p - pre.length) e (by omega);have f2:=Zcz (i:=q - pre.length) e (by omega);rw[show pre.length+(p - pre.length)=p by (clear h3 h2;omega),Yan,e1] at f1;rw[show pre.length+(q - pre.length)=q by (clear h3;omega),Yan,e2] at f2;exact ZbZ sm (by (clear h3 h1;omega)) f1.symm f2.symm
theorem Zi3 {xs:Array Keyed}{P M S:List Keyed}{i j:Nat} (e:xs.toList=P++M++S) (hi:i=P.length) (hj:j=P.length+M.length):(xs.extract i j).toList=M:=by
 rw[Zev,e,hi,hj,YaG,List.drop_left,Yc1,Yd9]
theorem srt3 {x y z:List Keyed} (hx:O.Srt x) (hy:O.Srt y) (hz:O.Srt z) (xy:∀ p∈x,∀ q∈y,O.le p q) (yz:∀ p∈y,∀ q∈z,O.le p q) (xz:∀ p∈x,∀ q∈z,O.le p q):O.Srt (x++y++z):=by
 refine YaQ.mpr ⟨YaQ.mpr ⟨hx,hy,xy⟩,hz,fun p hp q hq=>?_⟩;rcases Yap.mp hp with hp | hp
 ·exact xz p hp q hq
 ·exact yz p hp q hq
theorem Zk6 {M:Model}{σ:Type}{x y:σ}{Q:PUnit->σ->Prop} (h:Q ⟨⟩ x):wpS M A E s (set x:StateT σ Sem PUnit) Q y:=by
 unfold wpS;rw[StateT.run_set];exact wpAny_pure ⟨rfl,h⟩
theorem ZbH {a₀ rest:List Keyed}{R1 R2:List (List Keyed)}{a b:List Keyed}{i:Nat}{Q:Bool->SortSt->Prop} (hA:Asks prog w A s O knd ok) (h0:∀ x∈a₀,ok x) (hR:RI O knd a₀ (R1++a::b::R2) rest st) (hi:R1.length=i)
  (h:∀ m τ,m.Perm (a++b)->RI O knd a₀ (R1++m::R2) rest τ->Q true τ):wpS (model prog w) A E s (mergeAt' i) Q st:=by
 have hp:=hR.pend;rw[Zbz] at hp;obtain⟨P,p,q,S,ep,e1,e2,e3,e4⟩:=Ziv hp;obtain⟨p1,p2,w1⟩:=p;obtain⟨q1,q2,w2⟩:=q;simp only[pr,Prod.mk.injEq,YbG] at e2 e3;obtain⟨rfl,rfl⟩:=e2;obtain⟨rfl,rfl⟩:=e3;have hP:P.length=i:=by rw[<- hi,<- Zco 0 R1,<- e1,Yad]
 have g1:(pendingOf st)[i]?=some (R1.flatten.length,a.length,w1):=by
  rw[<- Yan,ep,YaI (by (clear hi;omega)),hP,Nat.sub_self];rfl
 have g2:(pendingOf st)[i+1]?=some (R1.flatten.length+a.length,b.length,w2):=by
  rw[<- Yan,ep,YaI (by (clear hi;omega)),hP,Yc1];rfl
 have ea:(arrOf st).toList=R1.flatten++a++(b++(R2.flatten++rest)):=by
  rw[hR.arr];simp
 have eb:(arrOf st).toList=(R1.flatten++a)++b++(R2.flatten++rest):=by
  rw[hR.arr];simp
 have sa:O.Srt a:=hR.srt a (by simp);have sb:O.Srt b:=hR.srt b (by simp);have la:1<=a.length:=hR.ne a (by simp);have lb:1<=b.length:=hR.ne b (by simp);have oks:∀ x∈(arrOf st).toList,ok x:=fun x hx=>h0 x (hR.perm.mem_iff.mp hx);have oka:∀ x∈a,ok x:=fun x hx=>oks x (by rw[ea];simp[hx]);have okb:∀ x∈b,ok x:=fun x hx=>oks x (by rw[eb];simp[hx]);have fin:∀ (τ:SortSt) (m:List Keyed),m.Perm (a++b)->O.Srt m->(arrOf τ).toList=R1.flatten++m++(R2.flatten++rest)->kindOf τ=knd->failedOf τ=none->(pendingOf τ).toList=P++(R1.flatten.length,a.length+b.length,w1)::S->Q true τ:=by
  intro τ m pm sm em k1 k2 k3;have lm:m.length=a.length+b.length:=by rw[pm.length_eq,Yaj]
  refine h m τ pm ⟨by rw[em];simp,?_,?_,?_,k1,k2,?_⟩
  ·refine YcX ?_ hR.perm;rw[em,ea];have:=YbL R1.flatten (YcT (R2.flatten++rest) pm);simpa using this
  ·intro r hr;rcases Yap.mp hr with hr | hr
   ·exact hR.srt r (YaM _ hr)
   ·rcases Yau.mp hr with hr | hr
    ·rw[hr];exact sm
    ·exact hR.srt r (by simp[hr])
  ·intro r hr;rcases Yap.mp hr with hr | hr
   ·exact hR.ne r (YaM _ hr)
   ·rcases Yau.mp hr with hr | hr
    ·rw[hr];(clear lb hP hi;omega)
    ·exact hR.ne r (by simp[hr])
  ·rw[k3,Zbz,YaU,e1,YaD,e4,YbG];simp only[pos,pr,lm,Nat.add_assoc]
 have new:(((pendingOf st).setIfInBounds i (R1.flatten.length,a.length+b.length,w1)).eraseIdxIfInBounds (i+1)).toList=P++(R1.flatten.length,a.length+b.length,w1)::S:=by
  rw[Array.toList_eraseIdxIfInBounds,YdW,ep,<- hP];simp[List.eraseIdx_append_of_length_le]
 refine wpS_bind (wpS_get ?_);rw[show (pendingOf st)[i]?=_ from g1,show (pendingOf st)[i+1]?=_ from g2];dsimp only;refine wpS_bind (Zk6 ?_);have eb0:(arrOf st).toList[(R1.flatten++a).length+0]?=b[0]?:=Zcz eb (by (clear la hP hi;omega));have hb0:b[0]?=some b[0]:=Yaf lb;have eb1:(arrOf st)[R1.flatten.length+a.length]?=some b[0]:=by
  rw[<- Yan,<- hb0,<- eb0,Yaj,Nat.add_zero]
 have mb0:b[0]∈b:=Yc4 _;refine wpS_bind (Zao eb1 ?_);have hlen:(arrOf st).size=R1.flatten.length+a.length+b.length+(R2.flatten++rest).length:=by
  rw[<- YaY,eb];simp only[Yaj]
 refine wpS_bind (ZbI hA hR.kind (okb _ mb0) oks (show R1.flatten.length+a.length<=(arrOf st).size by (clear la hP hi;omega)) (ZkN ea sa) (by (clear hlen hP hi;omega)) fun k hk1 u1 u2=>?_);have ka1:∀ z∈a.take k,O.le z b[0]:=by
  intro z hz;obtain⟨j,hj,e⟩:=ZaL hz;refine u1 j z hj ?_;rw[<- Yan,Zcz ea (by (clear hlen la hP hi;omega))];exact e
 have ka2:∀ z∈a.drop k,O.blt (O.ky b[0]) (O.ky z)=true:=by
  intro z hz;obtain⟨j,hj,e⟩:=ZaM hz;have hj2:j<a.length:=(Yaa.mp e).1
  refine u2 j z hj hj2 ?_;rw[<- Yan,Zcz ea hj2];exact e
 have bb:∀ z∈b,O.le b[0] z:=fun z hz=>Zcs sb hb0 z (by simpa using hz);dsimp only;by_cases ck:a.length - k=0
 ·rw[if_pos (by simpa using ck)];have ek:a.take k=a:=Ybr (by (clear hk1 hlen la hP hi;omega));rw[ek] at ka1;refine wpS_pure (fin _ (a++b) (Yco _) (YaQ.mpr ⟨sa,sb,fun x hx y hy=>KO.le_trans (ka1 x hx) (bb y hy)⟩) ?_ hR.kind hR.failed new);show (arrOf st).toList=_;rw[ea];simp
 rw[if_neg (by simpa using ck)];have hla:a[a.length - 1]?=some a[a.length - 1]:=Yaf (by (clear ck hk1 hlen hP hi;omega));have mla:a[a.length - 1]∈a:=Yc4 _;have mla2:a[a.length - 1]∈a.drop k:=by
  refine Ycs.mpr ⟨a.length - 1 - k,?_⟩;rw[YcK,show k+(a.length - 1 - k)=a.length - 1 by (clear hk1 hP hi;omega)];exact hla
 have ela:(arrOf st)[R1.flatten.length+k+(a.length - k) - 1]?=some a[a.length - 1]:=by
  rw[<- Yan,show R1.flatten.length+k+(a.length - k) - 1=R1.flatten.length+(a.length - 1) by (clear ck hP hi;omega),Zcz ea (by (clear ck hk1 hP hi;omega))];exact hla
 refine wpS_bind (Zao ela ?_);refine wpS_bind (Za5 hA hR.kind (oka _ mla) oks (show R1.flatten.length+a.length+b.length<=(arrOf st).size by (clear ck hk1 hP hi;omega)) (by rw[<- Yaj];exact ZkN eb sb) (by (clear ck hk1 hP hi;omega)) fun n hn1 v1 v2=>?_);have kb1:∀ z∈b.take n,O.blt (O.ky z) (O.ky a[a.length - 1])=true:=by
  intro z hz;obtain⟨j,hj,e⟩:=ZaL hz;refine v1 j z hj ?_;rw[<- Yan,<- Yaj,Zcz eb (by (clear ck hk1 hP hi;omega))];exact e
 have kb2:∀ z∈b.drop n,O.le a[a.length - 1] z:=by
  intro z hz;obtain⟨j,hj,e⟩:=ZaM hz;have hj2:j<b.length:=(Yaa.mp e).1
  refine v2 j z hj hj2 ?_;rw[<- Yan,<- Yaj,Zcz eb hj2];exact e
 have hn0:1<=n:=by
  rcases Ydr n with z | z
  ·subst z;have q1:=ka2 _ mla2;rw[show O.blt (O.ky b[0]) (O.ky a[a.length - 1])=false from kb2 b[0] (by simpa using mb0)] at q1;cases q1
  ·exact z
 have aa:∀ z∈a,O.le z a[a.length - 1]:=fun z hz=>ZiE sa hla z (by rw[show a.length - 1+1=a.length by (clear hn0 hn1 ck hk1 hP hi;omega),YaP];exact hz);dsimp only;rw[if_neg (by simp;(clear hn1 ck hk1 hP hi;omega))];have exx:((arrOf st).extract (R1.flatten.length+k) (R1.flatten.length+a.length)).toList=a.drop k :=
  Zi3 (P:=R1.flatten++a.take k) (S:=b++(R2.flatten++rest)) (by rw[ea];simp[<- YaG];simp[YaG,YaT]) (by simp;(clear hn0 hn1 ck hP hi;omega)) (by simp;(clear hn0 hn1 ck hk1 hP hi;omega))
 have exy:((arrOf st).extract (R1.flatten.length+a.length) (R1.flatten.length+a.length+n)).toList=b.take n :=
  Zi3 (P:=R1.flatten++a) (S:=b.drop n++(R2.flatten++rest)) (by rw[eb];simp only[YaG];rw[<- YaG (b.take n),YaT]) (by simp) (by simp;(clear hn0 ck hk1 hP hi;omega))
 have sx:O.Srt (a.drop k):=sa.drop;have sy:O.Srt (b.take n):=sb.take;have after:∀ (r:Array Keyed) (τ:SortSt),Gal (Ydn (kindOf st) (arrOf st) (((pendingOf st).setIfInBounds i (R1.flatten.length,a.length+b.length,w1)).eraseIdxIfInBounds (i+1)) (gallopOf st) (failedOf st)) τ->Mg O (a.drop k) (b.take n) r.toList ->
   Q true (Ydn (kindOf τ) (r.toList.zipIdx.foldl (fun a (q:Keyed × Nat)=>a.setIfInBounds (R1.flatten.length+k+q.2) q.1) (arrOf τ)) (pendingOf τ) (gallopOf τ) (failedOf τ)):=by
  intro r τ hG hM;have mem:∀ z∈r.toList,z∈a.drop k∨z∈b.take n:=fun z hz=>Yap.mp (hM.1.mem_iff.mp hz);refine fin _ (a.take k++r.toList++b.drop n) ?_ (srt3 sa.take hM.2 sb.drop (fun p hp q hq=>?_) (fun p hp q hq=>?_) fun p hp q hq=>?_) ?_ (hG.1.trans hR.kind) (hG.2.2.2.trans hR.failed) (by rw[show pendingOf τ=_ from hG.2.2.1];exact new)
  ·have p1:(a.take k++r.toList++b.drop n).Perm (a.take k++(a.drop k++b.take n)++b.drop n):=YcT _ (YbL _ hM.1);refine p1.trans (YeG ?_);rw[<- YaG,YaT,YaG,YaT]
  ·rcases mem q hq with m | m
   ·refine (YaQ.mp (show O.Srt (a.take k++a.drop k) from by rw[YaT];exact sa)).2.2 p hp q m
   ·exact KO.le_trans (ka1 p hp) (bb q (Ybo m))
  ·rcases mem p hp with m | m
   ·exact KO.le_trans (aa p (Ycc m)) (kb2 q hq)
   ·refine (YaQ.mp (show O.Srt (b.take n++b.drop n) from by rw[YaT];exact sb)).2.2 p m q hq
  ·exact KO.le_trans (ka1 p hp) (bb q (Ycc hq))
  ·show (Ydb _ (arrOf τ) _).toList=_;rw[show arrOf τ=arrOf st from hG.2.1];have:=Zdf r.toList 0 (R1.flatten.length+k) (arrOf st) (R1.flatten++a.take k) (a.drop k++b.take n) (b.drop n++(R2.flatten++rest)) ?_ (by rw[hM.1.length_eq]) (by simp;(clear hn0 hn1 ck hP hi;omega))
   ·rw[this];simp
   ·rw[eb];simp only[YaG];rw[<- YaG (a.take k),YaT,<- YaG (b.take n),YaT]
 have xsz:((arrOf st).extract (R1.flatten.length+k) (R1.flatten.length+a.length)).size=a.length - k:=by
  rw[<- YaY,exx,Yb0]
 have ysz:((arrOf st).extract (R1.flatten.length+a.length) (R1.flatten.length+a.length+n)).size=n:=by
  rw[<- YaY,exy,YaA];(clear xsz hn0 ck hk1 hP hi;omega)
 have y0:∀ y,((arrOf st).extract (R1.flatten.length+a.length) (R1.flatten.length+a.length+n))[0]?=some y->y=b[0]:=by
  intro y e;rw[<- Yan,exy,YbT (by (clear ysz xsz hn1 ck hk1 hP hi;omega)),hb0] at e;exact (Yaw e).symm
 have xl:∀ z,((arrOf st).extract (R1.flatten.length+k) (R1.flatten.length+a.length))[((arrOf st).extract (R1.flatten.length+k) (R1.flatten.length+a.length)).size - 1]?=some z->z=a[a.length - 1]:=by
  intro z e;rw[xsz,<- Yan,exx,YcK,show k+(a.length - k - 1)=a.length - 1 by (clear ysz xsz hn0 hn1 hk1 hP hi;omega),hla] at e;exact (Yaw e).symm
 have hx1:1<=((arrOf st).extract (R1.flatten.length+k) (R1.flatten.length+a.length)).size:=by rw[xsz];(clear ysz xsz hn0 hn1 hk1 hP hi;omega)
 have hy1:1<=((arrOf st).extract (R1.flatten.length+a.length) (R1.flatten.length+a.length+n)).size:=by rw[ysz];(clear hx1 ysz xsz hn1 ck hk1 hP hi;omega)
 refine Zaz (fun _=>?_) (fun _=>?_)
 ·refine wpS_bind (Zfq hA hR.kind (by rw[exx];exact fun x hx=>oka x (Ycc hx)) (by rw[exy];exact fun x hx=>okb x (Ybo hx)) (by rw[exx];exact sx) (by rw[exy];exact sy) hx1 hy1 ?_ ?_ ?_)
  ·intro y e x hx;rw[y0 y e];rw[exx] at hx;exact KO.le_of_lt (ka2 x hx)
  ·intro z e y hy;rw[xl z e];rw[exy] at hy;exact kb1 y hy
  ·intro r τ hG hM;rw[exx,exy] at hM;refine wpS_bind (wpS_modify (wpS_bind (wpS_get ?_)));have e9:failedOf τ=none:=hG.2.2.2.trans hR.failed;refine wpS_pure ?_;show Q (failedOf τ).isNone _;rw[e9];exact after r τ hG hM
 ·refine wpS_bind (Zfr hA hR.kind (by rw[exx];exact fun x hx=>oka x (Ycc hx)) (by rw[exy];exact fun x hx=>okb x (Ybo hx)) (by rw[exx];exact sx) (by rw[exy];exact sy) hx1 hy1 ?_ ?_ ?_)
  ·intro y e x hx;rw[y0 y e];rw[exx] at hx;exact ka2 x hx
  ·intro z e y hy;rw[xl z e];rw[exy] at hy;exact KO.le_of_lt (kb1 y hy)
  ·intro r τ hG hM;rw[exx,exy] at hM;refine wpS_bind (wpS_modify (wpS_bind (wpS_get ?_)));have e9:failedOf τ=none:=hG.2.2.2.trans hR.failed;refine wpS_pure ?_;show Q (failedOf τ).isNone _;rw[e9];exact after r τ hG hM
end
end L2
namespace L2
open PySem PyProof.Rows
section
variable {prog:Program}{w:World}{A:Around}{E:Value->Shared->Prop}{s:Shared}{O:KO}{knd:SortKind}{ok:Keyed->Prop}{st τ:SortSt}
theorem ZlW {c:Prop} [Decidable c] {a b n:Nat} (h1:a<=n) (h2:b<=n):(if c then a else b)<=n:=by split <;> assumption
theorem ZbY {α:Type}:∀ {l:List α}{i:Nat},i+1<l.length->∃ R1 a b R2,l=R1++a::b::R2/\R1.length=i
 | [],_,h=>by simp at h
 | [_],_,h=>by simp at h
 | a::b::l,0,_=>⟨[],a,b,l,rfl,rfl⟩
 | a::b::l,i+1,h=>by
  obtain⟨R1,x,y,R2,e,q⟩:=ZbY (l:=b::l) (i:=i) (by simpa using h);exact⟨a::R1,x,y,R2,by rw[e];rfl,by simp[q]⟩
theorem RI.len {a₀ rest:List Keyed}{runs:List (List Keyed)} (h:RI O knd a₀ runs rest st):(pendingOf st).size=runs.length:=by
 rw[<- YaY,<- Zco 0 runs,<- h.pend,Yad]
theorem RI.size {a₀ rest:List Keyed}{runs:List (List Keyed)} (h:RI O knd a₀ runs rest st):(arrOf st).size=runs.flatten.length+rest.length:=by
 rw[<- YaY,h.arr,Yaj]
theorem RI.size0 {a₀ rest:List Keyed}{runs:List (List Keyed)} (h:RI O knd a₀ runs rest st):(arrOf st).size=a₀.length:=by
 rw[<- YaY,h.perm.length_eq]
theorem ZhT:∀ {runs:List (List Keyed)},(∀ r∈runs,1<=r.length)->runs.length<=runs.flatten.length
 | [],_=>by simp
 | r::rs,h=>by
  have q:=ZhT (runs:=rs) fun x hx=>h x (by simp[hx]);have:=h r (by simp);simp only[YaH,YaF,Yaj];omega
theorem Znb {a₀ rest:List Keyed}{runs:List (List Keyed)}{n:Nat} (h:RI O knd a₀ runs rest st) (hF:FB knd (arrOf st) (pendingOf st) runs.flatten.length τ) (hu:Up O runs.flatten.length n (arrOf τ)) (hn:n<=rest.length) :
  ∃ r rest',r.length=n/\O.Srt r/\rest.length=n+rest'.length/\RI O knd a₀ runs (r++rest') τ:=by
 have hpm:=YdX.mp hF.perm;have hsz:(arrOf τ).size=runs.flatten.length+rest.length:=by rw[hF.size,h.size]
 have e1:(arrOf τ).toList.take runs.flatten.length=runs.flatten:=by
  have:(arrOf τ).toList.take runs.flatten.length=(arrOf st).toList.take runs.flatten.length:=by
   apply Ydu;intro i;rcases YbD i runs.flatten.length with hi | hi
   ·rw[YbT hi,YbT hi,Yan,Yan];exact hF.keep i hi
   ·rw[Ycu (by rw[YaA];(clear hsz hn;omega)),Ycu (by rw[YaA];(clear hsz hn;omega))]
  rw[this,h.arr,Yd9]
 have e2:(arrOf τ).toList=runs.flatten++(arrOf τ).toList.drop runs.flatten.length:=by
  conv=>lhs;rw[<- YaT runs.flatten.length (arrOf τ).toList,e1]
 have lr:((arrOf τ).toList.drop runs.flatten.length).length=rest.length:=by
  rw[Yb0,YaY];(clear hn;omega)
 refine⟨((arrOf τ).toList.drop runs.flatten.length).take n,((arrOf τ).toList.drop runs.flatten.length).drop n,by rw[YaA];(clear hsz;omega),?_,by rw[Yb0];(clear hsz;omega),⟨by rw[YaT];exact e2,hpm.trans h.perm,h.srt,h.ne,hF.kind,hF.failed,by rw[hF.pend];exact h.pend⟩⟩;refine Yea.mpr fun i j hi hj hij=>?_;rw[YaA] at hi hj;have q:=hu i j (by (clear hj hi lr hsz hn;omega)) (by (clear hij hi lr hsz hn;omega));rw[Ydt,Ydt,Ye1,Ye1];have g:∀ k (hk:runs.flatten.length+k<(arrOf τ).toList.length),ka O (arrOf τ) (runs.flatten.length+k)=O.ky ((arrOf τ).toList[runs.flatten.length+k]):=by
  intro k hk;unfold ka;rw[<- Yan,Yaf hk];rfl
 have hlt:(arrOf τ).toList.length=runs.flatten.length+rest.length:=by rw[YaY];exact hsz
 rw[g i (by (clear hij hj lr hsz;omega)),g j (by (clear hij lr hsz;omega))] at q;exact q
theorem RI.push {a₀ rest r:List Keyed}{runs:List (List Keyed)}{lo n:Nat} (h:RI O knd a₀ runs (r++rest) st) (hs:O.Srt r) (hr:r.length=n) (hn:1<=n) (hl:lo=runs.flatten.length):RI O knd a₀ (runs++[r]) rest (setPending st ((pendingOf st).push (lo,n,0))):=by
 refine⟨?_,h.perm,?_,?_,h.kind,h.failed,?_⟩
 ·show (arrOf st).toList=_;rw[h.arr];simp
 ·intro x hx;rcases Yap.mp hx with hx | hx
  ·exact h.srt x hx
  ·rw[YaN.mp hx];exact hs
 ·intro x hx;rcases Yap.mp hx with hx | hx
  ·exact h.ne x hx
  ·rw[YaN.mp hx];(clear hl;omega)
 ·show ((pendingOf st).push (lo,n,0)).toList.map pr=_;rw[Ycq,YaU,h.pend,Zbz,hl,<- hr];simp[pos,pr]
theorem RI.pow {a₀ rest:List Keyed}{runs:List (List Keyed)}{pw:Nat} (h:RI O knd a₀ runs rest st):RI O knd a₀ runs rest (setPending st ((pendingOf st).modify ((pendingOf st).size - 1) fun x=>(x.1,x.2.1,pw))):=by
 refine⟨h.arr,h.perm,h.srt,h.ne,h.kind,h.failed,?_⟩;show ((pendingOf st).modify _ _).toList.map pr=_;rw[<- h.pend];apply Ydu;intro i;rw[Yas,Yas,Yan,Yan,Array.getElem?_modify];split
 ·cases (pendingOf st)[i]? <;> rfl
 ·rfl
theorem Zfp {a₀:Array Keyed}{Q:Unit->SortSt->Prop} (hA:Asks prog w A s O knd ok) (h0:∀ x∈a₀.toList,ok x) (ha:arrOf st=a₀) (hk:kindOf st=knd) (hf:failedOf st=none) (hp:pendingOf st=#[])
  (h:∀ τ,(arrOf τ).toList.Perm a₀.toList->failedOf τ=none->O.Srt (arrOf τ).toList->Q () τ):wpS (model prog w) A E s sortRuns' Q st:=by
 refine wpS_bind (wpS_get ?_);dsimp only;have hN:(arrOf st).size=a₀.size:=by rw[ha]
 have hN2:a₀.toList.length=a₀.size:=YaY;rw[hN];refine wpS_bind (wpS_mono (wpS_forRange
  (I:=fun x c τ=>∃ lo runs rest,c=((none:Option Unit),lo)/\RI O knd a₀.toList runs rest τ/\lo=runs.flatten.length/\(x<=lo))
  (Q:=fun c τ=>∃ lo runs,c=((none:Option Unit),lo)/\RI O knd a₀.toList runs [] τ) ?go ?out ⟨0,[],a₀.toList,rfl,⟨by rw[ha];simp,by rw[ha],(fun r hr=>nomatch hr),(fun r hr=>nomatch hr),hk,hf,by rw[hp];rfl⟩,rfl,Yag 0⟩) ?fin)
 case out=>
  rintro c τ ⟨lo,runs,rest,rfl,hR,e1,e2⟩;have q1:=hR.size;have q2:=hR.size0;have q3:=hN2;have:rest=[]:=Ycm.mp (by
   have q4:max 0 a₀.size<=lo:=e2
   (clear q4 q3 hN;omega))
  subst this;exact⟨lo,runs,rfl,hR⟩
 case fin=>
  rintro c τ ⟨lo,runs,rfl,hR⟩;dsimp only;have q1:=hR.size;have q2:=ZhT hR.ne;have q3:=hN2;have q4:=hR.size0;refine wpS_bind (wpS_mono (wpS_forRange (I:=fun x c τ'=>c=((none:Option Unit),())/\∃ runs',RI O knd a₀.toList runs' [] τ'/\runs'.length+x<=a₀.size)
   (Q:=fun c τ'=>c=((none:Option Unit),())/\∃ runs',RI O knd a₀.toList runs' [] τ'/\runs'.length<=1) ?g2 ?o2 ⟨rfl,runs,hR,by simp only[YdQ] at q1;(clear q3 hN;omega)⟩) ?f2)
  case o2=>
   rintro c τ' ⟨hc,runs',hR',e⟩;have e:runs'.length+max 0 a₀.size<=a₀.size:=e;exact⟨hc,runs',hR',by (clear e q4 q3 q2 q1 hN2 hN;omega)⟩
  case f2=>
   rintro c τ' ⟨rfl,runs',hR',e⟩;refine wpS_pure (h τ' hR'.perm hR'.failed ?_);rw[hR'.arr,YbC]
   match runs',e,hR' with
   | [],_,_=>exact YbY
   | [r],_,hR'=>simpa using hR'.srt r (by simp)
  case g2=>
   rintro x c τ' _ _ ⟨rfl,runs',hR',e⟩;refine wpS_bind (wpS_get ?_);by_cases c1:(pendingOf τ').size<=1
   ·rw[if_pos c1];exact wpS_pure ⟨rfl,runs',hR',by rw[<- hR'.len];exact c1⟩
   rw[if_neg c1];have key:∀ j,j<=(pendingOf τ').size - 2->wpS (model prog w) A E s (mergeAt' j) (fun b τ3=>b=true/\∃ runs',RI O knd a₀.toList runs' [] τ3/\runs'.length+(x+1)<=a₀.size) τ':=by
    intro j hj;obtain⟨R1,a,b,R2,e3,e4⟩:=ZbY (l:=runs') (i:=j) (by rw[<- hR'.len];(clear e q4 q3 q2 q1 hN2 hN;omega));subst e3;refine ZbH hA h0 hR' e4 fun m τ3 pm hR3=>⟨rfl,_,hR3,?_⟩
    simp only[Yaj,YaH] at e ⊢
    (clear e4 hj c1 q4 q3 q2 q1 hN2 hN;omega)
   refine wpS_bind (wpS_mono (key _ ?_) ?_)
   ·have:=hR'.len;rw[show (pendingOf τ').size=runs'.length from this];exact ZlW (by (clear this c1 e q4 q3 q2 q1 hN2 hN;omega)) (by (clear this c1 e q4 q3 q2 q1 hN2 hN;omega))
   ·rintro b τ3 ⟨rfl,runs3,hR3,e3⟩;simp only[YcY,YaR,if_false];exact wpS_pure ⟨rfl,runs3,hR3,e3⟩
 case go=>
  rintro x c τ _ hx ⟨lo,runs,rest,rfl,hR,e1,e2⟩;have q1:=hR.size;have q2:=hR.size0;have q3:=hN2;dsimp only;by_cases c0:lo ≥ a₀.size
  ·rw[if_pos c0];have:rest=[]:=Ycm.mp (by (clear q3 e2 hx hN;omega));subst this;exact wpS_pure ⟨lo,runs,rfl,hR⟩
  rw[if_neg c0];have oks:∀ x∈(arrOf τ).toList,ok x:=fun x hx=>h0 x (hR.perm.mem_iff.mp hx);refine wpS_bind (Zk7 (b₀:=arrOf τ) (p₀:=pendingOf τ) (lo:=lo) hA oks ⟨Array.Perm.refl _,fun _ _=>rfl,hR.kind,hR.failed,rfl⟩ (by (clear c0 q3 e2 hx hN;omega)) (by (clear q3 q2 q1 e2 e1 hx hN2 hN;omega)) fun m τ1 hF m1 m2 u=>?_);dsimp only;refine Zaz (fun cm=>?_) (fun cm=>?_)
  ·refine wpS_bind (wpS_lift (wpAny_rule ⟨rfl,?_⟩));refine wpS_bind (Zk8 hA oks hF (by (clear cm m2 m1 c0 q3 e2 hx hN;omega)) m1 (by (clear m1 c0 q3 q2 q1 e2 e1 hx hN2 hN;omega)) u fun τ2 hF2 u2=>?_);simp only[YcY,YaR,if_false];rw[e1] at hF2 u2;obtain⟨r,rest',hr,hs,hl,hR2⟩:=Znb hR hF2 u2 (by (clear cm m2 m1 c0 q3 e2 e1 hx hN;omega));rw[<- e1] at hr;have h1n:1<=r.length:=by (clear hl m2 m1 q3 q2 q1 e2 e1 hx hN2 hN;omega)
   rw[hr] at h1n;refine wpS_bind (wpS_get ?_)
   cases eb:(pendingOf τ2).back? with
   | none=>
    dsimp only;exact wpS_bind (wpS_modify (wpS_pure ⟨_,runs++[r],rest',rfl,hR2.push hs hr h1n e1,by simp[hr,e1],by (clear h1n hl hr m2 m1 c0 q3 q2 q1 e1 hN2 hN;omega)⟩))
   | some p=>
    obtain⟨s1,n1,w1⟩:=p;dsimp only;refine wpS_bind (wpS_mono (wpS_forRange (I:=fun _ c τ'=>c=((none:Option Unit),())/\∃ runs',RI O knd a₀.toList runs' (r++rest') τ'/\runs'.flatten.length=lo)
     (Q:=fun c τ'=>c=((none:Option Unit),())/\∃ runs',RI O knd a₀.toList runs' (r++rest') τ'/\runs'.flatten.length=lo) ?g2 (fun _ _ z=>z) ⟨rfl,runs,hR2,e1.symm⟩) ?f2)
    case f2=>
     rintro c τ' ⟨rfl,runs',hR',e⟩;exact wpS_bind (wpS_modify (wpS_bind (wpS_modify (wpS_pure ⟨_,runs'++[r],rest',rfl,hR'.pow.push hs hr h1n e.symm,by simp[hr,e],by (clear e h1n hl hr m2 m1 c0 q3 q2 q1 e1 hN2 hN;omega)⟩))))
    case g2=>
     rintro y c τ' _ _ ⟨rfl,runs',hR',e⟩;refine wpS_bind (wpS_get ?_);by_cases c1:(pendingOf τ').size > 1
     ·rw[if_pos c1]
      cases ep:(pendingOf τ')[(pendingOf τ').size - 2]? with
      | none=>exact wpS_pure ⟨rfl,runs',hR',e⟩
      | some p=>
       obtain⟨s3,n3,w3⟩:=p;dsimp only;refine Zaz (fun _=>wpS_pure ⟨rfl,runs',hR',e⟩) (fun _=>?_);obtain⟨R1,a,b,R2,e3,e4⟩:=ZbY (l:=runs') (i:=(pendingOf τ').size - 2) (by rw[<- hR'.len];(clear e h1n hl hr cm m2 m1 c0 q3 q2 q1 e2 e1 hx hN2 hN;omega));subst e3;refine wpS_bind (ZbH hA h0 hR' e4 fun m τ3 pm hR3=>?_);simp only[YcY,YaR,if_false];refine wpS_pure ⟨rfl,_,hR3,?_⟩;rw[<- e];have:=pm.length_eq;simp only[Ybd,YaF,Yaj] at this ⊢
       (clear e e4 c1 h1n hl hr cm m2 m1 c0 q3 q2 q1 e2 e1 hx hN2 hN;omega)
     ·rw[if_neg c1];exact wpS_pure ⟨rfl,runs',hR',e⟩
  ·rw[e1] at hF u;obtain⟨r,rest',hr,hs,hl,hR2⟩:=Znb hR hF u (by (clear cm m1 c0 q3 e2 hx hN;omega));have h1n:1<=m:=m1;refine wpS_bind (wpS_get ?_)
   cases eb:(pendingOf τ1).back? with
   | none=>
    dsimp only;exact wpS_bind (wpS_modify (wpS_pure ⟨_,runs++[r],rest',rfl,hR2.push hs hr h1n e1,by simp[hr,e1],by (clear h1n hl hr cm m2 c0 q3 q2 q1 e1 hx hN2 hN;omega)⟩))
   | some p=>
    obtain⟨s1,n1,w1⟩:=p;dsimp only;refine wpS_bind (wpS_mono (wpS_forRange (I:=fun _ c τ'=>c=((none:Option Unit),())/\∃ runs',RI O knd a₀.toList runs' (r++rest') τ'/\runs'.flatten.length=lo)
     (Q:=fun c τ'=>c=((none:Option Unit),())/\∃ runs',RI O knd a₀.toList runs' (r++rest') τ'/\runs'.flatten.length=lo) ?g2 (fun _ _ z=>z) ⟨rfl,runs,hR2,e1.symm⟩) ?f2)
    case f2=>
     rintro c τ' ⟨rfl,runs',hR',e⟩;exact wpS_bind (wpS_modify (wpS_bind (wpS_modify (wpS_pure ⟨_,runs'++[r],rest',rfl,hR'.pow.push hs hr h1n e.symm,by simp[hr,e],by (clear e h1n hl hr cm m2 c0 q3 q2 q1 e1 hx hN2 hN;omega)⟩))))
    case g2=>
     rintro y c τ' _ _ ⟨rfl,runs',hR',e⟩;refine wpS_bind (wpS_get ?_);by_cases c1:(pendingOf τ').size > 1
     ·rw[if_pos c1]
      cases ep:(pendingOf τ')[(pendingOf τ').size - 2]? with
      | none=>exact wpS_pure ⟨rfl,runs',hR',e⟩
      | some p=>
       obtain⟨s3,n3,w3⟩:=p;dsimp only;refine Zaz (fun _=>wpS_pure ⟨rfl,runs',hR',e⟩) (fun _=>?_);obtain⟨R1,a,b,R2,e3,e4⟩:=ZbY (l:=runs') (i:=(pendingOf τ').size - 2) (by rw[<- hR'.len];(clear e h1n hl hr cm m2 m1 c0 q3 q2 q1 e2 e1 hx hN2 hN;omega));subst e3;refine wpS_bind (ZbH hA h0 hR' e4 fun m τ3 pm hR3=>?_);simp only[YcY,YaR,if_false];refine wpS_pure ⟨rfl,_,hR3,?_⟩;rw[<- e];have:=pm.length_eq;simp only[Ybd,YaF,Yaj] at this ⊢
       (clear e e4 c1 h1n hl hr cm m2 m1 c0 q3 q2 q1 e2 e1 hx hN2 hN;omega)
     ·rw[if_neg c1];exact wpS_pure ⟨rfl,runs',hR',e⟩
end
end L2
namespace L2
open PySem PySem.Spec PyProof.Rows PySem.SeqAt
section
variable {prog:Program}{w:World}{A:Around}{E:Value->Shared->Prop}{s:Shared}
end
section
variable {X:Cx}
end
theorem Zho {b:Bool}{K:Yac}{own:List Str}{js:List Nat}{g:TG}{tt:TT}{te:TE}{σ:St}{H1:Hp}{Q:VK}{a:Addr}{xs:List V} (Pv:Addr->Nat->Hp->Prop) (h0:∀ acc,H1 acc=none->Pv acc 0 (upd H1 acc (.lst []))) (hl:∀ acc i H,H1 acc=none->i<=xs.length->Pv acc i H->SqB b K H a xs)
  (hs:∀ acc i x p H,H1 acc=none->xs[i]?=some x->Pv acc i H->H p=none->g (.ref p) (blkσ own js σ) (upd H p (.tup [.int i,x])) fun τ H4=>tt τ H4 fun c H5=>
   if c=true then te τ H5 fun y H6=>∃ ys,H6 acc=some (.lst ys)/\ys.length<sizeLine/\(i+1<=xs.length/\Pv acc (i+1) (upd H6 acc (.lst (ys++[y])))) else (i+1<=xs.length/\Pv acc (i+1) H5))
  (hd:∀ acc H,H1 acc=none->Pv acc xs.length H->Q (.ref acc) H):Zcv own js g tt te σ (IteB b K a) H1 Q:=by
 intro acc hacc;refine⟨fun i H=>i<=xs.length/\Pv acc i H,xs.length,⟨YaV _,h0 acc hacc⟩,?_⟩;rintro i H ⟨hi,p⟩;have q:=hl acc i H hacc hi p;by_cases hlt:i<xs.length
 ·refine .inr ⟨hlt,by cases b <;> exact⟨xs,xs[i],q,by simp[hlt]⟩,fun x H' y=>?_⟩;have y:∃ pa z,H pa=none/\x=.ref pa/\H'=upd H pa (.tup [.int i,z])/\xs[i]?=some z:=by
   cases b with
   | true=>obtain⟨pa,z,hp,e1,e2,y⟩:=y;exact⟨pa,z,hp,e1,e2,y xs q⟩
   | false=>obtain⟨pa,z,hp,e1,e2,y⟩:=y;exact⟨pa,z,hp,e1,e2,y xs q⟩
  obtain⟨pa,z,hp,e1,e2,y'⟩:=y;subst e1 e2;exact hs acc i z pa H hacc y' p hp
 ·have e:i=xs.length:=by omega
  subst e;exact .inl ⟨by cases b <;> exact⟨xs,q,Yag _⟩,hd acc H hacc p⟩
end L2
namespace L2
open PySem PyProof.Rows
section
variable {prog:Program}{w:World}{A:Around}{E:Value->Shared->Prop}{s:Shared}{O:KO}{knd:SortKind}{ok:Keyed->Prop}
def Ord2 (O:KO) (b:Bool) (us:List Value):Prop:=us.Pairwise fun u v=>if b=true then O.le (v,v) (u,u) else O.le (u,u) (v,v)
theorem ZmQ {vs:List Value}{out:List Keyed} (hp:out.Perm (vs.zip vs)) (hs:O.Srt out) (b:Bool):∃ us:List Value,(if b=true then (out.map (·.2)).reverse else out.map (·.2))=us/\us.Perm vs/\Ord2 O b us:=by
 have hm:∀ p∈out,p=(p.2,p.2):=fun p hp'=>by
  have:=(mem_zip_self (hp.mem_iff.mp hp')).1
  exact Prod.ext this rfl
 have p1:(out.map (·.2)).Perm vs:=by
  have:=hp.map (·.2)
  rwa [List.map_snd_zip (Yag _)] at this
 have s1:(out.map (·.2)).Pairwise fun u v=>O.le (u,u) (v,v):=by
  rw[Ybc];refine hs.imp_of_mem fun {x y} hx hy q=>?_;rw[hm x hx,hm y hy] at q;exact q
 cases b with
 | false=>exact⟨_,rfl,p1,by simpa[Ord2] using s1⟩
 | true=>exact⟨_,rfl,(YcU _).trans p1,by simp only[Ord2,if_true,Yc9];exact s1⟩
theorem ZhQ {a:Addr}{vs:List Value}{n:Nat}{h:Heap} (ho:h.get? a=some (seqObj "list" vs.toArray n)) {b:Addr}{o:Obj} (hb:h.get? b=some o) (hne:b≠a):(((h.update a (YbI fun _=>#[])).push (seqObj "tuple" vs.toArray 0)).push (seqObj "list" #[] 0)).get? b=some o :=
 Yab _ (Yab _ (by rw[YeL _ _ _ _ hne];exact hb))
theorem Zge {a:Addr}{vs:List Value}{n:Nat}{P:PySem.Fin->Shared->Prop} (ho:s.heap.get? a=some (seqObj "list" vs.toArray n)) (hz:vs.length<=sizeLine)
  (hkk:∀ h',(∀ b o,s.heap.get? b=some o->b≠a->h'.get? b=some o)->2<=vs.length->∀ Q:SortKind->Shared->Prop,Q knd { s with heap:=h' }->wpAny (model prog w) A (keyKind' vs.toArray) Q E { s with heap:=h' })
  (hA:∀ h',(∀ b o,s.heap.get? b=some o->b≠a->h'.get? b=some o)->Asks prog w A { s with heap:=h' } O knd ok) (hok:∀ v∈vs,ok (v,v))
  (h:∀ us:List Value,us.Perm vs->Ord2 O false us->P (.done (.ret .none)) { s with heap:=sortedHeap s.heap a vs us.toArray }):wpAny (model prog w) A (Builtin.«list.sort» ⟨[.ref a],[]⟩) P E s:=by
 have ha:a<s.heap.objs.size:=Yah ho;have keep:=fun (b:Addr) (o:Obj) (hb:s.heap.get? b=some o) (hne:b≠a)=>ZhQ ho hb hne;obtain⟨e1,ho1⟩:∃ c,(s.heap.update a (YbI fun _=>#[])).get? a=some (seqObj "list" #[] c):=⟨_,get?_update_seq ho (fun _=>#[])⟩
 have ho6:=Yab (seqObj "list" #[] 0) (Yab (seqObj "tuple" vs.toArray 0) ho1);have hsv:vs.toArray.size=vs.length:=Yal;have hz1:vs.toArray.size<=sizeLine:=by rw[hsv];exact hz
 have fin:∀ (τ:SortSt),(arrOf τ).toList.Perm (vs.zip vs)->O.Srt (arrOf τ).toList->P (.done (.ret .none)) { s with heap:=sortedHeap s.heap a vs ((arrOf τ).map (·.2)) }:=by
  intro τ hp hs;obtain⟨us,e,p1,p2⟩:=ZmQ hp hs false;have e2:(arrOf τ).map (·.2)=us.toArray:=by rw[<- e];apply Ye4.mp;simp
  rw[e2];exact h us p1 p2
 have osz:∀ τ:SortSt,(arrOf τ).toList.Perm (vs.zip vs)->((arrOf τ).map (·.2)).size<=sizeLine+1:=by
  intro τ hp;rw[Array.size_map,<- YaY,hp.length_eq,List.length_zip]
  (clear hz1 hsv ha;omega)
 rw[list_sort_plain];refine wpAny_bind (listItems_at ho rfl (wpAny_bind (listUpdate_at ho rfl ?_ hz1 (YaV _))));refine wpAny_bind (seqEpoch_at ho1 rfl (wpAny_bind (wpAny_newTuple ?_ hz)));refine wpAny_bind (wpAny_newList ?_ (YaV _));refine wpAny_holding ?_;show wpAny (model prog w) A _ P E ({ s with heap:=((s.heap.update a (YbI fun _=>#[])).push (seqObj "tuple" vs.toArray 0)).push (seqObj "list" #[] 0) }:Shared);dsimp only;by_cases h2:vs.toArray.size<2
 ·rw[if_pos h2,if_pos h2];refine wpAny_bind (wpAny_pure ?_);rw[StateT.run_pure];have hp0:(vs.toArray.zip vs.toArray).toList.Perm (vs.zip vs):=by simp
  refine wpAny_bind (wpAny_pure (wpAny_bind (seqEpoch_at ho6 rfl (wpAny_bind (listUpdate_at ho6 rfl ?_ (YaV _) (osz (Ydn general' (vs.toArray.zip vs.toArray) #[] 7 none) hp0))))));simp only[bne_self_eq_false,YaR,if_false];refine wpAny_pure (fin (Ydn general' (vs.toArray.zip vs.toArray) #[] 7 none) hp0 ?_);show O.Srt (vs.toArray.zip vs.toArray).toList;rw[show (vs.toArray.zip vs.toArray).toList=vs.zip vs by simp]
  match vs,h2 with
  | [],_=>exact YbY
  | [v],_=>exact Yef _ _
 ·rw[if_neg h2,if_neg h2];refine wpAny_bind (hkk _ keep (by (clear hz1 ha hz;omega)) _ ?_);refine wpAny_bind (wpAny_mono (Zfp (a₀:=vs.toArray.zip vs.toArray) (st:=Ydn knd (vs.toArray.zip vs.toArray) #[] 7 none) (Q:=fun _ τ=>(arrOf τ).toList.Perm (vs.zip vs)/\failedOf τ=none/\O.Srt (arrOf τ).toList)
   (hA _ keep) (fun x hx=>?_) rfl rfl rfl rfl fun τ a1 a2 a3=>⟨by simpa using a1,a2,a3⟩) ?_ fun _ _ z=>z)
  ·have hx:x∈vs.zip vs:=by simpa using hx
   have q:=mem_zip_self hx;rw[show x=(x.1,x.1) from Prod.ext rfl q.1.symm];exact hok _ q.2
  ·rintro⟨⟨⟩,τ⟩ s' ⟨rfl,hp,hf,hs⟩;refine wpAny_bind (seqEpoch_at ho6 rfl (wpAny_bind (listUpdate_at ho6 rfl ?_ (YaV _) (osz τ hp))));dsimp only;rw[hf];simp only[bne_self_eq_false,YaR,if_false];exact wpAny_pure (fin τ hp hs)
theorem ZgX {l:Addr}{vs:List Value} (h:Heap):∀ b o,h.get? b=some o->(((h.push (seqObj "list" #[] 0)).update h.objs.size (YbI (·++vs.toArray))).push (seqObj "list" vs.toArray 0)).get? b=some o:=by
 intro b o q;have hlt:b<h.objs.size:=Yah q;refine Yab _ ?_;rw[YeL _ _ _ _ (YaB hlt)];exact Yab _ q
structure Sortable (prog:Program) (w:World) (s:Shared) (O:KO) (vs:List Value):Prop where
 ex:∃ (knd:SortKind) (ok:Keyed->Prop),(∀ v∈vs,ok (v,v))/\(∀ A h',(∀ b o,s.heap.get? b=some o->h'.get? b=some o)->Asks prog w A { s with heap:=h' } O knd ok) /\
  ∀ (A:Around) (E:Value->Shared->Prop) h',(∀ b o,s.heap.get? b=some o->h'.get? b=some o)->2<=vs.length->∀ Q:SortKind->Shared->Prop,Q knd { s with heap:=h' }->wpAny (model prog w) A (keyKind' vs.toArray) Q E { s with heap:=h' }
theorem ZfA {l:Addr}{vs:List Value}{Q:Value->Shared->Prop} (hl:s.heap.IsList l vs.toArray) (hz:vs.length<=sizeLine) (hS:Sortable prog w s O vs)
  (h:∀ us:List Value,us.Perm vs->Ord2 O false us->Q (.ref (s.heap.objs.size+1)) { s with heap:=sortedAll s.heap vs us.toArray }):wpAny (model prog w) A (call (.builtin "sorted") [.ref l]) Q E s:=by
 obtain⟨knd,ok,h1,h2,h3⟩:=hS.ex;have zz:((s.heap.push (seqObj "list" #[] 0)).update s.heap.objs.size (YbI (·++vs.toArray))).objs.size=s.heap.objs.size+1:=by rw[Heap.size_update,size_push']
 have at1:(((s.heap.push (seqObj "list" #[] 0)).update s.heap.objs.size (YbI (·++vs.toArray))).push (seqObj "list" vs.toArray 0)).get? (s.heap.objs.size+1)=some (seqObj "list" vs.toArray 0):=by
  have:=Yav ((s.heap.push (seqObj "list" #[] 0)).update s.heap.objs.size (YbI (·++vs.toArray))) (o:=seqObj "list" vs.toArray 0) rfl
  rwa [zz] at this
 refine Yd6 kind_sorted plain_sorted entry_sorted (args_sorted1 _) ?_;unfold Builtin.«sorted»;refine wpAny_bind (m:=checkCount "sorted" 1 1 _) (wpAny_pure (wpAny_bind (collect_list hl (wpAny_bind (wpAny_newList ?_ hz)) hz)));show wpAny _ _ _ _ _ { s with heap:=((s.heap.push (seqObj "list" #[] 0)).update s.heap.objs.size (YbI (·++vs.toArray))).push (seqObj "list" vs.toArray 0) };rw[zz];have up:∀ h':Heap,(∀ b o,(((s.heap.push (seqObj "list" #[] 0)).update s.heap.objs.size (YbI (·++vs.toArray))).push (seqObj "list" vs.toArray 0)).get? b=some o->b≠s.heap.objs.size+1->h'.get? b=some o)->∀ b o,s.heap.get? b=some o->h'.get? b=some o:=fun h' k b o q=>
  k b o (ZgX (l:=l) s.heap b o q) (YaB (YcW (Yah q)))
 exact wpAny_bind (wpAny_holding (wpAny_call_entry slot_list_sort ⟨_,at1,rfl⟩ entry_list_sort (Zge at1 hz (fun h' k hl2 Q' q=>h3 _ _ h' (up h' k) hl2 Q' q) (fun h' k=>h2 _ h' (up h' k)) h1 fun us p1 p2=>⟨_,rfl,wpAny_pure ⟨_,rfl,h us p1 p2⟩⟩) (args_list_sort _)))
def lxB:List Int->List Int->Bool
 | _,[]=>false
 | [],_::_=>true
 | a::as,b::bs=>if a=b then lxB as bs else decide (a<b)
theorem ZdI:∀ a,lxB a a=false
 | []=>rfl
 | a::as=>by rw[lxB,if_pos rfl];exact ZdI as
theorem ZcU:∀ a b c,lxB a b=true->lxB b c=true->lxB a c=true
 | _,[],_,h,_=>by rw[lxB] at h;cases h
 | _,_::_,[],_,h=>by rw[lxB] at h;cases h
 | [],_::_,_::_,_,_=>rfl
 | a::as,b::bs,c::cs,h1,h2=>by
  rw[lxB] at h1 h2 ⊢;by_cases e1:a=b
  ·subst e1;rw[if_pos rfl] at h1;by_cases e2:a=c
   ·subst e2;rw[if_pos rfl] at h2 ⊢;exact ZcU as bs cs h1 h2
   ·rw[if_neg e2] at h2 ⊢;exact h2
  ·rw[if_neg e1] at h1;have h1:=of_decide_eq_true h1;by_cases e2:b=c
   ·subst e2;rw[if_neg e1];exact decide_eq_true h1
   ·rw[if_neg e2] at h2;have h2:=of_decide_eq_true h2;rw[if_neg (by (clear e2 e1;omega))];exact decide_eq_true (by (clear e2 e1;omega))
theorem ZcV:∀ a b,lxB a b=false->lxB b a=false->a=b
 | [],[],_,_=>rfl
 | _::_,[],_,h=>by rw[lxB] at h;cases h
 | [],_::_,h,_=>by rw[lxB] at h;cases h
 | a::as,b::bs,h1,h2=>by
  rw[lxB] at h1 h2;by_cases e:a=b
  ·subst e;rw[if_pos rfl] at h1 h2;rw[ZcV as bs h1 h2]
  ·rw[if_neg e] at h1;rw[if_neg (fun z=>e z.symm)] at h2;have h1:=of_decide_eq_false h1;have h2:=of_decide_eq_false h2;omega
theorem ZlS (a b c:List Int) (h:lxB a c=true):lxB a b=true∨lxB b c=true:=by
 cases e1:lxB a b with
 | true=>exact .inl rfl
 | false=>
  right
  cases e2:lxB b a with
  | true=>exact ZcU b a c e2 h
  | false=>rw[<- ZcV a b e1 e2];exact h
def KOt (ks:Addr->List Int):KO where
 α:=List Int
 blt:=lxB
 irrefl:=ZdI
 trans:=ZcU
 negTrans:=ZlS
 total:=ZcV
 ky p:=match p.1 with
  | .ref a=>ks a
  | _=>[]
theorem ZiC {b:Bool}{Q:Bool->Shared->Prop}{τ:Shared}{fin:Bool}:∀ {xs ys:List Int}{us vs:List Value}{i:Nat},IntsAre us xs->IntsAre vs ys->(Q (lxB xs ys) τ)->(fin=decide (xs.length<ys.length)) ->
  PySem.W.KatLex prog w A b fin Q (us.zip vs) i τ
 | [],[],_,_,i,.nil,.nil,q,e=>by
  rw[e];exact Ydx q
 | [],y::ys,_,_,i,.nil,.cons _ _ _,q,e=>by
  rw[e];exact Ydx (by simpa[lxB] using q)
 | x::xs,[],_,_,i,.cons _ _ _,.nil,q,e=>by
  rw[e];exact Ydx (by simpa[lxB] using q)
 | x::xs,y::ys,_,_,i,.cons _ t h1,.cons _ u h2,q,e=>by
  rw[YeQ];refine PySem.W.kat_cons (wpAny_eqBool_int ?_);rw[lxB] at q;by_cases c:x=y
  ·subst c;rw[if_pos rfl] at q;rw[show (x == x)=true by simp];exact PySem.W.kat_yes (ZiC h1 h2 q (by rw[e];simp))
  ·rw[if_neg c] at q;rw[show (x == y)=false by simpa using c];refine PySem.W.kat_no ?_
   cases b && i == 0 with
   | true=>exact oneLt_int q
   | false=>exact PySem.W.kat_one _ _ (PySem.P.lt_int q)
def TupI (h:Heap) (ks:Addr->List Int) (v:Value):Prop:=∃ a o its n,v=.ref a/\h.get? a=some o/\o.cls=.type "tuple"/\o.data=.seq its n/\IntsAre its.toList (ks a)/\ks a≠[]
theorem ZdM {h:Heap}{ks:Addr->List Int}:∀ {vs:List Value},(∀ v∈vs,TupI h ks v)->∃ fs:List Value,fs.length=vs.length/\PySem.W.KatTups h vs fs/\∀ f∈fs,∃ n t,f=.int n t
 | [],_=>⟨[],rfl,PySem.W.KatTups.nil,fun f hf=>nomatch hf⟩
 | v::vs,hv=>by
  obtain⟨fs,e,k,q⟩:=ZdM (vs:=vs) fun u hu=>hv u (Yam _ hu);obtain⟨a,o,its,n,rfl,ho,hc,hd,hI,hne⟩:=hv v (Yai ..);obtain⟨l⟩:=its;have hI:IntsAre l (ks a):=hI
  revert hI hd
  generalize ks a=z at hne ⊢;intro hd hI
  cases hI with
  | nil=>exact absurd rfl hne
  | cons m t hI=>exact⟨.int m t::fs,by simp[e],PySem.W.KatTups.cons ho hc hd rfl k,fun f hf=>by
    rcases Yau.mp hf with z | z
    ·exact⟨m,t,z⟩
    ·exact q f z⟩
theorem Zb0 {vs:List Value}{ks:Addr->List Int} (hT:∀ v∈vs,TupI s.heap ks v):Sortable prog w s (KOt ks) vs:=by
 refine⟨tuples' (Ydq "int" != Ydq "tuple"),(fun p=>TupI s.heap ks p.1),hT,fun A h' kp x y hx hy E Q q=>?_,fun A E h' kp h2 Q q=>?_⟩
 ·obtain⟨a,o,its,n,e1,ho,hc,hd,hI,hne⟩:=hx;obtain⟨b,o',its',n',e2,ho',hc',hd',hI',hne'⟩:=hy;have q:Q (lxB ((KOt ks).ky x) ((KOt ks).ky y)) { s with heap:=h' }:=q;have k1:(KOt ks).ky x=ks a:=by show (match x.1 with | .ref a=>ks a | _=>[])=_;rw[e1]
  have k2:(KOt ks).ky y=ks b:=by show (match y.1 with | .ref a=>ks a | _=>[])=_;rw[e2]
  rw[k1,k2] at q;rw[e1,e2];refine PySem.W.kat_lt (kp _ _ ho) hd (kp _ _ ho') hd' (ZiC hI hI' q ?_);rw[<- hI.nums,<- hI'.nums,Yad,Yad,YaY,YaY]
 ·obtain⟨fs,e,k,hi⟩:=ZdM (h:=h') (ks:=ks) (vs:=vs) fun v hv=>by
   obtain⟨a,o,its,n,e1,ho,r⟩:=hT v hv;exact⟨a,o,its,n,e1,kp _ _ ho,r⟩
  refine PySem.W.kat_kind (T:=Ydq "int") k (by omega) (fun v hv=>?_) rfl q;obtain⟨n,t,rfl⟩:=hi v hv;exact PySem.W.Looks.now
end
end L2
namespace L2
open PySem PySem.Spec PyProof.Rows PySem.SeqAt
section
variable {X:Cx}
theorem ZeF:∀ {ps:List Addr}{us:List Value},Vals (ps.map V.ref) us->us=ps.map Ya9
 | [],_,.nil=>rfl
 | p::ps,_,.cons r t=>by
  have e:_=Ya9 p:=r;rw[ZeF t,e];rfl
theorem ZcR:∀ (ps:List Addr),Vals (ps.map V.ref) (ps.map Ya9)
 | []=>.nil
 | p::ps=>.cons rfl (ZcR ps)
def adr:Value->Addr
 | .ref a=>a
 | _=>0
theorem ZeR {ps:List Addr}{us:List Value} (h:us.Perm (ps.map Ya9)):∃ qs:List Addr,us=qs.map Ya9/\qs.Perm ps:=by
 refine⟨us.map adr,?_,?_⟩
 ·rw[Yct];refine (YdP us).symm.trans (YbK fun v hv=>?_);obtain⟨p,_,e⟩:=Yay.mp (h.mem_iff.mp hv);rw[<- e];rfl
 ·have:=h.map adr
  rwa [Yct,show (adr ∘ Ya9)=id from rfl,YdP] at this
theorem Zc5:Zca X (.builtin "sorted") (fun xs H Q=>∃ (a:Addr) (ps:List Addr) (ks:Addr->List Int),xs=[.ref a]/\SqL X.K H a (ps.map V.ref)/\(∀ p∈ps,ks p≠[]/\H p=some (.tup ((ks p).map V.int)))/\∀ (l:Addr) (qs:List Addr),H l=none->qs.Perm ps->qs.Pairwise (fun p q=>lxB (ks q) (ks p)=false)->Q (.ref l) (upd H l (.lst (qs.map V.ref)))):=by
 intro pins s σ H xs us Q I r h;obtain⟨a,ps,ks,rfl,hq,ht,q⟩:=h;obtain⟨u,rfl,r1⟩:=ZdU r;cases r1;obtain⟨its,rv,p,hz⟩:=I.list hq;have ei:=ZeF rv;rw[Yad] at hz;have hl:its.length=ps.length:=by rw[ei,Yad]
 have hT:∀ v∈its,TupI s.heap ks v:=by
  intro v hv;rw[ei] at hv;obtain⟨b,hb,e⟩:=Yay.mp hv;obtain⟨h1,h2⟩:=ht b hb;obtain⟨_,ii,rr,o,g1,g2,_,n,g3⟩:=(show ObjOk X.prog X.w H s.heap b (.tup ((ks b).map V.int)) from I.hok b _ h2)
  exact⟨b,o,ii.toArray,n,e.symm,g1,g2,g3,by simpa using Zhj rr,h1⟩
 refine ZfA p.isList (by rw[hl];exact hz) (Zb0 hT) fun us p1 p2=>?_;have p1':=p1;rw[ei] at p1';obtain⟨qs,e1,pm⟩:=ZeR p1';obtain⟨e,he⟩:=sortedAll_at s.heap its us.toArray;have hle:s.heap.objs.size<=s.heap.objs.size+1:=Yc0 _;refine⟨.ref (s.heap.objs.size+1),_,I.laid (a:=s.heap.objs.size+1) (o:=.lst (qs.map V.ref)) (t':=s.toks) (fun b o q=>sortedAll_old q) hle ⟨?_,us,e,?_,he⟩,rfl,q _ qs (I.hok.fresh hle) pm ?_⟩
 ·rw[Yad,pm.length_eq];exact hz
 ·rw[e1];exact ZcR qs
 ·rw[e1] at p2;simp only[Ord2,YaR,if_false] at p2;exact Ybc.mp p2
end
end L2
namespace L2
open PySem PySem.Spec PyProof.Rows PySem.SeqAt
section
variable {prog:Program}{w:World}{A:Around}{E:Value->Shared->Prop}{s:Shared}{O:KO}
theorem Zlk {x:Value}{Pv:List Value->Shared->Prop}{Q:Value->Shared->Prop} (hcol:∀ (R:List Value->Shared->Prop) (E':Value->Shared->Prop),(∀ vs s1,Pv vs s1->R vs s1)->wpAny (model prog w) A.in1 (collect x) R E' s)
  (hz:∀ vs s1,Pv vs s1->vs.length<=sizeLine) (hS:∀ vs s1,Pv vs s1->∃ O,Sortable prog w s1 O vs /\
   ∀ us:List Value,us.Perm vs->Ord2 O false us->Q (.ref s1.heap.objs.size) { s1 with heap:=sortedHeap (s1.heap.push (seqObj "list" vs.toArray 0)) s1.heap.objs.size vs us.toArray }):wpAny (model prog w) A (call (.builtin "sorted") [x]) Q E s:=by
 refine Yd6 kind_sorted plain_sorted entry_sorted (args_sorted1 _) ?_;unfold Builtin.«sorted»;refine wpAny_bind (m:=checkCount "sorted" 1 1 _) (wpAny_pure (wpAny_bind (hcol _ _ fun vs s1 hp=>wpAny_bind (wpAny_newList ?_ (hz vs s1 hp)))));obtain⟨O,hS1,h⟩:=hS vs s1 hp;obtain⟨knd,ok,h1,h2,h3⟩:=hS1.ex;show wpAny _ _ _ _ _ { s1 with heap:=s1.heap.push (seqObj "list" vs.toArray 0) };have at1:(s1.heap.push (seqObj "list" vs.toArray 0)).get? s1.heap.objs.size=some (seqObj "list" vs.toArray 0):=Yav _ rfl;have up:∀ h':Heap,(∀ b o,(s1.heap.push (seqObj "list" vs.toArray 0)).get? b=some o->b≠s1.heap.objs.size->h'.get? b=some o)->∀ b o,s1.heap.get? b=some o->h'.get? b=some o:=fun h' k b o q=>
  k b o (Yab _ q) (YaB (Yah q))
 exact wpAny_bind (wpAny_holding (wpAny_call_entry slot_list_sort ⟨_,at1,rfl⟩ entry_list_sort (Zge (s:={ s1 with heap:=s1.heap.push (seqObj "list" vs.toArray 0) }) at1 (hz vs s1 hp) (fun h' k hl2 Q' q=>h3 _ _ h' (up h' k) hl2 Q' q) (fun h' k=>h2 _ h' (up h' k)) h1 fun us p1 p2=>⟨_,rfl,wpAny_pure ⟨_,rfl,h us p1 p2⟩⟩) (args_list_sort _)))
end
section
variable {X:Cx}{pins:List (Addr × Obj)}{σ:St}{H:Hp}{s:Shared}{h':Heap}
def ZcJ (H:Hp) (as:List Addr) (f:Addr->HO):Hp:=fun b=>if b∈as then some (f b) else H b
theorem ZcI {as:List Addr}{f:Addr->HO}{b:Addr} (h:b∈as):ZcJ H as f b=some (f b):=if_pos h
theorem Za4 {as:List Addr}{f:Addr->HO}{b:Addr} (h:b ∉ as):ZcJ H as f b=H b:=if_neg h
theorem Inv.laidAll {as:List Addr}{f:Addr->HO}{t':Nat} (I:Inv X pins σ H s) (k:∀ b u,s.heap.get? b=some u->h'.get? b=some u) (hp:∀ a∈as,s.heap.objs.size<=a)
  (new:∀ a∈as,ObjOk X.prog X.w (ZcJ H as f) h' a (f a)):Inv X pins σ (ZcJ H as f) { s with heap:=h',toks:=t' }:=by
 have nn:∀ b o,H b=some o->b ∉ as:=fun b o q z=>absurd (Yak (I.hok.lt q) (hp b z)) (Ybb _);have kk:∀ b o,H b=some o->ZcJ H as f b=some o:=fun b o q=>by rw[Za4 (nn b o q)];exact q
 refine I.un ⟨fun b u q _ _ _=>k b u q,fun b u q _ _ _=>⟨u.slots,k b u q⟩,fun b u q n _=>?_,fun b u q _=>⟨u,k b u q⟩,fun b xs q=>kk b _ q,fun b u xs q=>kk b _ q,fun b ps q=>⟨#[],by rw[kk b _ q];simp⟩⟩ fun b u q=>?_
 ·rw[Za4 fun z=>absurd (Yak (Yah q) (hp b z)) (Ybb _)];exact n
 ·by_cases hb:b∈as
  ·rw[ZcI hb] at q;cases q;exact new b hb
  ·rw[Za4 hb] at q;exact (I.hok b u q).stay (fun c v _ r=>k c v r) (fun c r=>kk c _ r) fun c xs r=>kk c _ r
end
theorem Zde {β:Type}{q:β}:∀ {as:List Addr}{ps:List β}{j:Nat}{a:Addr},as.Pairwise (·<·)->as[j]?=some a->ps[j]?=some q->(as.zip ps).lookup a=some q
 | [],_,_,_,_,h,_=>by simp at h
 | _::_,[],_,_,_,_,h=>by simp at h
 | x::as,y::ps,0,a,hp,h1,h2=>by
  simp at h1 h2;subst h1 h2;simp
 | x::as,y::ps,j+1,a,hp,h1,h2=>by
  have hp:=YaS.mp hp;have h1:as[j]?=some a:=by simpa using h1
  have h2:ps[j]?=some q:=by simpa using h2
  have hne:(a == x)=false:=by
   have:=hp.1 a (YaE h1);simpa using (Yby this)
  rw[YeQ,Ybw,hne];exact Zde hp.2 h1 h2
def ZkL (tk tv:TE):TE:=fun σ H Q=>∀ p,H p=none->tk σ (upd H p (.dK [])) fun x H1=>tv σ H1 fun y H2=>H2 p=some (.dK [])/\∃ kvs:List (Key × V),[(x,y)]=kvs.map (fun kv=>(kV kv.1,kv.2))/\kvs.length<=15/\Q (.ref p) (upd H2 p (.dK (Zcx [] kvs)))
theorem Zj3 {X:Cx}{pos:Pos}{k v:Expr}{tk tv:TE} (hk:PE X k tk) (hv:PE X v tv):PE X (.Dict [some k] [v] pos) (ZkL tk tv):=by
 intro pins s σ H Q I q;exact ZlC (ZjY hk hv ZlA) rfl rfl (by intro z;cases z) (by show 1<=15;decide) pins s σ H Q I q
abbrev dI (ps:List (Int × Int)):HO:=.dK (ps.map fun q=>(Ybp q.1,V.int q.2))
section
variable {X:Cx}
theorem Zhp (hc:X.calm=true):Zca X (.builtin "sorted") (fun xs H Q=>∃ (v a:Addr) (ps:List (Int × Int)),xs=[.ref v]/\H v=some (VwI v a)/\Rd H a (dI ps) /\
  ∀ l qs (ms:List (Int × Int)) H',H l=none->(∀ q∈qs,H q=none)->ms.Perm ps->ms.Pairwise (fun p q=>lxB [q.1,q.2] [p.1,p.2]=false)->H' l=some (.lst (qs.map V.ref))->TTs H' qs (ms.map fun q=>[q.1,q.2])->Same H H'->Q (.ref l) H'):=by
 intro pins s σ H xs us Q I r h;obtain⟨v,a,ps,rfl,hv,hd,q⟩:=h;obtain⟨u,rfl,r1⟩:=ZdU r;cases r1;obtain⟨hz,hsm,vs,rel,dd⟩:=Zhn I.hok hd;obtain⟨ep,da⟩:=dd.dictAt;have hl:vs.length=ps.length:=by rw[<- rel.length,Yad]
 rw[Yad] at hz;refine Zlk (Pv:=fun us s1=>∃ h' tk as,us=as.map Ya9/\s1={ s with heap:=h',toks:=tk }/\(∀ b o,s.heap.get? b=some o->h'.get? b=some o)/\as.length=vs.length/\PySem.W.KdxG (Zay X.prog X.w) vs s.heap.objs.size h' as)
  (fun R E' hR=>PySem.W.kdx_collect (A:=X.A.in1) (I.ok.hd hc) (ZkJ I hv) da (by rw[hl];exact hz) fun h' tk as hk hn hG=>hR _ _ ⟨h',tk,as,rfl,rfl,hk,hn,hG⟩) ?_ ?_
 ·rintro us s1 ⟨h',tk,as,rfl,rfl,hk,hn,hG⟩;rw[Yad,hn,hl];exact hz
 ·rintro us s1 ⟨h',tk,as,rfl,rfl,hk,hn,hG⟩;have pr:∀ (j:Nat) (b:Addr),as[j]?=some b->∃ m c t t',ps[j]?=some (m,c)/\h'.get? b=some { cls:=.type "tuple",data:=.seq #[.int m t,.int c t'] }:=fun j b hj=>by
   obtain⟨key,k,x,e1,e2,e3⟩:=hG.pairs j b hj;have hj':j<ps.length:=by rw[<- hl,<- hn];exact (Yaa.mp hj).1
   obtain⟨⟨m,c⟩,hm⟩:∃ q,ps[j]?=some q:=⟨ps[j],Yaf hj'⟩
   obtain⟨u,hu,ru⟩:=rel.get (i:=j) (k:=Ybp m) (v:=V.int c) (by rw[Yas,hm];rfl);rw[e1] at hu;cases hu;obtain⟨t,rfl⟩:=Zm4 e2;obtain⟨t',rfl⟩:=ru;exact⟨m,c,t,t',hm,e3⟩
  let pq:Addr->Int × Int:=fun b=>((as.zip ps).lookup b).getD (0,0)
  have pqj:∀ (j:Nat) (b:Addr) q,as[j]?=some b->ps[j]?=some q->pq b=q:=fun j b q h1 h2=>by
   show ((as.zip ps).lookup b).getD (0,0)=q;rw[Zde hG.rise h1 h2];rfl
  let ks:Addr->List Int:=fun b=>[(pq b).1,(pq b).2]
  have at_:∀ b∈as,∃ t t',h'.get? b=some { cls:=.type "tuple",data:=.seq #[.int (pq b).1 t,.int (pq b).2 t'] }:=fun b hb=>by
   obtain⟨j,hj⟩:=Yde hb;obtain⟨m,c,t,t',e1,e2⟩:=pr j b hj;exact⟨t,t',by rw[pqj j b _ hj e1];exact e2⟩
  have hT:∀ v∈as.map Ya9,TupI h' ks v:=fun v hv=>by
   obtain⟨b,hb,rfl⟩:=Yay.mp hv;obtain⟨t,t',e⟩:=at_ b hb;exact⟨b,_,_,_,rfl,e,rfl,rfl,.cons _ _ (.cons _ _ .nil),by show [_,_]≠[];exact fun z=>nomatch z⟩
  refine⟨KOt ks,Zb0 (s:={ s with heap:=h',toks:=tk }) hT,fun us p1 p2=>?_⟩;obtain⟨qs,rfl,pm⟩:=ZeR p1;have I1:Inv X pins σ (ZcJ H as fun b=>.tup ((ks b).map V.int)) { s with heap:=h',toks:=tk }:=by
   refine I.laidAll hk (fun b hb=>Ya8 (hG.above b hb)) fun b hb=>?_;obtain⟨t,t',e⟩:=at_ b hb;refine⟨?_,[.int (pq b).1 t,.int (pq b).2 t'],.cons ⟨_,rfl⟩ (.cons ⟨_,rfl⟩ .nil),⟨_,e,rfl,rfl,0,rfl⟩⟩;show 2<=sizeLine
   decide
  have nas:∀ b∈as,H b=none:=fun b hb=>I.hok.fresh (Ya8 (hG.above b hb));obtain⟨e,he⟩:=sortedHeap_at (h:=h'.push (seqObj "list" (as.map Ya9).toArray 0)) (a:=h'.objs.size) (vs:=as.map Ya9) (out:=(qs.map Ya9).toArray) (Yav _ rfl);have keep:∀ b o,h'.get? b=some o->(sortedHeap (h'.push (seqObj "list" (as.map Ya9).toArray 0)) h'.objs.size (as.map Ya9) (qs.map Ya9).toArray).get? b=some o:=fun b o q=>by
   rw[sortedHeap_old (YaB (Yah q)) (by rw[Ybj];exact YcW (Yah q))];exact Yab _ q
  have fl:ZcJ H as (fun b=>.tup ((ks b).map V.int)) h'.objs.size=none:=I1.hok.fresh (Yag _);have hna:h'.objs.size ∉ as:=fun z=>by rw[ZcI z] at fl;cases fl
  have I2:=I1.laid (a:=h'.objs.size) (o:=.lst (qs.map V.ref)) (t':=tk) keep (Yag _) ⟨by rw[Yad,pm.length_eq,hn,hl];exact hz,qs.map Ya9,e,ZcR qs,he⟩;refine⟨.ref h'.objs.size,_,I2,rfl,q _ qs (qs.map pq) _ ?_ (fun b hb=>nas b (pm.mem_iff.mp hb)) ?_ ?_ Zab ?_ ?_⟩
  ·rw[Za4 hna] at fl;exact fl
  ·have e1:as.map pq=ps:=by
    refine Ydu fun j=>?_;rw[Yas]
    cases ej:as[j]? with
    | none=>
     have:as.length<=j:=Yeb.mp ej;exact (Yeb.mpr (by (clear hna hz;omega))).symm
    | some b=>
     obtain⟨m,c,t,t',e1,e2⟩:=pr j b ej;rw[e1];show some (pq b)=_;rw[pqj j b _ ej e1]
   rw[<- e1];exact pm.map pq
  ·simp only[Ord2,YaR,if_false] at p2;exact Ybc.mpr (Ybc.mp p2)
  ·refine⟨by simp,fun j b xs h1 h2=>?_⟩;rw[Yas,Yas,h1] at h2;cases h2;have hb:b∈as:=pm.mem_iff.mp (YaE h1);rw[Zaf (fun z=>hna (by rw[<- z];exact hb)),ZcI hb]
  ·intro b o hb;have nb:b ∉ as:=fun z=>by rw[nas b z] at hb;cases hb
   have nb2:b≠h'.objs.size:=YaB (I1.hok.lt (a:=b) (o:=o) (by rw[Za4 nb];exact hb));rw[Zaf nb2,Za4 nb];exact hb
end
end L2
namespace L2
open PySem PySem.Spec PyProof.Rows
structure WE (X:Cx) (e:Expr) (t:TE):Prop where
 out:PE X e t
section
variable {X:Cx}{a b e k v:Expr}{ta tb te tk tv:TE}{pos:Pos}{es:List Expr}{t:TA}
theorem we (h:PE X e te):WE X e te:=⟨h⟩
theorem Zmc {op:Operator}{r:R2} (ho:OpR X (binaryOp op) r) (ha:WE X a ta) (hb:WE X b tb):WE X (.BinOp a op b pos) (tOp r ta tb):=⟨Zau ho ha.out hb.out⟩
theorem Znm {r:R2} (hr:IxR X r) (ha:WE X a ta) (hb:WE X b tb) (hs:Zju b):WE X (.Subscript a b pos) (tOp r ta tb):=⟨ZaV hr ha.out hb.out hs⟩
theorem Zjz (h1:WE X k tk) (h2:WE X v tv):WE X (.Dict [some k] [v] pos) (ZkL tk tv):=⟨Zj3 h1.out h2.out⟩
theorem ZkI {i:Int}{j}:WE X (.Constant (.int i) j pos) (tC (.int i)):=⟨Zag⟩
theorem Zhu (h:WA X es t):WE X (.List es pos) (tLst t):=⟨ZaU h.out⟩
theorem Zf5 (hn:Zen e=true) (ha:WE X e te) (hr:WA X es t):WA X (e::es) (Zle te t):=⟨Zaa ha.out hr.out (Zdk hn)⟩
theorem Zht (he:WE X e te):WS X (.Return (some e) pos) (tRet te):=⟨Zaw he.out⟩
theorem Zf3 {i:Nat}{x:Str}{pos':Pos} (hN:X.N.Nodup) (hi:X.N[i]?=some x) (hx:Loc X.env.scope x) (he:WE X e te) (hs:swapsWith e (some (.Name x pos')) pos.line X.env=pure false:=by rfl) (hf:X.fn x=true∨X.env.scope.names.lookup x=some .local:=by first | exact .inl rfl | exact .inr rfl | assumption) :
  WS X (.Assign [.Name x pos'] e pos) (tAsg te (Zbc i)):=⟨Zaq hN hi hx he.out hs hf⟩
end
end L2
namespace Lv
open PySem L2
def oz (c:Int):Option V:=if c=0 then none else some (.int c)
theorem oz1 {c:Int} (h:c≠0):oz c=some (.int c):=if_neg h
def Rep (kvs:List (Key × V)) (f:Int->Int):Prop:=(∀ p∈kvs,∃ m c:Int,p=(Ybp m,V.int c))/\(kvs.map (·.1)).Nodup/\∀ m:Int,valV kvs (Ybp m)=oz (f m)
theorem Rep.nil:Rep [] (fun _=>0):=⟨(fun p h=>absurd h YbE),List.nodup_nil,(fun m=>rfl)⟩
theorem Rep.congr {kvs:List (Key × V)}{f g:Int->Int} (h:Rep kvs f) (e:∀ m,f m=g m):Rep kvs g:=by
 have:f=g:=funext e;rw[<- this];exact h
theorem Zkt {kvs:List (Key × V)}{k:Key}{v:V}:(putK kvs k v).map (·.1)=kvs.map (·.1)∨(k ∉ kvs.map (·.1)/\(putK kvs k v).map (·.1)=kvs.map (·.1)++[k]):=by
 unfold putK;by_cases h:(kvs.any fun kv=>decide (kv.1=k))=true
 ·rw[if_pos h];left;rw[Yct];refine YbK fun p _=>?_;show (if p.1=k then (p.1,v) else p).1=p.1;split <;> rfl
 ·rw[if_neg h];right;refine⟨fun hm=>h ?_,by simp⟩;obtain⟨p,hp,e⟩:=Yay.mp hm;exact YdG.mpr ⟨p,hp,decide_eq_true e⟩
theorem ZlR {kvs:List (Key × V)}{k:Key}{v:V}{p:Key × V} (h:p∈putK kvs k v):p∈kvs∨p=(k,v):=by
 unfold putK at h;split at h
 ·obtain⟨q,hq,e⟩:=Yay.mp h;split at e
  ·rename_i e2;right;rw[<- e,e2]
  ·left;rw[<- e];exact hq
 ·rcases Yap.mp h with h | h
  ·exact .inl h
  ·exact .inr (YaN.mp h)
theorem Rep.put {kvs:List (Key × V)}{f:Int->Int}{m c:Int} (h:Rep kvs f) (hc:c≠0):Rep (putK kvs (Ybp m) (.int c)) (fun j=>if j=m then c else f j):=by
 obtain⟨h1,h2,h3⟩:=h;refine⟨fun p hp=>?_,?_,fun j=>?_⟩
 ·rcases ZlR hp with hp | rfl
  ·exact h1 p hp
  ·exact⟨m,c,rfl⟩
 ·rcases Zkt (kvs:=kvs) (k:=Ybp m) (v:=.int c) with e | ⟨hn,e⟩
  ·rw[e];exact h2
  ·rw[e];exact Zis h2 hn
 ·rw[ZjA];by_cases e:j=m
  ·subst e;rw[if_pos rfl];show _=oz (if j=j then c else f j);rw[if_pos rfl,oz1 hc]
  ·rw[if_neg (by intro z;exact e (Ydw z))];show _=oz (if j=m then c else f j);rw[if_neg e];exact h3 j
theorem ZjC {kvs:List (Key × V)}{k:Key}{v:V} (hn:(kvs.map (·.1)).Nodup) (h:(k,v)∈kvs):valV kvs k=some v:=by
 induction kvs with
 | nil=>cases h
 | cons p r ih=>
  rw[YaD,YbS] at hn;rcases Yau.mp h with rfl | h
  ·exact ZaJ rfl
  ·rw[ZaK (fun e=>hn.1 (by rw[e];exact Yay.mpr ⟨_,h,rfl⟩))];exact ih hn.2 h
theorem Rep.at {kvs:List (Key × V)}{f:Int->Int}{k:Key}{v:V} (h:Rep kvs f) (hm:(k,v)∈kvs):∃ m:Int,k=Ybp m/\v=.int (f m)/\f m≠0:=by
 obtain⟨m,c,e⟩:=h.1 _ hm;cases e;have e2:=ZjC h.2.1 hm;rw[h.2.2 m] at e2;by_cases hz:f m=0
 ·rw[hz] at e2;cases e2
 ·rw[oz1 hz] at e2;exact⟨m,rfl,(Yaw e2).symm,hz⟩
theorem Rep.key {kvs:List (Key × V)}{f:Int->Int}{m:Int} (h:Rep kvs f) (hm:f m≠0):(Ybp m:Key)∈kvs.map (·.1):=by
 have:=h.2.2 m;rw[oz1 hm] at this;exact Zk9 this
theorem Rep.nkey {kvs:List (Key × V)}{f:Int->Int}{m:Int} (h:Rep kvs f) (hm:f m=0):(Ybp m:Key) ∉ kvs.map (·.1):=by
 have:=h.2.2 m;rw[hm] at this;exact ZjB this
theorem Rep.get {kvs:List (Key × V)}{f:Int->Int} (h:Rep kvs f) (m:Int):(valV kvs (Ybp m)).getD (.int 0)=.int (f m):=by
 rw[h.2.2 m];by_cases hz:f m=0
 ·rw[hz];rfl
 ·rw[oz1 hz];rfl
def dec (p:Key × V):Int × Int:=(match p.1 with | .inl m=>m | .inr _=>0,match p.2 with | .int c=>c | _=>0)
def enc (q:Int × Int):Key × V:=(Ybp q.1,V.int q.2)
theorem Rep.dec {kvs:List (Key × V)}{f:Int->Int} (h:Rep kvs f):kvs=(kvs.map Lv.dec).map enc:=by
 rw[Yct];refine (YdP kvs).symm.trans (YbK fun p hp=>?_);obtain⟨m,c,rfl⟩:=h.1 p hp;rfl
theorem Rep.nd {kvs:List (Key × V)}{f:Int->Int} (h:Rep kvs f):((kvs.map Lv.dec).map (·.1)).Nodup:=by
 have h2:=h.2.1;rw[h.dec,Yct] at h2;have h3:((kvs.map Lv.dec).map fun q=>(Ybp q.1:Key)).Nodup:=h2;unfold Ye3 at h3 ⊢;rw[Ybc] at h3 ⊢;exact h3.imp fun {a b} z e=>z (by rw[e])
theorem ZmW {l:List Int}{B:Nat} (hn:l.Nodup) (hb:∀ x∈l,0<=x/\x<=(B:Int)):l.length<=B+1:=by
 have:∀ (B:Nat) (l:List Int),l.Nodup->(∀ x∈l,0<=x/\x<(B:Int))->l.length<=B:=by
  intro B
  induction B with
  | zero=>
   intro l _ hb
   cases l with
   | nil=>exact YaV _
   | cons x r=>have:=hb x (by simp);omega
  | succ B ih=>
   intro l hn hb;by_cases h:(B:Int)∈l
   ·have h1:=ih (l.erase B) (hn.erase _) fun x hx=>by
     have h2:=(List.Nodup.mem_erase_iff hn).mp hx;have:=hb x h2.2;have:=h2.1
     (clear this;omega)
    rw[List.length_erase_of_mem h] at h1;omega
   ·have:=ih l hn fun x hx=>by
     have h2:=hb x hx;have:x≠B:=by rintro rfl;exact h hx
     (clear h;omega)
    (clear h;omega)
 exact this (B+1) l hn fun x hx=>by have:=hb x hx;omega
theorem Rep.len {kvs:List (Key × V)}{f:Int->Int}{B:Nat} (h:Rep kvs f) (hb:∀ m,f m≠0->0<=m/\m<=(B:Int)):kvs.length<=B+1:=by
 have:=ZmW (B:=B) h.nd fun x hx=>by
  rw[Yct] at hx;obtain⟨⟨k,v⟩,hp,rfl⟩:=Yay.mp hx;obtain⟨m,rfl,rfl,hz⟩:=h.at hp;exact hb m hz
 simpa using this
open Classical in
noncomputable def tkn (g:Int->Int) (ks:List Key) (m:Int):Int:=if (Ybp m:Key)∈ks then g m else 0
theorem ZhE (g:Int->Int) (m:Int):tkn g [] m=0:=if_neg YbE
theorem ZdV {g:Int->Int}{ks:List Key}{m:Int} (h:(Ybp m:Key) ∉ ks):tkn g ks m=0:=if_neg h
theorem Zgb {g:Int->Int}{ks:List Key}{m:Int} (h:(Ybp m:Key)∈ks):tkn g ks m=g m:=if_pos h
theorem ZhF {g:Int->Int}{kvs:List (Key × V)} (h:Rep kvs g) (m:Int):tkn g (kvs.map (·.1)) m=g m:=by
 by_cases e:g m=0
 ·rw[ZdV (h.nkey e),e]
 ·exact Zgb (h.key e)
theorem Zf9 {g:Int->Int}{ks:List Key}{m:Int} (h:g m=0):tkn g ks m=0:=by
 unfold tkn;split
 ·exact h
 ·rfl
theorem Zga {g:Int->Int}{ks:List Key}{m j:Int} (h:(Ybp m:Key) ∉ ks):tkn g (ks++[Ybp m]) j=if j=m then g m else tkn g ks j:=by
 by_cases e:j=m
 ·subst e;rw[if_pos rfl,Zgb (by simp)]
 ·rw[if_neg e];by_cases h2:(Ybp j:Key)∈ks
  ·rw[Zgb h2,Zgb (YaM _ h2)]
  ·rw[ZdV h2,ZdV fun z=>?_];rcases Yap.mp z with z | z
   ·exact h2 z
   ·have z:(Ybp j:Key)=Ybp m:=by simpa using z
    exact e (Ydw z)
theorem Ze4 {kvs:List (Key × V)}{i:Nat}{k:Key}{v:V} (h:kvs[i]?=some (k,v)):(kvs.take (i+1)).map (·.1)=(kvs.take i).map (·.1)++[k]:=by
 rw[Ybn,h];simp
theorem ZiI {kvs:List (Key × V)}{i:Nat}{k:Key}{v:V} (nd:(kvs.map (·.1)).Nodup) (hi:kvs[i]?=some (k,v)):k ∉ (kvs.take i).map (·.1):=fun hm=>by
 obtain⟨q,hq,e⟩:=Yay.mp hm;obtain⟨j,hj⟩:=Yde hq;have hji:j<i:=by
  have:=(Yaa.mp hj).1
  rw[YaA] at this;omega
 rw[YbT hji] at hj;have a1:(kvs.map (·.1))[j]?=some k:=by rw[Yas,hj,<- e];rfl
 have a2:(kvs.map (·.1))[i]?=some k:=by rw[Yas,hi];rfl
 have hj2:=(Yaa.mp a1).1
 have:=(List.getElem?_inj hj2 nd).mp (a1.trans a2.symm)
 (clear hj2;omega)
def SprL (L:List (Int × Int)) (f:Int->Int):Prop:=L.Pairwise (fun p q=>p.1<q.1)/\∀ m c,(m,c)∈L↔(c=f m/\c≠0)
theorem Zmv {kvs:List (Key × V)}{f:Int->Int}{ms:List (Int × Int)} (h:Rep kvs f) (hp:ms.Perm (kvs.map Lv.dec)) (hs:ms.Pairwise (fun p q=>lxB [q.1,q.2] [p.1,p.2]=false)):SprL ms f:=by
 have nd:(ms.map (·.1)).Nodup:=(hp.map (·.1)).nodup_iff.mpr h.nd;unfold Ye3 at nd;rw[Ybc] at nd;refine⟨(hs.and nd).imp ?_,fun m c=>?_⟩
 ·rintro p q ⟨a,b⟩;have a:(if q.1=p.1 then lxB [q.2] [p.2] else decide (q.1<p.1))=false:=a;rw[if_neg (Yba b)] at a;have:=of_decide_eq_false a;omega
 ·rw[hp.mem_iff];constructor
  ·intro hm;obtain⟨⟨k,v⟩,hp,e⟩:=Yay.mp hm;obtain⟨m',rfl,rfl,hz⟩:=h.at hp;have e1:m'=m:=congrArg Prod.fst e;have e2:f m'=c:=congrArg Prod.snd e;subst e1 e2;exact⟨rfl,hz⟩
  ·rintro⟨rfl,hz⟩;have hk:=h.key hz;obtain⟨⟨k,v⟩,hp,e⟩:=Yay.mp hk;obtain⟨m',rfl,rfl,_⟩:=h.at hp;have e1:m'=m:=Ydw e;subst e1;exact Yay.mpr ⟨_,hp,rfl⟩
theorem ZhM:∀ {L M:List (Int × Int)},L.Pairwise (fun p q=>p.1<q.1)->M.Pairwise (fun p q=>p.1<q.1)->(∀ x,x∈L↔x∈M)->L=M
 | [],[],_,_,_=>rfl
 | [],b::M,_,_,h=>absurd ((h b).mpr Yai) (by simp)
 | a::L,[],_,_,h=>absurd ((h a).mp Yai) (by simp)
 | a::L,b::M,h1,h2,h=>by
  obtain⟨a1,a2⟩:=YaS.mp h1;obtain⟨b1,b2⟩:=YaS.mp h2;have e:a=b:=by
   rcases Yau.mp ((h a).mp Yai) with e | z
   ·exact e
   ·rcases Yau.mp ((h b).mpr Yai) with e | y
    ·exact e.symm
    ·have:=b1 a z;have:=a1 b y;omega
  subst e;congr 1;refine ZhM a2 b2 fun x=>?_;constructor
  ·intro hx;rcases Yau.mp ((h x).mp (Yam _ hx)) with e | z
   ·subst e;have:=a1 x hx;omega
   ·exact z
  ·intro hx;rcases Yau.mp ((h x).mpr (Yam _ hx)) with e | z
   ·subst e;have:=b1 x hx;omega
   ·exact z
theorem SprL.uniq {L M:List (Int × Int)}{f:Int->Int} (h:SprL L f) (g:SprL M f):L=M:=ZhM h.1 g.1 fun ⟨m,c⟩=>by rw[h.2,g.2]
def cn (xs:List Int) (m:Int):Int:=(xs.count m:Int)
theorem Zfb (m:Int):cn [] m=0:=by simp[cn]
theorem Zc3 (xs:List Int) (m:Int):0<=cn xs m:=by unfold cn;omega
theorem Zfc (xs ys:List Int) (m:Int):cn (xs++ys) m=cn xs m+cn ys m:=by unfold cn;rw[Ydv];omega
theorem ZfY {xs:List Int}{m:Int}:cn xs m=0↔m ∉ xs:=by unfold cn;rw[<- List.count_eq_zero];omega
theorem cn_ne {xs:List Int}{m:Int}:cn xs m≠0↔m∈xs:=by
 rw[Ne,ZfY,Classical.not_not]
theorem ZfZ (x:Int) (xs:List Int) (m:Int):cn (x::xs) m=(if m=x then 1 else 0)+cn xs m:=by
 unfold cn;rw[YcC];by_cases h:m=x
 ·subst h;simp;omega
 ·have:¬ x=m:=fun z=>h z.symm;simp[h,this]
theorem ZgI (xs:List Int) (m:Int):cn (xs.map (·+1)) m=cn xs (m - 1):=by
 induction xs with
 | nil=>simp[cn]
 | cons x xs ih=>
  rw[YaD,ZfZ,ZfZ,ih];by_cases h:m=x+1
  ·rw[if_pos h,if_pos (by (clear ih;omega))]
  ·rw[if_neg h,if_neg (by (clear ih;omega))]
def DDs (H:Hp) (rs:List Addr) (N:List (List Int)):Prop:=rs.length=N.length/\∀ (j:Nat) r xs,rs[j]?=some r->N[j]?=some xs->∃ kvs,H r=some (.dK kvs)/\Rep kvs (cn xs)
theorem DDs.same {H H':Hp}{rs:List Addr}{N:List (List Int)} (h:DDs H rs N) (s:Same H H'):DDs H' rs N:=⟨h.1,fun j r xs a b=>let ⟨kvs,e,q⟩:=h.2 j r xs a b;⟨kvs,s _ _ e,q⟩⟩
theorem DDs.nil {H:Hp}:DDs H [] []:=⟨rfl,fun j r xs a=>by simp at a⟩
theorem DDs.snoc {H:Hp}{rs:List Addr}{N:List (List Int)}{r:Addr}{x:List Int}{kvs:List (Key × V)} (h:DDs H rs N) (e:H r=some (.dK kvs)) (q:Rep kvs (cn x)):DDs H (rs++[r]) (N++[x]):=⟨by simp[h.1],fun j r' xs a b=>by
 rcases YdA j rs.length with z | z | z
 ·rw[YaL z] at a;rw[YaL (by rw[<- h.1];exact z)] at b;exact h.2 j r' xs a b
 ·subst z;rw[YaI (Yag _)] at a;rw[h.1,YaI (Yag _)] at b;simp at a b;subst a b;exact⟨kvs,e,q⟩
 ·rw[Ycu (by simp;omega)] at a;cases a⟩
theorem DDs.cons {H:Hp}{rs:List Addr}{N:List (List Int)}{r:Addr}{x:List Int}{kvs:List (Key × V)} (h:DDs H rs N) (e:H r=some (.dK kvs)) (q:Rep kvs (cn x)):DDs H (r::rs) (x::N):=⟨by simp[h.1],fun j r' xs a b=>by
 cases j with
 | zero=>simp at a b;subst a b;exact⟨kvs,e,q⟩
 | succ j=>exact h.2 j r' xs (by simpa using a) (by simpa using b)⟩
theorem DDs.at {H:Hp}{rs:List Addr}{N:List (List Int)}{j:Nat}{r:Addr} (h:DDs H rs N) (e:rs[j]?=some r):∃ xs kvs,N[j]?=some xs/\H r=some (.dK kvs)/\Rep kvs (cn xs):=by
 have hj:=(Yaa.mp e).1
 rw[h.1] at hj;have e2:N[j]?=some N[j]:=Yaf hj;obtain⟨kvs,a,b⟩:=h.2 j r _ e e2;exact⟨_,kvs,e2,a,b⟩
def Bd (B:Int) (N:List (List Int)):Prop:=∀ xs∈N,∀ m∈xs,0<=m/\m<=B
theorem Bd.mono {B B':Int}{N:List (List Int)} (h:Bd B N) (hb:B<=B'):Bd B' N:=fun xs a m b=>by have:=h xs a m b;omega
theorem ZgN (p:Nat):∀ n:Nat,Bd n (num p n)
 | 0=>fun xs a m b=>by
  rcases Yau.mp (show xs∈[0]::Yae (p - 1) [] from a) with rfl | h
  ·have:m=0:=by simpa using b
   omega
  ·rw[(Yb3.mp h).2] at b;cases b
 | n+1=>fun xs a m b=>by
  have ih:=ZgN p n;have hf:∀ m∈fstN (num p n),0<=m/\m<=((n+1:Nat):Int):=fun m hm=>by
   unfold fstN at hm;obtain⟨y,hy,rfl⟩:=Yay.mp hm
   cases e:num p n with
   | nil=>rw[e] at hy;cases hy
   | cons c r=>
    rw[e] at hy;have:=ih c (by rw[e];exact Yai) y hy;omega
  rcases Yap.mp (show xs∈((num p n).tail.map (fstN (num p n)++·))++[fstN (num p n)] from a) with h | h
  ·obtain⟨y,hy,rfl⟩:=Yay.mp h;rcases Yap.mp b with b | b
   ·exact hf m b
   ·have:=ih y (List.mem_of_mem_tail hy) m b;omega
  ·rw[YaN.mp h] at b;exact hf m b
theorem Zl8 {B:Int}{N:List (List Int)} (h:Bd B N):∀ m,cn N.flatten m≠0->0<=m/\m<=B:=fun m hm=>by
 obtain⟨xs,a,b⟩:=Ybh.mp (cn_ne.mp hm);exact h xs a m b
def pr2 (q:Int × Int):List Int:=[q.1,q.2]
def ZcC:Sp:=fun vs H Q _=>∃ p:Nat,vs=[.int p]/\2<=p/\p<=7/\∀ l qs H',H l=none->H' l=some (.lst (qs.map V.ref))->DDs H' qs (num0 p)->Same H H'->Q (.ref l) H'
def Zd7:Sp:=fun vs H Q _=>∃ (a b:Addr) (k1 k2:List (Key × V)) (f g:Int->Int),vs=[.ref a,.ref b]/\H a=some (.dK k1)/\H b=some (.dK k2)/\Rep k1 f/\Rep k2 g/\(∀ m,0<=f m)/\(∀ m,0<=g m)/\(∀ m,f m≠0->0<=m/\m<=400)/\(∀ m,g m≠0->0<=m/\m<=400) /\
 ∀ l kvs H',H l=none->H' l=some (.dK kvs)->Rep kvs (fun m=>f m+g m)->Same H H'->Q (.ref l) H'
def Zcc (nx:List (List Int)->List (List Int)):Sp:=fun vs H Q _=>∃ (a:Addr) (rs:List Addr) (N:List (List Int)),vs=[.ref a]/\H a=some (.lst (rs.map V.ref))/\DDs H rs N/\2<=N.length/\N.length<=7/\Bd 399 N /\
 ∀ l qs H',H l=none->H' l=some (.lst (qs.map V.ref))->DDs H' qs (nx N)->Same H H'->Q (.ref l) H'
def Zd1:Sp:=fun vs H Q _=>∃ (a:Addr) (rs:List Addr) (N:List (List Int)),vs=[.ref a]/\H a=some (.lst (rs.map V.ref))/\DDs H rs N/\N.length<=7/\Bd 400 N /\
 ∀ l qs L H',H l=none->H' l=some (.tup (qs.map V.ref))->TTs H' qs (L.map pr2)->SprL L (cn N.flatten)->Same H H'->Q (.ref l) H'
def Zd9 (fn:Addr) (S:Nat->Nat->List (List Int)):Sp:=fun vs H Q _=>∃ p n:Nat,vs=[.int p,.int n,.ref fn]/\2<=p/\p<=7/\n<=300/\∀ l qs L H',H l=none->H' l=some (.tup (qs.map V.ref))->TTs H' qs (L.map pr2)->SprL L (cn (S p n).flatten)->Same H H'->Q (.ref l) H'
def ZhN (S:Nat->Nat->List (List Int)) (top:Nat):Sp:=fun vs H Q _=>∃ p n:Nat,vs=[.int p,.int n]/\2<=p/\p<=7/\n<=top/\∀ l qs L H',H l=none->H' l=some (.tup (qs.map V.ref))->TTs H' qs (L.map pr2)->SprL L (cn (S p n).flatten)->Same H H'->Q (.ref l) H'
end Lv
namespace L2
open PySem PySem.Spec PyProof.Rows
mutual
inductive RdN (H:Hp):V->PyData->Prop
 | non:RdN H .non .none
 | bl (b:Bool):RdN H (.bl b) (.bool b)
 | int (i:Int):RdN H (.int i) (.int i)
 | str (x:Str):RdN H (.str x) (.str x)
 | lst {a:Addr}{xs:List V}{ds:List PyData}:H a=some (.lst xs)->RdL H xs ds->RdN H (.ref a) (.list ds)
 | tup {a:Addr}{xs:List V}{ds:List PyData}:H a=some (.tup xs)->RdL H xs ds->RdN H (.ref a) (.tuple ds)
inductive RdL (H:Hp):List V->List PyData->Prop
 | nil:RdL H [] []
 | cons {x:V}{xs:List V}{d:PyData}{ds:List PyData}:RdN H x d->RdL H xs ds->RdL H (x::xs) (d::ds)
end
section
variable {P:Program}{w:World}{H:Hp}{h:Heap}
end
section
variable {X:Cx}
end
end L2
namespace L2
open PySem PySem.Spec PyProof.Rows PySem.SeqAt
section
variable {P:Program}{w:World}{H:Hp}{s:Shared}
end
section
variable {X:Cx}
end
end L2
namespace L2
open PySem PySem.Spec PyProof.Rows
section
variable {X:Cx}
end
end L2
namespace Lv
open PySem L2
def rl (p n i:Nat):List Int:=(num p n).getD i []
theorem Za2 {L:List (Int × Int)}{xs:List Int} (h:SprL L (cn xs)) (m:Int):m∈L.map (·.1)↔m∈xs:=by
 rw[Yay];constructor
 ·rintro⟨⟨a,c⟩,hx,rfl⟩;have:=(h.2 a c).mp hx;exact cn_ne.mp (by rw[<- this.1];exact this.2)
 ·intro hm;exact⟨(m,cn xs m),(h.2 _ _).mpr ⟨rfl,cn_ne.mpr hm⟩,rfl⟩
theorem Zmx {L:List (Int × Int)}{f:Int->Int} (h:SprL L f):(L.map (·.1)).Pairwise (·<·):=by
 rw[Ybc];exact h.1
theorem Zmw {L:List (Int × Int)}{f:Int->Int} (h:SprL L f):(L.map (·.1)).Nodup:=by
 unfold Ye3;exact (Zmx h).imp fun {a b} z=>Int.ne_of_lt z
theorem Zfw:∀ {L:List (Int × Int)}{xs:List Int},SprL L (cn xs)->(L.map (·.2)).sum=xs.length
 | [],xs,h=>by
  cases xs with
  | nil=>rfl
  | cons x r=>have:=(Za2 h x).mpr Yai;cases this
 | (m,c)::L,xs,h=>by
  obtain⟨h1,h2⟩:=YaS.mp h.1;have hc:=(h.2 m c).mp Yai;have hL:SprL L (cn (xs.filter fun x=>decide (x≠m))):=by
   refine⟨h2,fun a b=>?_⟩;have e:a≠m->cn (xs.filter fun x=>decide (x≠m)) a=cn xs a:=fun z=>by
    unfold cn;rw[Ye2 (by simpa using z)]
   constructor
   ·intro hx;have z:a≠m:=by have:=h1 _ hx;intro y;simp at this;(clear e hc;omega)
    rw[e z];exact (h.2 a b).mp (Yam _ hx)
   ·rintro⟨y1,y2⟩;have z:a≠m:=by
     rintro rfl;refine y2 ?_;rw[y1,ZfY];simp
    rw[e z] at y1;rcases Yau.mp ((h.2 a b).mpr ⟨y1,y2⟩) with q | q
    ·cases q;exact absurd rfl z
    ·exact q
  rw[YaD,Yaz,Zfw hL,hc.1];unfold cn;have:∀ ys:List Int,((ys.count m:Nat):Int)+((ys.filter fun x=>decide (x≠m)).length:Nat)=(ys.length:Nat):=by
   intro ys
   induction ys with
   | nil=>rfl
   | cons y r ih=>
    rw[YcC,Ye9];by_cases z:y=m
    ·subst z;rw[if_pos (by simp),if_neg (by simp),YaH]
     (clear hc;omega)
    ·rw[if_neg (by simpa using z),if_pos (by simpa using z),YaH,YaH]
     (clear z hc;omega)
  exact this xs
end Lv
namespace Lv
open PySem L2
theorem Zin {p:Nat} (hp:2<=p) (n:Nat):∃ x r,num p n=x::r/\r.length+1=p:=by
 have hl:=Zio (p:=p) (by omega) n
 cases h:num p n with
 | nil=>rw[h] at hl;simp at hl;omega
 | cons x r=>exact⟨x,r,rfl,by rw[h] at hl;simpa using hl⟩
end Lv
namespace L2
open PySem
end L2
namespace Lv
open PySem L2
def sm (g:Nat->Int):Nat->Int
 | 0=>0
 | k+1=>sm g k+g (k+1)
def trs (h:Nat->Int):Nat->Int
 | 0=>0
 | k+1=>trs h k+h k
theorem ZcK {g h:Nat->Int}:∀ {k:Nat},(∀ j,j<k->g j=h j)->trs g k=trs h k
 | 0,_=>rfl
 | k+1,e=>by rw[trs,trs,ZcK fun j a=>e j (by omega),e k (by omega)]
def sq (p n:Nat):List (List Int):=(Ybi (n+1)).map fun j=>rl p j 0
end Lv
namespace L2
open PySem PySem.Spec PyProof.Rows PySem.SeqAt
inductive TyS (H:Hp):V->Value->Prop
 | int (i:Int):TyS H (.int i) (.type "int")
 | bl (b:Bool):TyS H (.bl b) (.type "bool")
 | lst {a:Addr}{xs:List V} (e:H a=some (.lst xs)):TyS H (.ref a) (.type "list")
 | tup {a:Addr}{xs:List V} (e:H a=some (.tup xs)):TyS H (.ref a) (.type "tuple")
section
variable {X:Cx}
end
end L2
namespace HT
open PySem PySem.Spec PyProof.Rows
section
variable {prog:Program}{w:World}{A:Around}{E:Value->Shared->Prop}{s:Shared}
end
end HT
namespace L2
open PySem PySem.Spec PyProof.Rows PySem.SeqAt
inductive TyA (H:Hp):V->String->Prop
 | non:TyA H .non "NoneType"
 | int (i:Int):TyA H (.int i) "int"
 | bl (b:Bool):TyA H (.bl b) "bool"
 | str (x:Str):TyA H (.str x) "str"
 | lst {a:Addr}{xs:List V} (e:H a=some (.lst xs)):TyA H (.ref a) "list"
 | tup {a:Addr}{xs:List V} (e:H a=some (.tup xs)):TyA H (.ref a) "tuple"
 | dK {a:Addr}{kvs:List (Key × V)} (e:H a=some (.dK kvs)):TyA H (.ref a) "dict"
section
variable {X:Cx}
end
end L2
namespace Lv
open PySem L2 PySem.W
structure ExcTab (K:Frag) (reel C:Addr) (all:List Addr):Prop where
 ok:Znd K C=true
 exm:exmOne K (.ref C) (.ref reel)=some true
 isR:kitOne K (.ref C) (.ref reel)=some true
 isV:kitOne K (.ref C) (.type "ValueError")=some true
 one:∀ D∈all,kitOne K (.ref C) (.ref D)=some (D == C)
structure Excs (K:Frag) (mg:Str->Option Value) where
 reel:Addr
 nWays:Addr
 nRoom:Addr
 nLevel:Addr
 nStand:Addr
 tMany:Addr
 tFew:Addr
 nPlace:Addr
 nText:Addr
 nLine:Addr
 nBack:Addr
 nPhase:Addr
 clash:Addr
 mReel:mg "ReelError"=some (.ref reel)
 mWays:mg "NoWays"=some (.ref nWays)
 mRoom:mg "NoRoom"=some (.ref nRoom)
 mLevel:mg "NoLevel"=some (.ref nLevel)
 mStand:mg "NoStanding"=some (.ref nStand)
 mMany:mg "TooMany"=some (.ref tMany)
 mFew:mg "TooFew"=some (.ref tFew)
 mPlace:mg "NoPlace"=some (.ref nPlace)
 mText:mg "NoText"=some (.ref nText)
 mLine:mg "NoLine"=some (.ref nLine)
 mBack:mg "NoBack"=some (.ref nBack)
 mPhase:mg "NoPhase"=some (.ref nPhase)
 mClash:mg "Clash"=some (.ref clash)
 nd:([nWays,nRoom,nLevel,nStand,tMany,tFew,nPlace,nText,nLine,nBack,nPhase,clash]:List Addr).Nodup
def Excs.all {K:Frag}{mg:Str->Option Value} (X:Excs K mg):List Addr:=[X.nWays,X.nRoom,X.nLevel,X.nStand,X.tMany,X.tFew,X.nPlace,X.nText,X.nLine,X.nBack,X.nPhase,X.clash]
def anT:List String:=["NoneType","bool","int","str","list","tuple","dict"]
structure Thing (K:Frag) (H:Hp) (v:V) (T:String):Prop where
 ty:TyOf K H v (.type T)
 mem:T∈anT
def NotIn (lo hi:Int) (v:V) (T:String):Prop:=T≠"int"∨∃ i,v=.int i/\¬ (lo<=i/\i<=hi)
end Lv
namespace Lv
open PySem L2 PySem.W
end Lv
namespace Lv
open PySem L2 PySem.W
end Lv
namespace Lv
open PySem L2 PySem.W
end Lv
namespace L2
open PySem PySem.Spec PyProof.Rows PySem.W
end L2
namespace Lv
open PySem L2 PySem.W
end Lv
namespace Lv
open PySem L2 PySem.Spec PyProof.Rows
end Lv
namespace L2
open PySem PySem.Spec PyProof.Rows PySem.SeqAt
section
variable {X:Cx}
end
theorem Zjh {b1 b2:Bool}{K:Yac}{own:List Str}{js:List Nat}{g:TG}{tt:TT}{te:TE}{σ:St}{H1:Hp}{Q:VK}{a b:Addr}{xs ys:List V} (hlen:ys.length<=xs.length) (Pv:Addr->Nat->Hp->Prop) (h0:∀ acc,H1 acc=none->Pv acc 0 (upd H1 acc (.lst [])))
  (hl:∀ acc i H,H1 acc=none->i<=ys.length->Pv acc i H->SqB b1 K H a xs/\SqB b2 K H b ys)
  (hs:∀ acc i x y p H,H1 acc=none->xs[i]?=some x->ys[i]?=some y->Pv acc i H->H p=none->g (.ref p) (blkσ own js σ) (upd H p (.tup [x,y])) fun τ H4=>tt τ H4 fun c H5=>
   if c=true then te τ H5 fun y H6=>∃ zs,H6 acc=some (.lst zs)/\zs.length<sizeLine/\(i+1<=ys.length/\Pv acc (i+1) (upd H6 acc (.lst (zs++[y])))) else (i+1<=ys.length/\Pv acc (i+1) H5))
  (hd:∀ acc H,H1 acc=none->Pv acc ys.length H->Q (.ref acc) H):Zcv own js g tt te σ (ItzB b1 b2 K a b) H1 Q:=by
 intro acc hacc;refine⟨fun i H=>i<=ys.length/\Pv acc i H,ys.length,⟨YaV _,h0 acc hacc⟩,?_⟩;rintro i H ⟨hi,p⟩;obtain⟨q1,q2⟩:=hl acc i H hacc hi p;by_cases hlt:i<ys.length
 ·have hl2:i<xs.length:=by (clear hi;omega)
  refine .inr ⟨hlt,⟨xs,ys,xs[i],ys[i],q1,q2,by simp[hl2],by simp[hlt]⟩,fun x H' y=>?_⟩;obtain⟨pa,z1,z2,hp,e1,e2,y1,y2⟩:=y;subst e1 e2;exact hs acc i z1 z2 pa H hacc (y1 xs q1) (y2 ys q2) p hp
 ·have e:i=ys.length:=by (clear hlen;omega)
  subst e;exact .inl ⟨⟨xs,ys,q1,q2,.inr (Yag _)⟩,hd acc H hacc p⟩
end L2
namespace L2
open PySem PySem.Spec PyProof.Rows PySem.SeqAt
section
variable {X:Cx}
end
end L2
namespace L2
open PySem PySem.Spec PyProof.Rows PySem.SeqAt
theorem Zdx {α:Type}:∀ ys:List α,(Ybi ys.length).filterMap (ys[·]?)=ys
 | []=>rfl
 | y::ys=>by
  rw[YaH,List.range_succ_eq_map,YbX];show y::(List.map Nat.succ (Ybi ys.length)).filterMap ((y::ys)[·]?)=_;rw[Ydo];exact congrArg (y::·) (Zdx ys)
theorem Zgz {α β:Type}{f g:α->Option β}:∀ {l:List α},(∀ x∈l,f x=g x)->l.filterMap f=l.filterMap g
 | [],_=>rfl
 | x::l,h=>by rw[YbX,YbX,h x (by simp),Zgz fun y hy=>h y (by simp[hy])]
theorem Zdb (its:List Value):slicePick its.toArray none none (some (-1))=its.reverse.toArray:=by
 unfold slicePick;have e1:sliceBounds none none (some (-1)) its.toArray.size=((its.length:Int) - 1,-1,-1):=by
  simp[sliceBounds]
 rw[e1];have e2:sliceRange ((its.length:Int) - 1) (-1) (-1)=(Ybi its.length).map fun k=>its.length - 1 - k:=by
  unfold sliceRange;have:(if (its.length:Int) - 1 > -1 then ((its.length:Int) - 1 - (-1) - (-1) - 1) / (-(-1)) else 0).toNat=its.length:=by
   by_cases h:(its.length:Int) - 1 > -1
   ·rw[if_pos h,show (-(-1):Int)=1 by decide,Int.ediv_one]
    (clear h;omega)
   ·rw[if_neg h];omega
  dsimp only;rw[if_neg (by decide),this];apply YbK;intro k hk;have:=Ycr.mp hk
  (clear this;omega)
 show (List.filterMap _ (sliceRange ((its.length:Int) - 1) (-1) (-1))).toArray=_;rw[e2,Ydo];congr 1;have e3:=Zdx its.reverse;rw[Ybg] at e3;rw[<- e3];apply Zgz;intro k hk;have:=Ycr.mp hk;show its.toArray[its.length - 1 - k]?=_;rw[List.getElem?_toArray,YbN this]
def ZnB (K:Yac):V->Hp->VK->Prop:=fun x H Q=>∃ a xs,x=.ref a/\SqL K H a xs/\∀ p,H p=none->Q (.ref p) (upd H p (.lst xs.reverse))
def Zno (K:Yac) (te:TE) (ts:TO):TE:=fun σ H Q=>te σ H fun x H1=>ts σ H1 fun k H2=>k=some (-1)/\ZnB K x H2 Q
section
variable {X:Cx}{e st:Expr}{te:TE}{ts:TO}{pos p2:Pos}
theorem Zh4 (he:PE X e te) (hst:PO X (some st) ts):PE X (.Subscript e (.Slice none none (some st) p2) pos) (Zno X.K te ts):=by
 intro pins s σ H Q I h;refine Subscript_ (thn (he pins s σ H _ I h) fun v s1 ⟨x,H1,I1,r1,q1⟩=>?_);refine wpAny_Slice ?_;rw[evalPart_none];refine wpAny_pure ?_;refine wpAny_pure ?_;refine thn (hst pins s1 σ H1 _ I1 q1) fun vu s3 ⟨u,H3,I3,pu,ek,q3⟩=>?_;subst ek;obtain⟨a,xs,rfl,hx,q⟩:=q3;cases r1;have I4:Inv X pins σ H3 { s3 with heap:=s3.heap.push { cls:=.type "slice",data:=.fields #[.none,.none,vu] } }:=I3.kept (t':=s3.toks) fun b ob q=>Yab _ q;obtain⟨its,r,ht,hz⟩:=I4.list hx;have hlen:=r.length;show wpAny (model X.prog X.w) X.A (subscriptTail e (.Slice none none (some st) p2) (.ref a) (.ref s3.heap.objs.size)) (EP X pins σ Q) X.xe { s3 with heap:=s3.heap.push { cls:=.type "slice",data:=.fields #[.none,.none,vu] } };refine tail_any (ops:=[.ref a,.ref s3.heap.objs.size]) ht.isList.typeIs slot_list_getitem.lookup ?_ (by with_unfolding_all rfl);refine wpAny_getItem_list_slice ht.isList (YdM ..) .none .none pu (by simp) ?_ (by rw[Yal] <;> omega);rw[Zdb];refine⟨.ref (s3.heap.push { cls:=.type "slice",data:=.fields #[.none,.none,vu] }).objs.size,_,I4.laid (t':=s3.toks) (o:=.lst xs.reverse) (fun b ob q=>Yab _ q) (Yag _) ?_,rfl,q _ (I4.hok.fresh (Yag _))⟩;exact⟨by rw[Ybg];(clear hlen;omega),_,0,Vals.reverse r,Yav _ rfl⟩
end
end L2
namespace Lv
open PySem L2
def mxAt:List Int->Nat
 | []=>0
 | x::r=>if r.all (·<=x) then 0 else mxAt r+1
structure IsTop (d:List Int) (r:Nat):Prop where
 lt:r<d.length
 ge:∀ j (h:j<d.length),d[j]<=d[r]
 fst:∀ j (h:j<r),d[j]<d[r]
def ZnR (c v:List Int):List Int:=YbU (· - ·) c v
def came (p:Nat):Nat->Nat × List Int
 | 0=>(0,Yae p 0)
 | n+1=>
  let L:=if (came p n).2=cnt p (came p n).1 then (came p n).1+1 else (came p n).1
  let r:=mxAt (ZnR (cnt p L) (came p n).2)
  (L,(came p n).2.set r ((came p n).2.getD r 0+1))
end Lv
namespace L2
open PySem PySem.Spec PyProof.Rows PySem.SeqAt
section
variable {X:Cx}
end
end L2
namespace Lv
open PySem L2
end Lv
namespace Lv
open PySem L2
end Lv
namespace L2
open PySem PySem.Spec PyProof.Rows PySem.SeqAt
section
variable {X:Cx}
end
end L2
namespace L2
open PySem PySem.Spec PyProof.Rows PySem.SeqAt
section
variable {X:Cx}
end
end L2
namespace L2
open PySem PySem.Spec PyProof.Rows PySem.SeqAt
end L2
namespace L2
open PySem PySem.Spec PyProof.Rows PySem.W
structure RoomS (k:Nat) (A:Around):Prop where
 dp:A.depth+3*k+5<recursionLimit
 un:A.units+16*k+200<cLine
 gd:A.guards=some []
structure FnOkS (P:Program) (w:World) (K:Yac) (mg:Str->Option Value) (base:Heap) (CX:CXT) (k:Nat) (f:Addr) (fd:FuncData) (ps:List Str) (sp:Sp):Prop where
 len:∀ vs H Q E,sp vs H Q E->vs.length=ps.length
 run:∀ (A:Around) (outer:List Env) (s:Shared) (H:Hp) (args:Args) (us:List Value) (vs:List V) (Q:VK) (E:XK),RoomS k A->Env0 P w K mg base A outer s H->BindsTo s fd args (ps.zip us)->Vals vs us->sp vs H Q E ->
  codeAny (model P w) A (.call (.ref f) args) (CR CX outer P w H s Q E) s
section
variable {P:Program}{w:World}{K:Yac}{mg:Str->Option Value}{base:Heap}
end
structure CalS (P:Program) (w:World) (K:Yac) (mg:Str->Option Value) (base:Heap) (k:Nat) (x:Str) (ps:List Str) (sp:Sp) (f:Addr) (fd:FuncData):Prop where
 ok:FnOkS P w K mg base CX0 k f fd ps sp
 mg:mg x=some (.ref f)
 kp:Yaq K (.ref f)=true
 bd:Binds K fd ps []
section
variable {X:Cx}
end
end L2
namespace Lv
open PySem L2
def stp (a q:Int × Int):Int × Int:=(a.1+q.1*(if a.2<q.2 then a.2 else q.2),a.2 - (if a.2<q.2 then a.2 else q.2))
def lsF:List (Int × Int)->Int × Int->Int × Int
 | [],a=>a
 | q::M,a=>lsF M (stp a q)
theorem Zgu:∀ (M:List (Int × Int)) (q a:Int × Int),lsF (M++[q]) a=stp (lsF M a) q
 | [],_,_=>rfl
 | x::M,q,a=>by rw[Ybx,lsF,lsF,Zgu M]
theorem Zkq {M:List (Int × Int)}{i:Nat}{q:Int × Int} (h:M[i]?=some q) (a:Int × Int):lsF (M.take (i+1)) a=stp (lsF (M.take i) a) q:=by
 rw[Ybn,h];exact Zgu _ _ _
theorem ZjH (a q:Int × Int):(stp a q).2=if a.2<q.2 then 0 else a.2 - q.2:=by
 show a.2 - (if a.2<q.2 then a.2 else q.2)=_;split <;> omega
theorem ZhK {l:List Int} (h:∀ x∈l,0<=x):0<=l.sum:=by
 induction l with
 | nil=>exact Ya6 _
 | cons x r ih=>
  rw[Yaz];have:=h x Yai;have:=ih fun y hy=>h y (Yam _ hy)
  (clear ih;omega)
theorem Zep:∀ (M:List (Int × Int)) (a:Int × Int),0<=a.2->(∀ q∈M,0<=q.2)->(lsF M a).2=if a.2<=(M.map (·.2)).sum then 0 else a.2 - (M.map (·.2)).sum
 | [],a,h,_=>by
  show a.2=_;simp;omega
 | q::M,a,h,hq=>by
  have h1:=hq q Yai;have h2:∀ x∈M,0<=x.2:=fun x hx=>hq x (Yam _ hx);have h3:0<=(M.map (·.2)).sum:=ZhK fun x hx=>by
   obtain⟨y,hy,rfl⟩:=Yay.mp hx;exact h2 y hy
  have e:=ZjH a q;rw[lsF,Zep M (stp a q) (by rw[e];split <;> (clear e h3 h1 h;omega)) h2,e,YaD,Yaz];by_cases c1:a.2<q.2
  ·rw[if_pos c1,if_pos (by (clear c1 e h1 h;omega)),if_pos (by (clear e h1 h;omega))]
  ·rw[if_neg c1];by_cases c2:a.2 - q.2<=(M.map (·.2)).sum
   ·rw[if_pos c2,if_pos (by (clear c1 e h3 h1 h;omega))]
   ·rw[if_neg c2,if_neg (by (clear c1 e h3 h1 h;omega))]
    (clear c2 c1 e h3 h1 h;omega)
theorem Zdl {M:List (Int × Int)}{xs:List Int} (h:SprL M (cn xs)):∀ q∈M,0<=q.2:=fun q hq=>by
 have:=(h.2 q.1 q.2).mp hq;rw[this.1];exact Zc3 _ _
def Zd5:Sp:=fun vs H Q _=>∃ (l:Addr) (qs:List Addr) (M:List (Int × Int)) (r:Int),vs=[.ref l,.int r]/\H l=some (.tup (qs.map V.ref))/\TTs H qs (M.map pr2)/\(∀ q∈M,0<=q.1/\q.1<=1000)/\∀ H',Same H H'->Q (if (lsF M (0,r)).2 > 0 then .non else .int (lsF M (0,r)).1) H'
end Lv
namespace Lv
open PySem L2
def Zb9 (g:Nat->Option Int) (n:Nat) (st:Option (Int × Nat)):Option (Int × Nat) :=
 match g n,st with
 | none,st=>st
 | some r,none=>some (r,n)
 | some r,some q=>if r<q.1 then some (r,n) else some q
def Zfh (c:Nat->Int) (n:Nat):Option (Int × Nat)->Bool
 | none=>false
 | some q=>decide (c n ≥ q.1)
def bo (g:Nat->Option Int) (c:Nat->Int):Nat->Nat->Option (Int × Nat)->Option (Int × Nat)
 | 0,_,st=>st
 | k+1,n,st=>if Zfh c n st=true then st else bo g c k (n+1) (Zb9 g n st)
def IsBest (g:Nat->Option Int) (N:Nat):Option (Int × Nat)->Prop
 | none=>∀ n,n<N->g n=none
 | some q=>q.2<N/\g q.2=some q.1/\(∀ n r,n<N->g n=some r->q.1<=r)/\∀ n r,n<q.2->g n=some r->q.1<r
theorem IsBest.step {g:Nat->Option Int}{n:Nat}{st:Option (Int × Nat)} (h:IsBest g n st):IsBest g (n+1) (Zb9 g n st):=by
 unfold Zb9
 cases hg:g n with
 | none=>
  cases st with
  | none=>
   intro m hm;by_cases e:m=n
   ·rw[e];exact hg
   ·exact h m (by omega)
  | some q=>
   obtain⟨a,b,c,d⟩:=h;refine⟨by omega,b,fun m r hm hr=>?_,d⟩;by_cases e:m=n
   ·rw[e,hg] at hr;cases hr
   ·exact c m r (by (clear a;omega)) hr
 | some r=>
  cases st with
  | none=>
   refine⟨YbF _,hg,fun m r2 hm hr=>?_,fun m r2 hm hr=>?_⟩
   ·by_cases e:m=n
    ·rw[e,hg] at hr;cases hr;exact Ya6 _
    ·rw[h m (by omega)] at hr;cases hr
   ·rw[h m hm] at hr;cases hr
  | some q=>
   obtain⟨a,b,c,d⟩:=h;show IsBest g (n+1) (if r<q.1 then some (r,n) else some q);by_cases e:r<q.1
   ·rw[if_pos e];refine⟨YbF _,hg,fun m r2 hm hr=>?_,fun m r2 hm hr=>?_⟩
    ·by_cases e2:m=n
     ·rw[e2,hg] at hr;cases hr;exact Ya6 _
     ·have:=c m r2 (by (clear e a;omega)) hr;show r<=r2
      (clear e2 hm a;omega)
    ·have:=c m r2 hm hr;show r<r2
     (clear hm a;omega)
   ·rw[if_neg e];refine⟨by (clear e;omega),b,fun m r2 hm hr=>?_,d⟩;by_cases e2:m=n
    ·rw[e2,hg] at hr;cases hr;(clear e2 hm a;omega)
    ·exact c m r2 (by (clear e a;omega)) hr
def Zc9 (xs:List Int) (m:Int):Prop:=m∈xs/\∀ z∈xs,m<=z
theorem ZeN {q:Int × Int}{M:List (Int × Int)}{xs:List Int} (h:SprL (q::M) (cn xs)):Zc9 xs q.1:=by
 refine⟨(Za2 h q.1).mp (Yay.mpr ⟨q,Yai,rfl⟩),fun z hz=>?_⟩;have hm:=(Za2 h z).mpr hz;rcases Yau.mp (show z∈q.1::M.map (·.1) from hm) with e | e
 ·omega
 ·obtain⟨y,hy,rfl⟩:=Yay.mp e;have:=(YaS.mp h.1).1 y hy;omega
def sprC (xs:List Int):List (Int × Int):=((Ybi 401).map fun (m:Nat)=>((m:Int),cn xs m)).filter fun q=>decide (q.2≠0)
theorem ZdX {xs:List Int} (hb:∀ m∈xs,0<=m/\m<=400):SprL (sprC xs) (cn xs):=by
 refine⟨?_,fun m c=>?_⟩
 ·refine List.Pairwise.filter _ ?_;rw[Ybc];exact List.pairwise_lt_range.imp fun h=>by
   show ((_:Nat):Int)<((_:Nat):Int);omega
 ·unfold sprC;rw[YdO,Yay];constructor
  ·rintro⟨⟨j,_,e⟩,h⟩;cases e;exact⟨rfl,of_decide_eq_true h⟩
  ·rintro⟨rfl,h⟩;obtain⟨h0,h1⟩:=hb m (cn_ne.mp h);refine⟨⟨m.toNat,Ycr.mpr (by (clear h0 h;omega)),?_⟩,decide_eq_true h⟩;rw[YeU h0]
theorem Zli {xs:List Int}{L:List (Int × Int)} (hb:∀ m∈xs,0<=m/\m<=400) (h:SprL L (cn xs)):L=sprC xs:=h.uniq (ZdX hb)
def Ze2 (xs:List Int) (rows:Int):Option Int:=if (lsF (sprC xs) (0,rows)).2 > 0 then none else some (lsF (sprC xs) (0,rows)).1
end Lv
namespace Lv
open PySem L2
def pz (x:Int):Int:=if x<0 then 0 else x
theorem ZnE (x:Int):0<=pz x:=by unfold pz;split <;> omega
def svM (M:List (Int × Int)) (t:Int):Int:=(M.map fun q=>q.2*pz (t - q.1)).sum
def sv (xs:List Int) (t:Int):Int:=(xs.map fun x=>pz (t - x)).sum
theorem ZcW:∀ (M:List (Int × Int)) (a b r:Int),lsF M (a+b,r)=(a+(lsF M (b,r)).1,(lsF M (b,r)).2)
 | [],a,b,r=>rfl
 | q::M,a,b,r=>by
  show lsF M (stp (a+b,r) q)=(a+(lsF M (stp (b,r) q)).1,(lsF M (stp (b,r) q)).2);have e:stp (a+b,r) q=(a+(stp (b,r) q).1,(stp (b,r) q).2):=by
   unfold stp;dsimp only;rw[Yeo]
  rw[e,ZcW M]
theorem ZdJ:∀ (M:List (Int × Int)) (a:Int),(∀ q∈M,0<=q.2)->lsF M (a,0)=(a,0)
 | [],a,_=>rfl
 | q::M,a,h=>by
  have h1:=h q Yai;have e:stp (a,0) q=(a,0):=by
   unfold stp;dsimp only;by_cases z:(0:Int)<q.2
   ·rw[if_pos z];simp
   ·rw[if_neg z,show q.2=0 by omega];simp
  show lsF M (stp (a,0) q)=_;rw[e];exact ZdJ M a fun x hx=>h x (Yam _ hx)
theorem Zi5 (t:Int):∀ (M:List (Int × Int)) (r:Int),0<=r->(∀ q∈M,0<=q.2)->(lsF M (0,r)).2=0->r*t - svM M t<=(lsF M (0,r)).1
 | [],r,_,_,h=>by
  have h:r=0:=h;subst h;simp[svM,lsF]
 | q::M,r,h0,hq,h=>by
  have h1:=hq q Yai;obtain⟨k,ek,k0,kr,kq⟩:∃ k,(if r<q.2 then r else q.2)=k/\0<=k/\k<=r/\k<=q.2:=⟨_,rfl,by split <;> (clear h;omega),by split <;> (clear h1 h h0;omega),by split <;> (clear h1 h h0;omega)⟩
  have e:stp (0,r) q=(q.1*k+0,r - k):=by unfold stp;dsimp only;rw[ek,YcP,YcR]
  have hl:lsF (q::M) (0,r)=(q.1*k+(lsF M (0,r - k)).1,(lsF M (0,r - k)).2):=by
   show lsF M (stp (0,r) q)=_;rw[e,ZcW]
  rw[hl] at h ⊢;have ih:=Zi5 t M (r - k) (by (clear kq kr k0 h h1 h0;omega)) (fun x hx=>hq x (Yam _ hx)) h;have es:svM (q::M) t=q.2*pz (t - q.1)+svM M t:=rfl;rw[es];show r*t - (q.2*pz (t - q.1)+svM M t)<=q.1*k+(lsF M (0,r - k)).1;have e1:(r - k)*t=r*t - k*t:=Int.sub_mul ..;have key:k*t - q.1*k<=q.2*pz (t - q.1):=by
   have e2:k*t - q.1*k=k*(t - q.1):=by rw[Ydl,Ycw q.1 k]
   rw[e2];unfold pz;by_cases z:t - q.1<0
   ·rw[if_pos z,Int.mul_zero];have:=YcA (show t - q.1<=0 by (clear e2 e1 es ih kq kr k0 ek h h1 h0;omega)) k0;simpa using this
   ·rw[if_neg z];exact Ybq kq (by (clear e2 e1 es ih kq kr k0 ek h h1 h0;omega))
  (clear es kq kr k0 ek h h1 h0;omega)
theorem ZhJ {θ:Int}:∀ {M:List (Int × Int)},(∀ q∈M,θ<=q.1)->svM M θ=0
 | [],_=>rfl
 | q::M,h=>by
  have h1:=h q Yai;have e:svM (q::M) θ=q.2*pz (θ - q.1)+svM M θ:=rfl;rw[e,ZhJ fun x hx=>h x (Yam _ hx),show pz (θ - q.1)=0 by unfold pz;split <;> (clear e;omega)];simp
theorem Zi6:∀ (M:List (Int × Int)) (r:Int),1<=r->M.Pairwise (fun p q=>p.1<q.1)->(∀ q∈M,0<=q.2)->r<=(M.map (·.2)).sum->∃ θ∈M.map (·.1),(lsF M (0,r)).1=r*θ - svM M θ
 | [],r,h1,_,_,h=>by simp at h;omega
 | q::M,r,h1,hp,hq,h=>by
  have hq1:=hq q Yai;obtain⟨hp1,hp2⟩:=YaS.mp hp;have hq2:∀ x∈M,0<=x.2:=fun x hx=>hq x (Yam _ hx);have es:∀ t,svM (q::M) t=q.2*pz (t - q.1)+svM M t:=fun t=>rfl;by_cases z:r<=q.2
  ·refine⟨q.1,Yay.mpr ⟨q,Yai,rfl⟩,?_⟩;have e:stp (0,r) q=(q.1*r,0):=by
    unfold stp;dsimp only;by_cases y:r<q.2
    ·rw[if_pos y];simp
    ·rw[if_neg y,show q.2=r by (clear hq1 h h1;omega)];simp
   show (lsF M (stp (0,r) q)).1=_;rw[e,ZdJ M _ hq2,es,ZhJ fun x hx=>Int.le_of_lt (hp1 x hx),show pz (q.1 - q.1)=0 by unfold pz;split <;> (clear z hq1 h h1;omega)];show q.1*r=r*q.1 - (q.2*0+0);rw[Int.mul_zero,Ycw]
   (clear z hq1 h h1;omega)
  ·rw[YaD,Yaz] at h;obtain⟨θ,hm,e⟩:=Zi6 M (r - q.2) (by (clear hq1 h h1;omega)) hp2 hq2 (by (clear z hq1 h1;omega));refine⟨θ,Yay.mpr ?_,?_⟩
   ·obtain⟨y,hy,e⟩:=Yay.mp hm;exact⟨y,Yam _ hy,e⟩
   ·have hlt:q.1<θ:=by
     obtain⟨y,hy,rfl⟩:=Yay.mp hm;exact hp1 y hy
    have e2:stp (0,r) q=(q.1*q.2+0,r - q.2):=by
     unfold stp;dsimp only;rw[if_neg (by (clear hlt e hq1 h h1;omega)),YcP,YcR]
    show (lsF M (stp (0,r) q)).1=_;rw[e2,ZcW,es,show pz (θ - q.1)=θ - q.1 by unfold pz;split <;> (clear e z hq1 h h1;omega)];show q.1*q.2+(lsF M (0,r - q.2)).1=_;rw[e,Int.sub_mul,Ydl,Ycw q.1 q.2]
    (clear hlt e z hq1 h h1;omega)
theorem sumF (f:Int->Int):∀ {L:List (Int × Int)}{xs:List Int},(L.map (·.1)).Nodup->(∀ m c,(m,c)∈L↔(c=cn xs m/\c≠0))->(L.map fun q=>q.2*f q.1).sum=(xs.map f).sum
 | [],xs,_,h=>by
  cases xs with
  | nil=>rfl
  | cons x r=>exact absurd ((h x (cn (x::r) x)).mpr ⟨rfl,cn_ne.mpr Yai⟩) YbE
 | (m,c)::L,xs,nd,h=>by
  rw[YaD,YbS] at nd;obtain⟨h1,h2⟩:=nd;have hc:=(h m c).mp Yai;have hL:∀ a b,(a,b)∈L↔(b=cn (xs.filter fun x=>decide (x≠m)) a/\b≠0):=fun a b=>by
   have e:a≠m->cn (xs.filter fun x=>decide (x≠m)) a=cn xs a:=fun z=>by
    unfold cn;rw[Ye2 (by simpa using z)]
   constructor
   ·intro hx;have z:a≠m:=by
     rintro rfl;exact h1 (Yay.mpr ⟨_,hx,rfl⟩)
    rw[e z];exact (h a b).mp (Yam _ hx)
   ·rintro⟨y1,y2⟩;have z:a≠m:=by
     rintro rfl;refine y2 ?_;rw[y1,ZfY];simp
    rw[e z] at y1;rcases Yau.mp ((h a b).mpr ⟨y1,y2⟩) with q | q
    ·cases q;exact absurd rfl z
    ·exact q
  rw[YaD,Yaz,sumF f h2 hL,hc.1];unfold cn;have:∀ ys:List Int,((ys.count m:Nat):Int)*f m+((ys.filter fun x=>decide (x≠m)).map f).sum=(ys.map f).sum:=by
   intro ys
   induction ys with
   | nil=>simp
   | cons y r ih=>
    rw[YcC,Ye9];by_cases z:y=m
    ·subst z;rw[if_pos (by simp),if_neg (by simp),YaD,Yaz,<- ih,Ycp,YbQ];simp
     (clear ih hc h1;omega)
    ·rw[if_neg (by simpa using z),if_pos (by simpa using z),YaD,YaD,Yaz,Yaz,<- ih];simp
     (clear z ih hc h1;omega)
  exact this xs
theorem Zmt {M:List (Int × Int)}{xs:List Int} (h:SprL M (cn xs)) (t:Int):svM M t=sv xs t:=sumF (fun x=>pz (t - x)) (Zmw h) h.2
def Sub (ys xs:List Int):Prop:=∀ m,cn ys m<=cn xs m
theorem Sub.perm:∀ {ys xs:List Int},Sub ys xs->∃ zs,xs.Perm (ys++zs)
 | [],xs,_=>⟨xs,Yco _⟩
 | y::ys,xs,h=>by
  have hm:y∈xs:=by
   have:=h y;unfold cn at this;rw[List.count_cons_self] at this;exact List.count_pos_iff.mp (by omega)
  have hp:=List.perm_cons_erase hm;obtain⟨zs,hz⟩:=Sub.perm (ys:=ys) (xs:=xs.erase y) fun m=>by
   have h1:=h m;unfold cn at h1 ⊢;rw[hp.count_eq m,YcC,YcC] at h1;omega
  exact⟨zs,hp.trans (hz.cons y)⟩
theorem Zgo {xs ys:List Int} (h:xs.Perm ys):xs.sum=ys.sum:=by
 induction h with
 | nil=>rfl
 | cons x _ ih=>simp[ih]
 | swap x y l=>simp only[Yaz];omega
 | trans _ _ h1 h2=>exact h1.trans h2
theorem Sub.sum {ys xs:List Int} (h:Sub ys xs) {f:Int->Int} (hf:∀ x,0<=f x):(ys.map f).sum<=(xs.map f).sum:=by
 obtain⟨zs,hz⟩:=h.perm;rw[Zgo (hz.map f),YaU,YbJ];have:0<=(zs.map f).sum:=ZhK fun x hx=>by
  obtain⟨y,_,rfl⟩:=Yay.mp hx;exact hf y
 omega
theorem Zmu (t:Int):∀ ys:List Int,(ys.length:Int)*t - sv ys t<=ys.sum
 | []=>by simp[sv]
 | y::ys=>by
  have ih:=Zmu t ys;have e:sv (y::ys) t=pz (t - y)+sv ys t:=rfl;rw[e,Yaz,YaH,Ycp,YbQ];have:t - y<=pz (t - y):=by unfold pz;split <;> (clear e ih;omega)
  simp
  (clear e;omega)
structure Lst (xs:List Int) (r v:Int):Prop where
 le:∀ t,r*t - sv xs t<=v
 eq:∃ θ∈xs,v=r*θ - sv xs θ
theorem ZmY {M:List (Int × Int)}{xs:List Int}{r:Int} (h:SprL M (cn xs)) (h1:1<=r) (hr:r<=xs.length):(lsF M (0,r)).2=0/\Lst xs r (lsF M (0,r)).1:=by
 have hn:=Zdl h;have hs:=Zfw h;have hl:(lsF M (0,r)).2=0:=by
  rw[Zep M (0,r) (by show (0:Int)<=r;(clear hs hr;omega)) hn,hs];exact if_pos hr
 refine⟨hl,fun t=>?_,?_⟩
 ·rw[<- Zmt h];exact Zi5 t M r (by (clear hl hs hr;omega)) hn hl
 ·obtain⟨θ,hm,e⟩:=Zi6 M r h1 h.1 hn (by rw[hs];exact hr);exact⟨θ,(Za2 h θ).mp hm,by rw[<- Zmt h];exact e⟩
theorem Lst.sub {xs ys:List Int}{v:Int} (h:Lst xs ys.length v) (s:Sub ys xs):v<=ys.sum:=by
 obtain⟨θ,_,e⟩:=h.eq;have h1:=Zmu θ ys;have h2:sv ys θ<=sv xs θ:=s.sum fun x=>ZnE _;omega
theorem Lst.more {xs:List Int}{r v u:Int} (h:Lst xs r v) (k:Lst xs (r+1) u) (hx:∀ x∈xs,1<=x):v<u:=by
 obtain⟨θ,hm,e⟩:=h.eq;have h1:=k.le θ;have h2:=hx θ hm;rw[YbQ] at h1;omega
end Lv
namespace Lv
open PySem L2
theorem bern {p:Int} (hp:1<=p):∀ n:Nat,1+(p - 1)*n<=p ^ n
 | 0=>by simp
 | n+1=>by
  have ih:=bern hp n;have h1:1<=p ^ n:=by
   have:0<=(p - 1)*(n:Int):=Yee (by (clear ih;omega)) (by (clear ih hp;omega))
   (clear hp;omega)
  rw[Int.pow_succ];have h2:p ^ n*p=p ^ n+p ^ n*(p - 1):=by rw[Ydl,Int.mul_one];(clear h1 ih hp;omega)
  have h3:1*(p - 1)<=p ^ n*(p - 1):=Ybq h1 (by (clear h2 h1 ih;omega));have h4:(p - 1)*((n+1:Nat):Int)=(p - 1)*n+(p - 1):=by rw[Ycp,Yd5];simp
  (clear h1 hp;omega)
theorem ZjZ {p:Int} (hp:1<=p) (n:Nat):1<=p ^ n:=by
 have:=bern hp n;have:0<=(p - 1)*(n:Int):=Yee (by (clear this;omega)) (by (clear this hp;omega))
 (clear hp;omega)
def kr (p:Int) (M:Nat) (ys:List Int):Int:=(ys.map fun y=>p ^ (M - y.toNat)).sum
end Lv
namespace Lv
open PySem L2
section
variable {α:Type}
structure Adds (g:List α->Int):Prop where
 nil:g []=0
 app:∀ a b,g (a++b)=g a+g b
def dt (g:List α->Int):List (List α)->List Int->Int
 | r::rs,n::ns=>n*g r+dt g rs ns
 | _,_=>0
def sg (g:List α->Int) (rs:List (List α)):Int:=(rs.map g).sum
def es:List Int->(Nat->Int)->Int
 | [],_=>0
 | n::ns,h=>(n+1)*h 0+es ns fun j=>h (j+1)
end
theorem Zip {p:Nat} (hp:2<=p) (n:Nat):∃ x r,num p n=x::r/\r.length+1=p/\num p (n+1)=(r.map (x.map (·+1)++·))++[x.map (·+1)]:=by
 obtain⟨x,r,e,hr⟩:=Zin hp n;refine⟨x,r,e,hr,?_⟩;show Zhd (num p n)=_;rw[e];rfl
end Lv
namespace Lv
open PySem L2
theorem ZcX (p:Int) (M:Nat) (a b:List Int):kr p M (a++b)=kr p M a+kr p M b:=by simp[kr]
theorem ZlU {p:Int}{M:Nat}:∀ x:List Int,(∀ y∈x,0<=y/\y+1<=M)->p*kr p M (x.map (·+1))=kr p M x
 | [],_=>by simp[kr]
 | y::x,h=>by
  have ih:=ZlU (p:=p) x fun z hz=>h z (Yam _ hz);obtain⟨y0,y1⟩:=h y Yai;show p*(p ^ (M - (y+1).toNat)+kr p M (x.map (·+1)))=p ^ (M - y.toNat)+kr p M x;rw[Yd5,ih,show M - y.toNat=(M - (y+1).toNat)+1 by (clear ih;omega),Int.pow_succ,Ycw]
theorem ZiG (p:Int) (M:Nat) (x:List Int):∀ r:List (List Int),kr p M (r.map (x++·)).flatten=(r.length:Int)*kr p M x+kr p M r.flatten
 | []=>by simp[kr]
 | y::r=>by
  rw[YaD,YaF,YaF,ZcX,ZcX,ZcX,ZiG p M x r,YaH];have:((r.length+1:Nat):Int)*kr p M x=(r.length:Int)*kr p M x+kr p M x:=by
   rw[show ((r.length+1:Nat):Int)=(r.length:Int)+1 by omega,YbQ,Yd4]
  omega
theorem ZkU {p:Nat} (hp:2<=p) {M:Nat}:∀ n,n<=M->kr p M (num p n).flatten=(p:Int) ^ M
 | 0,_=>by
  have:(num p 0).flatten=[0]:=by
   show (num0 p).flatten=[0];simp[num0]
  rw[this];simp[kr]
 | n+1,h=>by
  have ih:=ZkU (M:=M) hp n (by (clear hp;omega));obtain⟨x,r,e,hr,e2⟩:=Zip hp n;have hx:∀ y∈x,0<=y/\y+1<=M:=fun y hy=>by
   have:=ZgN p n x (by rw[e];exact Yai) y hy
   (clear hr ih hp;omega)
  have hu:=ZlU (p:=p) (M:=M) x hx;rw[e2,Ybd,ZcX,ZiG];rw[e,YaF,ZcX] at ih;have h1:([x.map (·+1)]:List (List Int)).flatten=x.map (·+1):=by simp
  rw[h1,<- ih,<- hu];have h2:(p:Int)*kr p M (x.map (·+1))=(r.length:Int)*kr p M (x.map (·+1))+kr p M (x.map (·+1)):=by
   rw[show (p:Int)=(r.length:Int)+1 by (clear hu ih h hp;omega),YbQ,Yd4]
  (clear hu hr ih h hp;omega)
end Lv
namespace Lv
open PySem L2
def pre:Int->List Int->List Int
 | _,[]=>[]
 | s,x::r=>(s+x)::pre (s+x) r
def ZaR (c:List Int):List Int:=(pre 0 c).reverse
def casc (p:Nat):Nat->List Int
 | 0=>Zbk p
 | n+1=>ZaR (casc p n)
theorem ZfD:∀ (s:Int) (c:List Int),(pre s c).length=c.length
 | _,[]=>rfl
 | s,x::r=>by rw[pre,YaH,YaH,ZfD]
theorem ZcT (c:List Int):(ZaR c).length=c.length:=by rw[ZaR,Ybg,ZfD]
theorem ZcG {p:Nat} (hp:1<=p):∀ n,(casc p n).length=p
 | 0=>by simp[casc,Zbk];omega
 | n+1=>by rw[casc,ZcT,ZcG hp n]
theorem Zef:∀ (s:Int) (c:List Int) (x:Int),pre s (c++[x])=pre s c++[s+c.sum+x]
 | s,[],x=>by simp[pre]
 | s,y::r,x=>by
  rw[Ybx,pre,pre,Zef,Yaz,Ybx];rw[show s+y+r.sum+x=s+(y+r.sum)+x by omega]
theorem Zgm {c:List Int}{i:Nat} (hi:i<c.length):pre 0 (c.take (i+1))=pre 0 (c.take i)++[(c.take i).sum+c[i]]:=by
 rw[YaJ hi,Zef,YcP]
theorem ZjV {s:Int}{c:List Int} (h:c≠[]):(pre s c)[(pre s c).length - 1]?=some (s+c.sum):=by
 have e:=Ybk h;rw[<- e,Zef];simp[Yeo]
theorem ZeV:∀ (s t:Int) (c:List Int),pre (s+t) c=(pre t c).map (s+·)
 | _,_,[]=>rfl
 | s,t,x::r=>by rw[pre,pre,YaD,Yeo,ZeV]
theorem ZjW (x:Int) (r:List Int):pre 0 (x::r)=x::(pre 0 r).map (x+·):=by
 have:=ZeV x 0 r;rw[YcR] at this;rw[pre,YcP,this]
def Pool3 (H:Hp) (p:Addr):Prop:=∃ a b c:Int,H p=some (.lst [.int a,.int b,.int c])
theorem Pool3.put {H:Hp}{p q:Addr}{o:HO} (h:Pool3 H p) (hq:H q=none):Pool3 (upd H q o) p:=by
 obtain⟨a,b,c,e⟩:=h;exact⟨a,b,c,by rw[Zaf (Zae e hq)];exact e⟩
theorem Pool3.ne {H:Hp}{p q:Addr} (h:Pool3 H p) (hq:H q=none):q≠p:=by
 obtain⟨a,b,c,e⟩:=h;exact Yba (Zae e hq)
theorem Pool3.same {H H':Hp}{p:Addr} (h:Pool3 H p) (s:Same H H'):Pool3 H' p:=by
 obtain⟨a,b,c,e⟩:=h;exact⟨a,b,c,s p _ e⟩
def ZhO (K:Yac):Sp:=fun vs H Q _=>∃ (a:Addr) (ns:List Int) (k:Int),vs=[.ref a,.int k]/\SqL K H a (ns.map V.int)/\0<=k/\k<=1000/\∀ p H',H p=none->Pool3 H' p->Same H H'->Q (.ref p) H'
def ZcN:Sp:=fun vs H Q _=>∃ p m,vs=[.ref p,.int m]/\Pool3 H p/\0<m/\Ya2 m<=8000/\∀ d H',0<=d->d<m->Pool3 H' p->Sm p H H'->Q (.int d) H'
def Zcd (K:Yac):Sp:=fun vs H Q _=>∃ (a:Addr) (c:List Int),vs=[.ref a]/\SqT K H a (c.map V.int)/\c.length<=7/\∀ l H',H l=none->H' l=some (.tup ((ZaR c).map V.int))->Same H H'->Q (.ref l) H'
def ZcQ:Sp:=fun vs H Q _=>∃ p n:Nat,vs=[.int p,.int n]/\2<=p/\p<=7/\n<=100/\∀ l H',H l=none->H' l=some (.tup ((casc p n).map V.int))->Same H H'->Q (.ref l) H'
def ZjJ:Sp:=fun vs H Q _=>∃ i n,vs=[.int i,.int n]/\2<=i/\i<=7/\0<=n/\n<=100/\Q .non H
end Lv
namespace L2
open PySem PySem.Spec PyProof.Rows PySem.SeqAt
section
variable {X:Cx}
def ZmH (K:Yac):R2:=fun x y H Q=>∃ a b xs ys,x=.ref a/\y=.ref b/\SqT K H a xs/\SqT K H b ys/\xs.length+ys.length<=sizeLine /\
 (xs=[]->Q (.ref b) H)/\(xs≠[]->ys=[]->Q (.ref a) H)/\(xs≠[]->ys≠[]->∀ p,H p=none->Q (.ref p) (upd H p (.tup (xs++ys))))
theorem Zia:OpR X (binaryOp .Add) (ZmH X.K):=by
 intro pins s σ H x y v u Q I rx ry h;obtain⟨a,b,xs,ys,rfl,rfl,ha,hb,hz,q0,q1,q2⟩:=h;by_cases hx:xs=[]
 ·cases rx;cases ry;obtain⟨its,r1,p1,_⟩:=I.tuple ha;obtain⟨its2,r2,p2,_⟩:=I.tuple hb;obtain⟨⟨cls,dd,data,sl⟩,ho,hc,n,hd⟩:=id p1;obtain⟨⟨cls2,dd2,data2,sl2⟩,ho2,hc2,n2,hd2⟩:=id p2;simp only at hc hd hc2 hd2;subst hc hd hc2 hd2;have hv:its=[]:=r1.nil_iff.mpr hx;exact concat_meets ⟨_,ho,rfl⟩ ⟨_,ho2,rfl⟩ noFill_tuple_add seq_tuple_add YcV YcS (YcJ _ _)
   (PyProof.Rows.tuple_addW0 a b its.toArray its2.toArray n n2 dd dd2 sl sl2 (by simp[hv])) ⟨ho,ho2,⟨.ref b,H,I,rfl,q0 hx⟩⟩
 ·exact Zh9 pins s σ H _ _ v u Q I rx ry ⟨a,b,xs,ys,rfl,rfl,ha,hb,hx,hz,q1 hx,q2 hx⟩
end
end L2
namespace Lv
open PySem L2
def up1 (A:List Int):List Int:=A.map (·+1)
def Zat:List (List Int)->List (List Int)
 | []=>[]
 | [Z]=>[Z]
 | A::B::r=>(Zat (B::r)).map (up1 A++·)++[up1 A]
def casN (p:Nat):Nat->List (List Int)
 | 0=>num0 p
 | n+1=>Zat (casN p n)
def ZaN (N:List (List Int)):List Int:=N.map fun xs=>(xs.length:Int)
theorem ZbA (x:Int) (r:List Int):ZaR (x::r)=(ZaR r).map (x+·)++[x]:=by
 rw[ZaR,ZjW,YbH,<- YdF];rfl
theorem ZdK:∀ N:List (List Int),ZaN (Zat N)=ZaR (ZaN N)
 | []=>rfl
 | [Z]=>by simp[Zat,ZaN,ZaR,pre]
 | A::B::r=>by
  have ih:=ZdK (B::r);have e:ZaN (A::B::r)=(A.length:Int)::ZaN (B::r):=rfl;rw[e,ZbA,<- ih];simp[Zat,ZaN,up1,Yew]
theorem Zcr:∀ N:List (List Int),(Zat N).length=N.length
 | []=>rfl
 | [Z]=>rfl
 | A::B::r=>by
  have:=Zcr (B::r);simp[Zat] at this ⊢;omega
theorem Za3 {p:Nat} (hp:1<=p):∀ n,ZaN (casN p n)=casc p n
 | 0=>by
  simp[casN,ZaN,num0,casc,Zbk]
 | n+1=>by rw[casN,ZdK,Za3 hp n];rfl
def Znx (r:List (List Int)) (t:Nat):List Int:=r.getD t []
def S (q:Int) (g:Nat->List Int) (a:List Int):Int:=((Ybi a.length).map fun t=>((g t).count q:Int)*a.getD t 0).sum
def pot (q:Int):List (List (List Int))->List (List Int)->Int
 | r::R,a::N=>S q (Znx r) a+pot q R N
 | _,_=>0
end Lv
namespace Lv
open PySem L2
def goN:List Int->List (List Int)->List (List Int)
 | _,[]=>[]
 | r,A::I=>(r++up1 A)::goN (r++up1 A) I
def finN (I:List (List Int)):List Int:=(I.map up1).flatten
theorem ZiX (U:List Int):∀ (r:List Int) (I:List (List Int)),goN (U++r) I=(goN r I).map (U++·)
 | _,[]=>rfl
 | r,A::I=>by rw[goN,goN,YaD,YaG,ZiX U]
theorem Zes:∀ (r:List Int) (I:List (List Int)) (A:List Int),goN r (I++[A])=goN r I++[r++finN I++up1 A]
 | r,[],A=>by simp[goN,finN]
 | r,B::I,A=>by
  rw[Ybx,goN,goN,Zes,Ybx];simp[finN]
theorem Zbi:∀ (r:List Int) (I:List (List Int)),(goN r I).length=I.length
 | _,[]=>rfl
 | r,A::I=>by rw[goN,YaH,YaH,Zbi]
theorem Za8 (I:List (List Int)) (A:List Int):finN (I++[A])=finN I++up1 A:=by simp[finN]
theorem Zb2:∀ (I:List (List Int)) (Z:List Int),Zat (I++[Z])=(finN I++Z)::(goN [] I).reverse
 | [],Z=>by simp[Zat,finN,goN]
 | A::I,Z=>by
  have ih:=Zb2 I Z;have e:Zat (A::(I++[Z]))=(Zat (I++[Z])).map (up1 A++·)++[up1 A]:=by
   cases I with
   | nil=>rfl
   | cons B r=>rfl
  have g:goN (up1 A) I=(goN [] I).map (up1 A++·):=by
   have:=ZiX (up1 A) [] I
   rwa [YbC] at this
  rw[Ybx,e,ih,goN,Yb6,g];simp[finN]
theorem ZkB (I:List (List Int)):((finN I).length:Int)=(ZaN I).sum:=by
 induction I with
 | nil=>rfl
 | cons A I ih=>
  have e:finN (A::I)=up1 A++finN I:=rfl;have e2:ZaN (A::I)=(A.length:Int)::ZaN I:=rfl;rw[e,e2,Yaj,Yaz,<- ih];simp[up1]
theorem Zkr (N:List (List Int)):∀ x∈ZaN N,0<=x:=by
 intro x hx;obtain⟨y,_,rfl⟩:=Yay.mp hx;omega
theorem Zeu {N:List (List Int)} (hs:(ZaN N).sum<=4000) (i:Nat):(finN (N.take i)).length<=4000:=by
 have h1:=ZkB (N.take i);have e:ZaN N=ZaN (N.take i)++ZaN (N.drop i):=by
  unfold ZaN;rw[<- YaU,YaT]
 have h2:0<=(ZaN (N.drop i)).sum:=by
  have:∀ l:List Int,(∀ x∈l,0<=x)->0<=l.sum:=by
   intro l
   induction l with
   | nil=>intro _;simp
   | cons x y ih=>
    intro h;rw[Yaz];have:=h x (by simp);have:=ih fun z hz=>h z (by simp[hz])
    (clear ih h1 hs;omega)
  exact this _ (Zkr _)
 rw[e,YbJ] at hs;omega
def Zbv:Sp:=fun vs H Q _=>∃ (a:Addr) (rs:List Addr) (N:List (List Int)),vs=[.ref a]/\H a=some (.tup (rs.map V.ref))/\TTs H rs N/\2<=N.length/\N.length<=7/\(ZaN N).sum<=4000/\∀ l qs H',H l=none->H' l=some (.tup (qs.map V.ref))->TTs H' qs (Zat N)->Same H H'->Q (.ref l) H'
def Zea (fn:Addr):Sp:=fun vs H Q _=>∃ p n:Nat,vs=[.int p,.int n,.ref fn]/\2<=p/\p<=7/\n<=100/\(casc p n).sum<=4000/\∀ l qs H',H l=none->H' l=some (.tup (qs.map V.ref))->TTs H' qs (casN p n)->Same H H'->Q (.ref l) H'
def ZhP:Sp:=fun vs H Q _=>∃ p n:Nat,vs=[.int p,.int n]/\2<=p/\p<=7/\n<=100/\(casc p n).sum<=4000/\∀ l qs H',H l=none->H' l=some (.tup (qs.map V.ref))->TTs H' qs (casN p n)->Same H H'->Q (.ref l) H'
theorem ZaS {p:Nat} (hp:1<=p):∀ n,(casN p n).length=p
 | 0=>by simp[casN,num0];omega
 | n+1=>by rw[casN,Zcr,ZaS hp n]
theorem ZbX (x:Int):∀ l:List Int,(l.map (x+·)).sum=l.length*x+l.sum
 | []=>by simp
 | y::l=>by
  rw[YaD,Yaz,ZbX x l,Yaz,YaH,YdL,YbQ];omega
theorem Zb1:∀ c:List Int,(∀ x∈c,0<=x)->c.sum<=(ZaR c).sum/\∀ x∈ZaR c,0<=x
 | [],_=>⟨Ya6 _,by simp[ZaR,pre]⟩
 | x::r,h=>by
  obtain⟨h1,h2⟩:=Zb1 r fun y hy=>h y (by simp[hy]);have hx:=h x (by simp);rw[ZbA];refine⟨?_,fun y hy=>?_⟩
  ·rw[YbJ,ZbX,Yaz,Yaz,YdB];have:0<=((ZaR r).length:Int)*x:=Yee (by (clear hx h1;omega)) hx
   (clear hx;omega)
  ·rcases Yap.mp hy with hy | hy
   ·obtain⟨z,hz,rfl⟩:=Yay.mp hy;have:=h2 z hz
    (clear h1;omega)
   ·have:y=x:=by simpa using hy
    (clear h1;omega)
theorem ZeA (p:Nat):∀ n,∀ x∈casc p n,0<=x
 | 0=>(Zex p 0).2
 | n+1=>(Zb1 _ (ZeA p n)).2
theorem Zfe {p m n:Nat} (h:m<=n):(casc p m).sum<=(casc p n).sum:=by
  induction n with
  | zero => have : m = 0 := by omega
            subst this;exact Ya6 _
  | succ n ih=>
    by_cases e:m=n+1
    · subst e;exact Ya6 _
    · have:=ih (by (clear ih;omega));have:=(Zb1 _ (ZeA p n)).1
      show _<=(ZaR (casc p n)).sum
      (clear e h ih;omega)
end Lv
namespace Lv
open PySem L2
theorem Zgh {n:Nat}:HT.sIx (n+1) (n+1) (some (-1))=n:=by
 have:=HT.clip_eq (-1) (n+1) (n+1);rw[if_pos (by decide)] at this;omega
theorem Zfa (xs:List V) (y:V):cutV (xs++[y]) none (some (-1))=xs:=by
 unfold cutV;rw[show (xs++[y]).length=xs.length+1 by simp,Zgh];show (xs++[y]).take (xs.length - 0)=xs;rw[YeB,Yd9]
theorem TTs.cut {H:Hp}{rs:List Addr}{N:List (List Int)} (h:TTs H rs N) (hN:1<=N.length):∃ rs' z I Z,rs=rs'++[z]/\N=I++[Z]/\TTs H rs' I/\H z=some (.tup (Z.map V.int)):=by
 have hl:=h.1;have h1:N≠[]:=by intro z;rw[z] at hN;simp at hN
 have h2:rs≠[]:=by intro z;rw[z] at hl;simp at hl;exact h1 (Ycm.mp hl.symm)
 obtain⟨I,Z,rfl⟩:∃ I Z,N=I++[Z]:=⟨_,_,(Ybk h1).symm⟩
 obtain⟨rs',z,rfl⟩:∃ I Z,rs=I++[Z]:=⟨_,_,(Ybk h2).symm⟩
 have hl2:rs'.length=I.length:=by simpa using hl
 refine⟨rs',z,I,Z,rfl,rfl,⟨hl2,fun j r xs ha hb=>?_⟩,?_⟩
 ·have j1:=(Yaa.mp ha).1
  refine h.2 j r xs ?_ ?_
  ·rw[YaL j1];exact ha
  ·rw[YaL (by (clear hl hN;omega))];exact hb
 ·refine h.2 I.length z Z ?_ ?_
  ·rw[YaI (by (clear hl hN;omega))];simp[hl2]
  ·rw[YaI (by (clear hl2 hl hN;omega))];simp
theorem ZgL {K:Yac}{H:Hp}{a b:Addr}{xs ys:List Int}{Q:VK} (ha:H a=some (.tup (xs.map V.int))) (hb:H b=some (.tup (ys.map V.int))) (hz:xs.length+ys.length<=sizeLine) (q:∀ r H',H' r=some (.tup ((xs++ys).map V.int))->Same H H'->Q (.ref r) H'):ZmH K (.ref a) (.ref b) H Q:=by
 refine⟨a,b,_,_,rfl,rfl,SqT.of ha,SqT.of hb,by simpa using hz,fun e=>?_,fun e1 e2=>?_,fun e1 e2 p hp=>?_⟩
 ·have e:xs=[]:=by simpa using e
  subst e;exact q b H hb (Same.refl _)
 ·have e:ys=[]:=by simpa using e2
  subst e;exact q a H (by simpa using ha) (Same.refl _)
 ·exact q p _ (by rw[Zab];simp) (Same.new hp)
theorem TTs.rev {H:Hp}{rs:List Addr}{N:List (List Int)} (h:TTs H rs N):TTs H rs.reverse N.reverse:=by
 refine⟨by simp[h.1],fun j r xs ha hb=>?_⟩;have j1:=(Yaa.mp ha).1
 have j2:=(Yaa.mp hb).1
 simp only[Ybg] at j1 j2;rw[YbN j1] at ha;rw[YbN j2,<- h.1] at hb;exact h.2 _ r xs ha hb
theorem TTs.cons {H:Hp}{rs:List Addr}{N:List (List Int)}{r:Addr}{x:List Int} (e:H r=some (.tup (x.map V.int))) (h:TTs H rs N):TTs H (r::rs) (x::N):=by
 refine⟨by simp[h.1],fun j r' xs ha hb=>?_⟩
 cases j with
 | zero=>
  have:r=r':=by simpa using ha
  have:x=xs:=by simpa using hb
  subst r' xs;exact e
 | succ j=>exact h.2 j r' xs (by simpa using ha) (by simpa using hb)
end Lv
namespace Lv
open PySem L2
end Lv
namespace Lv
open PySem L2
def vec (L:Nat) (g:Nat->Int):List Int:=(Ybi L).map g
def arr (L:Nat) (xs:List Int):List Int:=vec L fun m=>cn xs (m:Int)
def mre (p at_ o:Nat):Int:=if at_ > 0∨o<p - 1 then 1 else 0
theorem ZfR (I:List (List Int)) (m:Int):∀ k,k<=I.length->cn (finN (I.take k)) m=trs (fun o=>cn (I.getD o []) (m - 1)) k
 | 0,_=>by rw[Ybv];exact Zfb m
 | k+1,h=>by
  rw[YaJ (by omega),Za8,Zfc,ZfR I m k (by omega),trs];have:I.getD k []=I[k]:=by rw[YaC,Yaf (by omega)];rfl
  rw[this];unfold up1;rw[ZgI]
theorem Zm9 (I:List (List Int)):∀ k,k<I.length->(goN [] I)[k]?=some (finN (I.take (k+1))):=by
 intro k hk;have:∀ (r:List Int) (J:List (List Int)) (k:Nat),k<J.length->(goN r J)[k]?=some (r++finN (J.take (k+1))):=by
  intro r J
  induction J generalizing r with
  | nil=>intro k h;simp at h
  | cons A J ih=>
   intro k h;rw[goN]
   cases k with
   | zero=>simp[finN]
   | succ k=>
    rw[List.getElem?_cons_succ,ih (r++up1 A) k (by simpa using h)];simp[finN]
 simpa using this [] I k hk
theorem Zkk {N:List (List Int)}{at_:Nat}{xs:List Int} (h2:1<=N.length) (h:(Zat N)[at_]?=some xs) (m:Int):cn xs m=trs (fun o=>cn (N.getD o []) (m - mre N.length at_ o)) (N.length - at_):=by
 obtain⟨I,Z,rfl⟩:∃ I Z,N=I++[Z]:=by
  have hne:N≠[]:=by rintro rfl;simp at h2
  exact⟨N.dropLast,N.getLast hne,(Ybk hne).symm⟩
 have hl:(I++[Z]).length=I.length+1:=by simp
 have hat:=(Yaa.mp h).1
 rw[Zcr,hl] at hat;rw[Zb2] at h;have gI:∀ o,o<I.length->(I++[Z]).getD o []=I.getD o []:=fun o ho=>by
  rw[YaC,YaL ho,YaC]
 rw[hl]
 cases at_ with
 | zero=>
  have h:finN I++Z=xs:=by simpa using h
  rw[<- h,Zfc,YeB,trs];have e1:=ZfR I m I.length (Yag _);rw[YaP] at e1;rw[e1];congr 1
  ·refine ZcK fun o ho=>?_;rw[gI o ho,mre,if_pos (.inr (by (clear e1 hat hl h2;omega)))]
  ·rw[mre,if_neg (by (clear e1 hat hl h2;omega)),Int.sub_zero,YaC];simp
 | succ a=>
  have h:((goN [] I).reverse)[a]?=some xs:=by simpa using h
  rw[YbN (by rw[Zbi];(clear hl h2;omega)),Zbi,Zm9 I _ (by (clear hl h2;omega))] at h;have h:=Yaw h;rw[<- h,ZfR I m _ (by (clear hl h2;omega))];have:I.length - 1 - a+1=I.length+1 - (a+1):=by (clear hl h2;omega)
  rw[this];refine ZcK fun o ho=>?_;rw[gI o (by (clear this hat hl h2;omega)),mre,if_pos (.inl (by (clear ho this hat hl h2;omega)))]
theorem ZdR {p:Nat} (hp:1<=p):∀ n:Nat,Bd n (casN p n)
 | 0=>ZgN p 0
 | n+1=>fun xs a m b=>by
  have ih:=ZdR hp n;obtain⟨at_,ha⟩:=Yde a;have hm:=cn_ne.mpr b;rw[Zkk (by rw[ZaS hp];exact hp) ha] at hm;have:∀ (h:Nat->Int) k,trs h k≠0->∃ o,o<k/\h o≠0:=by
   intro h k
   induction k with
   | zero=>intro z;exact absurd rfl z
   | succ k ihk=>
    intro z;rw[trs] at z;by_cases e:h k=0
    ·rw[e,YcR] at z;obtain⟨o,h1,h2⟩:=ihk z;exact⟨o,by (clear h2 e z ihk hm hp;omega),h2⟩
    ·exact⟨k,by (clear e z ihk hm hp;omega),e⟩
  obtain⟨o,_,ho⟩:=this _ _ hm;have hmem:=cn_ne.mp ho;rw[YaC] at hmem
  cases e:(casN p n)[o]? with
  | none=>rw[e] at hmem;cases hmem
  | some ys=>
   rw[e] at hmem;have:=ih ys (YaE e) _ hmem;have h01:mre (casN p n).length at_ o=0∨mre (casN p n).length at_ o=1:=by unfold mre;split <;> simp
   (clear ho hm hp;omega)
theorem Zi1 {p:Nat} (hp:1<=p) (n:Nat):(((casN p n).flatten.length:Nat):Int)=(casc p n).sum:=by
 rw[<- Za3 hp n];have:∀ N:List (List Int),((N.flatten.length:Nat):Int)=(ZaN N).sum:=by
  intro N
  induction N with
  | nil=>rfl
  | cons a r ih=>
   rw[YaF,Yaj,ZaN,YaD,Yaz];rw[ZaN] at ih;rw[<- ih];(clear ih hp;omega)
 exact this _
end Lv
namespace Lv
open PySem L2
theorem ZnS {p:Int} (hp:2<=p) (M:Nat) (xs:List Int):0<=kr p M xs:=ZhK fun x hx=>by
 obtain⟨y,_,rfl⟩:=Yay.mp hx;have:=ZjZ (p:=p) (by omega) (M - y.toNat)
 (clear hp;omega)
theorem ZlT:∀ N:List (List Int),(Zat N).length=N.length
 | []=>rfl
 | [Z]=>rfl
 | A::B::r=>by
  rw[Zat,Yaj,Yad,ZlT (B::r)];rfl
theorem Zgv {p:Int} (hp:2<=p) {M:Nat}:∀ N:List (List Int),(N.length:Int)<=p->(∀ xs∈N,∀ y∈xs,0<=y/\y+1<=M)->kr p M (Zat N).flatten<=kr p M N.flatten
 | [],_,_=>Ya6 _
 | [Z],_,_=>Ya6 _
 | A::B::r,hl,h=>by
  have ih:=Zgv hp (B::r) (by simp at hl ⊢;(clear hp;omega)) fun xs hx=>h xs (Yam _ hx);have hu:=ZlU (p:=p) (M:=M) A (h A Yai);have e1:up1 A=A.map (·+1):=rfl;have h1:([A.map (·+1)]:List (List Int)).flatten=A.map (·+1):=by simp
  have e2:kr p M (A::B::r).flatten=kr p M A+kr p M (B::r).flatten:=by rw[YaF,ZcX]
  rw[e2,<- hu,Zat,Ybd,ZcX,ZiG,ZlT,e1,h1];have hn:=ZnS hp M (A.map (·+1));have h2:(((B::r).length:Int)+1)*kr p M (A.map (·+1))<=p*kr p M (A.map (·+1)):=Ybq (by simp at hl ⊢;(clear hn e2 hu ih hp;omega)) hn;rw[YbQ,Yd4] at h2
  (clear hn e2 hu hl hp;omega)
theorem ZkT {p:Nat} (hp:1<=p):∀ n,(casN p n).length=p
 | 0=>Zio hp 0
 | n+1=>by rw[casN,ZlT,ZkT hp n]
theorem ZkV {p:Nat} (hp:2<=p) {M:Nat}:∀ n,n<=M->kr p M (casN p n).flatten<=(p:Int) ^ M
 | 0,h=>Int.le_of_eq (ZkU hp 0 h)
 | n+1,h=>by
  have ih:=ZkV (M:=M) hp n (by (clear hp;omega));refine YeH (Zgv (by (clear ih h;omega)) (casN p n) (by rw[ZkT (by (clear ih h;omega))];(clear ih h hp;omega)) fun xs hx y hy=>?_) ih;have:=ZdR (p:=p) (by (clear ih h;omega)) n xs hx y hy
  (clear ih hp;omega)
end Lv
namespace Lv
open PySem L2
def fill (x y:Int):List Bool:=Yae x.toNat false++Yae y.toNat true
def layB (c v:List Int):List (List Bool):=YbU (fun x y=>fill (x - y) y) c v
def lay (p n:Nat):List (List Bool):=layB (cnt p (came p n).1) (came p n).2
end Lv
namespace L2
open PySem PySem.Spec PyProof.Rows
abbrev two (elt t1 i1:Expr) (f1:List Expr) (t2 i2:Expr) (f2:List Expr) (scope:Scope) (pos:Pos):Expr:=.ListComp elt [⟨t1,i1,f1,0⟩,⟨t2,i2,f2,0⟩] scope pos
theorem Zhz (elt t1 i1:Expr) (f1:List Expr) (t2 i2:Expr) (f2:List Expr) (scope:Scope) (pos:Pos) (it acc:Value) (env:Env) :
  compTurn (two elt t1 i1 f1 t2 i2 f2 scope pos) 0 it acc env=(do
   standAt i1.pos
   match <- pyNext it with
   | none=>pure (.done .next)
   | some v=>
    letOwnedTupleGo t1 it v
    assign t1 env v
    let mut ok:=true
    for c in f1 do
     if ok then ok <- isTrue c env (eval c env)
    if ok then
     let x <- eval i2 env
     standAt i2.pos
     let x <- foldedSetIterable i2 env x
     let _ <- runOwn (.compStart (two elt t1 i1 f1 t2 i2 f2 scope pos) 1 (<- holding [x] (pyIter x)) acc env) env
    again (.compLoop (two elt t1 i1 f1 t2 i2 f2 scope pos) 0 it acc env)):=by rfl
theorem Zhy (elt t1 i1:Expr) (f1:List Expr) (t2 i2:Expr) (f2:List Expr) (scope:Scope) (pos:Pos) (it acc:Value) (env:Env) :
  compTurn (two elt t1 i1 f1 t2 i2 f2 scope pos) 1 it acc env=(do
   standAt i2.pos
   match <- pyNext it with
   | none=>pure (.done .next)
   | some v=>
    letOwnedTupleGo t2 it v
    assign t2 env v
    let mut ok:=true
    for c in f2 do
     if ok then ok <- isTrue c env (eval c env)
    if ok then
     (do let _ <- call (.builtin "list.append") [acc,<- eval elt env])
    again (.compLoop (two elt t1 i1 f1 t2 i2 f2 scope pos) 1 it acc env)):=by rfl
section
variable {prog:Program}{w:World}{A:Around}{R:Result->Shared->Prop}{s:Shared}{elt t1 i1:Expr}{f1:List Expr}{t2 i2:Expr}{f2:List Expr}{scope:Scope}{pos:Pos}{it acc:Value}{env:Env}
theorem Ziy (I:Nat->Shared->Prop)
  (turn:∀ n s,I n s->wpAny (model prog w) A (pyNext it) (fun r s₁=>match r with
   | none=>R (.ok .next) s₁
   | some v=>wpAny (model prog w) A (letOwnedTupleGo t2 it v) (fun _ s₁'=>wpAny (model prog w) A (assign t2 env v) (fun _ s₂=>
     wpAny (model prog w) A (forIn f2 true fun c r=>if r=true then do let ok <- isTrue c env (eval c env);pure (Ya4 ok) else pure (Ya4 r)) (fun ok s₃=>
      if ok=true then wpAny (model prog w) A (eval elt env) (fun x s₄=>
       wpAny (model prog w) A (call (.builtin "list.append") [acc,x]) (fun _ s₅=>∃ m,m<n/\I m s₅) (fun _ _=>False) s₄) (fun _ _=>False) s₃
      else ∃ m,m<n/\I m s₃) (fun _ _=>False) s₂) (fun _ _=>False) s₁') (fun _ _=>False) s₁) (fun _ _=>False) s)
  (n:Nat) (h:I n s):codeAny (model prog w) A (.compLoop (two elt t1 i1 f1 t2 i2 f2 scope pos) 1 it acc env) R s:=by
 refine codeAny_loop rfl I (fun n s hI=>?_) n h;show wpAny _ A ((compTurn (two elt t1 i1 f1 t2 i2 f2 scope pos) 1 it acc env).onRaise (fun x=>do noteFrame x env;theTreesLotGoes x)) _ _ s;refine wpAny_noted ?_;rw[Zhy];refine wpAny_bind (wpAny_standAt (wpAny_bind (wpAny_mono (turn n s hI) (fun r s₁ h₁=>?_) fun _ _ h'=>h'.elim)))
 cases r with
 | none=>exact wpAny_pure h₁
 | some v=>
  refine wpAny_bind (wpAny_mono h₁ (fun _ s₁' h₁=>?_) fun _ _ h'=>h'.elim);refine wpAny_bind (wpAny_mono h₁ (fun _ s₂ h₂=>wpAny_bind (wpAny_mono h₂ (fun ok s₃ h₃=>?_) fun _ _ h'=>h'.elim)) fun _ _ h'=>h'.elim)
  cases ok with
  | false=>exact wpAny_pure ⟨rfl,h₃⟩
  | true=>
   exact wpAny_bind (wpAny_bind (wpAny_mono h₃ (fun x s₄ h₄=>wpAny_bind (wpAny_mono h₄ (fun _ s₅ h₅=>wpAny_pure (wpAny_pure ⟨rfl,h₅⟩)) fun _ _ h'=>h'.elim)) fun _ _ h'=>h'.elim))
theorem ZgV
  (h0:codeAny (model prog w) A (.compLoop (two elt t1 i1 f1 t2 i2 f2 scope pos) 1 it acc env) R s)
  (h:wpAny (model prog w) A (pyIter it) (fun it' s'=>codeAny (model prog w) A (.compLoop (two elt t1 i1 f1 t2 i2 f2 scope pos) 1 it' acc env) R s')
   (notedBy (model prog w) A env fun x s'=>R (.error x) s') s) :
  codeAny (model prog w) A (.compStart (two elt t1 i1 f1 t2 i2 f2 scope pos) 1 it acc env) R s:=by
 refine codeAny_of_tree ?_;show wpAny _ _ ((compStart (two elt t1 i1 f1 t2 i2 f2 scope pos) 1 it acc env).onRaise (fun x=>do noteFrame x env;standAt theWindowsPlace)) _ _ s;refine wpAny_notedAt ?_;unfold compStart;show wpAny _ _ (ask >>= _) _ _ s;refine wpAny_bind (wpAny_askSetting (wpAny_ite ?_));split
 ·first
   | exact wpAny_bind (wpAny_pure (wpAny_pure (And.intro rfl h0)))
   | exact wpAny_pure (And.intro rfl h0)
 ·refine wpAny_bind (wpAny_rule ?_);show wpAny _ _ (standAt i2.pos >>= _) _ _ s;exact wpAny_bind (wpAny_standAt (wpAny_bind (wpAny_mono h (fun it' s' h'=>wpAny_pure (And.intro rfl h')) fun _ _ x=>x)))
theorem Ziz (I:Nat->Shared->Prop) (hs:∀ x,foldedSetIterable i2 env x=pure x)
  (turn:∀ n s,I n s->wpAny (model prog w) A (pyNext it) (fun r s₁=>match r with
   | none=>R (.ok .next) s₁
   | some v=>wpAny (model prog w) A (letOwnedTupleGo t1 it v) (fun _ s₁'=>wpAny (model prog w) A (assign t1 env v) (fun _ s₂=>
     wpAny (model prog w) A (forIn f1 true fun c r=>if r=true then do let ok <- isTrue c env (eval c env);pure (Ya4 ok) else pure (Ya4 r)) (fun ok s₃=>
      if ok=true then wpAny (model prog w) A (eval i2 env) (fun x s₄=>wpAny (model prog w) A (pyIter x) (fun itv s₅=>
       codeAny (model prog w) A (.compStart (two elt t1 i1 f1 t2 i2 f2 scope pos) 1 itv acc env) (fun r s₆=>∃ fl,r=.ok fl/\∃ m,m<n/\I m s₆) s₅) (fun _ _=>False) s₄) (fun _ _=>False) s₃
      else ∃ m,m<n/\I m s₃) (fun _ _=>False) s₂) (fun _ _=>False) s₁') (fun _ _=>False) s₁) (fun _ _=>False) s)
  (n:Nat) (h:I n s):codeAny (model prog w) A (.compLoop (two elt t1 i1 f1 t2 i2 f2 scope pos) 0 it acc env) R s:=by
 refine codeAny_loop rfl I (fun n s hI=>?_) n h;show wpAny _ A ((compTurn (two elt t1 i1 f1 t2 i2 f2 scope pos) 0 it acc env).onRaise (fun x=>do noteFrame x env;theTreesLotGoes x)) _ _ s;refine wpAny_noted ?_;rw[Zhz];refine wpAny_bind (wpAny_standAt (wpAny_bind (wpAny_mono (turn n s hI) (fun r s₁ h₁=>?_) fun _ _ h'=>h'.elim)))
 cases r with
 | none=>exact wpAny_pure h₁
 | some v=>
  refine wpAny_bind (wpAny_mono h₁ (fun _ s₁' h₁=>?_) fun _ _ h'=>h'.elim);refine wpAny_bind (wpAny_mono h₁ (fun _ s₂ h₂=>wpAny_bind (wpAny_mono h₂ (fun ok s₃ h₃=>?_) fun _ _ h'=>h'.elim)) fun _ _ h'=>h'.elim)
  cases ok with
  | false=>exact wpAny_pure ⟨rfl,h₃⟩
  | true=>
   refine wpAny_bind (wpAny_mono h₃ (fun x s₄ h₄=>wpAny_bind (wpAny_standAt ?_)) fun _ _ h'=>h'.elim);rw[hs];refine wpAny_bind (wpAny_pure (wpAny_bind (wpAny_holding (wpAny_mono h₄ (fun itv s₅ h₅=>?_) fun _ _ h'=>h'.elim))));refine wpAny_bind (wpAny_runOwn (h:=none) (codeAny_mono h₅ fun r s₆ ⟨fl,er,h₆⟩=>?_));subst er;exact wpAny_pure ⟨rfl,h₆⟩
end
end L2
namespace L2
open PySem PySem.Spec PyProof.Rows
def tInW (g2:TG) (tt2:TT) (te:TE) (τ:St) (acc:Addr) (J2:It) (H6:Hp) (Z:Hp->Prop):Prop :=
 ∃ (W2:Nat->Hp->Prop) (n2:Nat),W2 0 H6/\∀ k H7,W2 k H7->(J2.stop k H7/\Z H7)∨(k<n2/\J2.go k H7/\∀ y H8,J2.yld k H7 y H8->g2 y τ H8 fun τ2 H9=>tt2 τ2 H9 fun c H10=>
  if c=true then te τ2 H10 fun z H11=>∃ ys,H11 acc=some (.lst ys)/\ys.length<sizeLine/\W2 (k+1) (upd H11 acc (.lst (ys++[z]))) else W2 (k+1) H10)
def Zfv (own:List Str) (js:List Nat) (g1:TG) (tt1:TT) (wi2:TI) (g2:TG) (tt2:TT) (te:TE) (σ:St) (J:It) (H1:Hp) (Q:VK):Prop :=
 ∀ acc,H1 acc=none->∃ (W:Nat->Hp->Prop) (n:Nat),W 0 (upd H1 acc (.lst []))/\∀ i H2,W i H2 ->
  (J.stop i H2/\Q (.ref acc) H2)∨(i<n/\J.go i H2/\∀ x H3,J.yld i H2 x H3->g1 x (blkσ own js σ) H3 fun τ H4=>tt1 τ H4 fun c H5=>
   if c=true then wi2 τ H5 fun J2 H6=>tInW g2 tt2 te τ acc J2 H6 (W (i+1)) else W (i+1) H5)
def Zmp (own:List Str) (js:List Nat) (wi:TI) (g1:TG) (tt1:TT) (wi2:TI) (g2:TG) (tt2:TT) (te:TE):TE:=fun σ H Q=>wi σ H fun J H1=>Zfv own js g1 tt1 wi2 g2 tt2 te σ J H1 Q
def Zmb (fr:List Nat) (τ:St):Prop:=∀ i∈fr,∀ v,τ[i]?≠some (some v)
def Zjw (own:List Str) (fr:List Nat) (g:TG):Prop:=∀ (js:List Nat) (σ:St) (x:V) (H:Hp) (Q:St->Hp->Prop),g x (blkσ own js σ) H Q ->
 g x (blkσ own js σ) H fun τ H'=>((∀ (j:Nat) v,(blkσ own js σ)[j]?=some (some v)->τ[j]?=some (some v))/\Zmb fr τ)/\Q τ H'
def ZgP (fr:List Nat) (g:TG):Prop:=∀ (τ:St),Zmb fr τ->∀ (x:V) (H:Hp) (Q:St->Hp->Prop),g x τ H Q->g x τ H fun τ' H'=>(∀ (j:Nat) v,τ[j]?=some (some v)->τ'[j]?=some (some v))/\Q τ' H'
theorem Zhm {K:Yac}{own:List Str}{i k:Nat}{fr:List Nat} (hi:i<own.length:=by decide) (hk:k<own.length:=by decide) (hf:∀ j∈fr,j<own.length/\j≠i/\j≠k:=by decide):Zjw own fr (gTup K 2 (Zc0 (Zbc i) (Zc0 (Zbc k) gNil))):=fun js σ x H Q h=>by
 obtain⟨a,xs,rfl,hq,hl,v,r,rfl,w,r',rfl,e,h⟩:=h;refine⟨a,_,rfl,hq,hl,v,_,rfl,w,r',rfl,e,⟨fun j z e=>?_,fun j hj z e=>?_⟩,h⟩
 ·have hj:j≠i:=by rintro rfl;exact ZaT hi e
  have hj':j≠k:=by rintro rfl;exact ZaT hk e
  rw[YaX (Yba hj'),YaX (Yba hj)];exact e
 ·obtain⟨h1,h2,h3⟩:=hf j hj;rw[YaX (Yba h3),YaX (Yba h2)] at e;exact ZaT h1 e
theorem Zhl {K:Yac}{i k:Nat}:ZgP [i,k] (gTup K 2 (Zc0 (Zbc i) (Zc0 (Zbc k) gNil))):=fun τ u x H Q h=>by
 obtain⟨a,xs,rfl,hq,hl,v,r,rfl,w,r',rfl,e,h⟩:=h;refine⟨a,_,rfl,hq,hl,v,_,rfl,w,r',rfl,e,fun j z e=>?_,h⟩;have hj:j≠i:=by rintro rfl;exact u j (by simp) _ e
 have hj':j≠k:=by rintro rfl;exact u j (by simp) _ e
 rw[YaX (Yba hj'),YaX (Yba hj)];exact e
section
variable {X:Cx}{scope:Scope}{own:List Str}{js fr:List Nat}{elt t1 i1:Expr}{f1:List Expr}{t2 i2:Expr}{f2:List Expr}{wi wi2:TI}{g1 g2:TG}{tt1 tt2:TT}{te:TE}{pos:Pos}
theorem ZiV {pins:List (Addr × Obj)}{s₂:Shared}{H2:Hp}{C:Addr}{fp:List Addr}{τ:St}{H6:Hp}{s6:Shared}{it2 acc:Addr}{fp2:List Addr}{tn2:Nat->Heap->Prop}{J2:It}{Z:Hp->Prop}{P:List (Addr × Obj)}
  (hc:X.calm=true) (hgk:ZgP fr g2) (hu:Zmb fr τ)
  (hg:PG (X.blk scope own js s₂ H2 C fp pins) t2 g2) (ht:PTs (X.blk scope own js s₂ H2 C fp pins) f2 tt2) (he:PE (X.blk scope own js s₂ H2 C fp pins) elt te)
  (I6:Inv (X.blk scope own js s₂ H2 C fp pins) P τ H6 s6) (T:Turn X.prog X.w X.K t2 J2 fp2 it2 tn2) (st:tn2 0 s6.heap) (hf:∀ b∈fp2,FpOk (X.blk scope own js s₂ H2 C fp pins) P H6 b) (h:tInW g2 tt2 te τ acc J2 H6 Z) :
  codeAny (model X.prog X.w) X.A (.compStart (two elt t1 i1 f1 t2 i2 f2 scope pos) 1 (.ref it2) (.ref acc) (compEnvC scope (clOf scope X.env) C X.env)) (fun r s'=>r=.ok .next/\∃ H',Inv (X.blk scope own js s₂ H2 C fp pins) P τ H' s'/\Z H') s6:=by
 obtain⟨W,nn,w0,turn⟩:=h;have fOk:∀ {H':Hp},(∀ b∈fp2,H' b=none)->∀ b∈fp2,FpOk (X.blk scope own js s₂ H2 C fp pins) P H' b:=fun hn b hb=>⟨hn b hb,(hf b hb).2⟩
 have loop:codeAny (model X.prog X.w) X.A (.compLoop (two elt t1 i1 f1 t2 i2 f2 scope pos) 1 (.ref it2) (.ref acc) (compEnvC scope (clOf scope X.env) C X.env)) (fun r s'=>r=.ok .next/\∃ H',Inv (X.blk scope own js s₂ H2 C fp pins) P τ H' s'/\Z H') s6:=by
  refine Ziy (fun n s'=>∃ i H',n=nn - i/\Inv (X.blk scope own js s₂ H2 C fp pins) P τ H' s'/\tn2 i s'.heap/\(∀ b∈fp2,H' b=none)/\W i H') ?_ nn ⟨0,_,rfl,I6,st,fun b hb=>(hf b hb).1,w0⟩;rintro n s3 ⟨i,H3,en,I3,st3,fr3,w3⟩;rcases turn i H3 w3 with ⟨stop,qn⟩ | ⟨hin,go,step⟩
  ·refine thn (T.done (X.blk scope own js s₂ H2 C fp pins) rfl rfl rfl hc i P s3 _ H3 (fun _ _=>False) I3 (fOk fr3) st3 stop) fun r s4 ⟨hr,I4⟩=>?_;subst hr;exact⟨rfl,H3,I4,qn⟩
  ·refine thn (T.item (X.blk scope own js s₂ H2 C fp pins) rfl rfl rfl hc i P s3 _ H3 (fun _ _=>False) I3 (fOk fr3) st3 go) fun r s4 ⟨u,hr,h4⟩=>?_;subst hr;refine thn h4 fun _ s5 ⟨x,H5,I5,r5,y5,st5,fr5⟩=>?_;have I5':=I5.pinned (fOk fr5) (T.obj _ _ st5);have again:∀ {σ7:St}{H7:Hp}{s7:Shared},Inv (X.blk scope own js s₂ H2 C fp pins) (P++Zcw fp2 s5.heap) σ7 H7 s7->(∀ (j:Nat) v,τ[j]?=some (some v)->σ7[j]?=some (some v))->W (i+1) H7 ->
     ∃ m,m<n/\∃ i H',m=nn - i/\Inv (X.blk scope own js s₂ H2 C fp pins) P τ H' s7/\tn2 i s7.heap/\(∀ b∈fp2,H' b=none)/\W i H':=fun {σ7 H7 s7} I7 hw w7=>by
    refine⟨nn - (i+1),by omega,i+1,H7,rfl,(I7.unpinned).weak (I3.len.trans I7.len.symm) hw,T.keep _ _ _ st5 fun b hb o e=>(I7.pin (b,o) (Yao _ (Yao _ (ZaF hb e)))).1,fun b hb=>?_,w7⟩;obtain⟨o,e,d⟩:=T.obj _ _ st5 b hb;exact (I7.pin (b,o) (Yao _ (Yao _ (ZaF hb e)))).2.1
   refine thn (hg _ s5 _ H5 x u _ I5' r5 (hgk τ hu _ _ _ (step x H5 y5))) fun _ s6 ⟨σ6,H6,I6,kp,q6⟩=>?_;refine thn (ht _ s6 σ6 H6 _ I6 q6) fun ok s7 ⟨H7,I7,q7⟩=>?_
   cases ok with
   | false=>exact again I7 kp q7
   | true=>
    refine thn (he _ s7 σ6 H7 _ I7 q7) fun y s8 ⟨v,H8,I8,r8,ys,hl,hz,w8⟩=>?_;refine thn (Za6 (X:=X.blk scope own js s₂ H2 C fp pins) _ s8 σ6 H8 (.ref acc) [v] (.ref acc) [y] (fun _ H9=>W (i+1) H9) I8 rfl (.cons r8 .nil) ⟨acc,ys,v,rfl,rfl,hl,hz,w8⟩) fun _ s9 ⟨_,H9,I9,_,w9⟩=>?_;exact again I9 kp w9
 exact ZgV loop (T.self _ 0 _ _ _ st loop)
theorem ZkG {pins:List (Addr × Obj)}{σ:St}{H2:Hp}{s₂:Shared}{it:Addr}{fp:List Addr}{tn:Nat->Heap->Prop}{J:It}{Q:VK}{E:Value->Shared->Prop}{RR:Value->Addr->Result->Shared->Prop}
  (c:CompOk X scope own js) (hc:X.calm=true) (hgk:Zjw own fr g1) (hgt:ZgP fr g2)
  (hg:∀ s H C fp pins,PG (X.blk scope own js s H C fp pins) t1 g1) (ht:∀ s H C fp pins,PTs (X.blk scope own js s H C fp pins) f1 tt1) (hi2:∀ s H C fp pins,PI (X.blk scope own js s H C fp pins) t2 i2 wi2)
  (hg2:∀ s H C fp pins,PG (X.blk scope own js s H C fp pins) t2 g2) (ht2:∀ s H C fp pins,PTs (X.blk scope own js s H C fp pins) f2 tt2) (he:∀ s H C fp pins,PE (X.blk scope own js s H C fp pins) elt te)
  (hs2:∀ env x,foldedSetIterable i2 env x=pure x)
  (I:Inv X pins σ H2 s₂) (T:Turn X.prog X.w X.K t1 J fp it tn) (st:tn 0 s₂.heap) (hf:∀ b∈fp,FpOk X pins H2 b) (h:Zfv own js g1 tt1 wi2 g2 tt2 te σ J H2 Q)
  (hRR:∀ acc C H' s' m,s₂.heap.objs.size<=C->H' C=none->Inv X pins σ H' s'->s'.heap.Ns C m->Q (.ref acc) H'->RR (.ref acc) C (.ok .next) s') :
  wpAny (model X.prog X.w) X.A (newList []) (fun acc s₃=>wpAny (model X.prog X.w) X.A (newFunctionEnv scope X.env.globals (clOf scope X.env) [] X.env.qual none .none (some X.env)) (fun cenv s₄=>
   codeAny (model X.prog X.w) X.A (.compStart (two elt t1 i1 f1 t2 i2 f2 scope pos) 0 (.ref it) acc { cenv with scope:=relabel scope X.env }) (RR acc cenv.locals) s₄) E s₃) E s₂:=by
 refine wpAny_newObj_type (wpAny_newFunctionEnv c.cell (by intro y hy;simp at hy) (fun h₁ hns₁ hsb₁=>?_) c.kind);dsimp only at hns₁ hsb₁ ⊢;generalize hH2:s₂.heap.push { cls:=.type "list",dict:=none,data:=.seq ([]:List Value).toArray }=G2 at hns₁ hsb₁ ⊢;have hC:G2.objs.size=s₂.heap.objs.size+1:=by rw[<- hH2,Ybj]
 have hDC:s₂.heap.objs.size≠G2.objs.size:=by rw[hC];exact YaB (YbF _)
 have hCle:s₂.heap.objs.size<=G2.objs.size:=by rw[hC];exact Yc0 _
 have old:∀ b o,s₂.heap.get? b=some o->h₁.get? b=some o:=fun b o e=>hsb₁.extBut b o (YaB (Yak (Yah e) hCle)) (Yab _ (hH2 ▸ Yab _ e));have hacc:h₁.get? s₂.heap.objs.size=some { cls:=.type "list",data:=.seq ([]:List Value).toArray 0 }:=hsb₁.extBut _ _ hDC (Yab _ (hH2 ▸ Yav _ rfl));have ho2:∀ b∈fp,∃ o,s₂.heap.get? b=some o:=fun b hb=>let ⟨o,e,_⟩:=T.obj 0 _ st b hb;⟨o,e⟩
 have I0:∀ tk,Inv (X.blk scope own js s₂ H2 G2.objs.size fp pins) [] (blkσ own js σ) (upd H2 s₂.heap.objs.size (.lst [])) { s₂ with heap:=h₁,toks:=tk }:=fun tk=>
  Zfi c I hCle hf ho2 hns₁ old (Yag _) hDC hacc
 obtain⟨W,nn,w0,turn⟩:=h s₂.heap.objs.size (I.hok.fresh (Yag _));generalize hacc':s₂.heap.objs.size=acc at *;generalize hGC:G2.objs.size=C at *;have st1:tn 0 h₁:=T.keep 0 _ _ st fun b _ o e=>old b o e;have fOk:∀ {H':Hp},(∀ b∈fp,H' b=none)->∀ b∈fp,FpOk (X.blk scope own js s₂ H2 C fp pins) [] H' b:=fun hn b hb=>by
  obtain⟨f0,f1,f2,f3,f4,f5⟩:=hf b hb;obtain⟨o,e⟩:=ho2 b hb;refine⟨hn b hb,YaB (Yak (Yah e) (by rw[<- hacc'] at hCle;exact hCle)),fun z=>?_,.inl hb,fun x a h=>f4 x a (c.look I h),fun p hp=>f5 p (by simpa[Cx.blk] using hp)⟩;rcases Yau.mp (I.stkSub b z) with q | q
  ·exact f1 q
  ·exact f2 q
 have loop:∀ s₃:Shared,s₃={ s₂ with heap:=h₁,toks:=s₂.toks+([]:List (Str × Value)).length } ->
   codeAny (model X.prog X.w) X.A (.compLoop (two elt t1 i1 f1 t2 i2 f2 scope pos) 0 (.ref it) (.ref acc) (compEnvC scope (clOf scope X.env) C X.env)) (RR (.ref acc) C) s₃:=by
  rintro s₃ rfl;refine Ziz (fun n s'=>∃ i H',n=nn - i/\Inv (X.blk scope own js s₂ H2 C fp pins) [] (blkσ own js σ) H' s'/\tn i s'.heap/\(∀ b∈fp,H' b=none)/\W i H') (hs2 _) ?_ nn ⟨0,_,rfl,I0 _,st1,fun b hb=>?_,w0⟩
  ·rintro n s3 ⟨i,H3,en,I3,st3,fr3,w3⟩;rcases turn i H3 w3 with ⟨stop,qn⟩ | ⟨hin,go,step⟩
   ·refine thn (T.done (X.blk scope own js s₂ H2 C fp pins) rfl rfl rfl hc i [] s3 _ H3 (fun _ _=>False) I3 (fOk fr3) st3 stop) fun r s4 ⟨hr,I4⟩=>?_;subst hr;obtain⟨m,hn,_⟩:=I4.loc;exact hRR acc C H3 s4 m hCle I4.free (Zf1 I hf I4) hn qn
   ·refine thn (T.item (X.blk scope own js s₂ H2 C fp pins) rfl rfl rfl hc i [] s3 _ H3 (fun _ _=>False) I3 (fOk fr3) st3 go) fun r s4 ⟨u,hr,h4⟩=>?_;subst hr;refine thn h4 fun _ s5 ⟨x,H5,I5,r5,y5,st5,fr5⟩=>?_;have I5':=I5.pinned (fOk fr5) (T.obj _ _ st5);have again:∀ {σ7:St}{H7:Hp}{s7:Shared},Inv (X.blk scope own js s₂ H2 C fp pins) ([]++Zcw fp s5.heap) σ7 H7 s7->(∀ (j:Nat) v,(blkσ own js σ)[j]?=some (some v)->σ7[j]?=some (some v))->W (i+1) H7 ->
      ∃ m,m<n/\∃ i H',m=nn - i/\Inv (X.blk scope own js s₂ H2 C fp pins) [] (blkσ own js σ) H' s7/\tn i s7.heap/\(∀ b∈fp,H' b=none)/\W i H':=fun {σ7 H7 s7} I7 hw w7=>by
     refine⟨nn - (i+1),by (clear hCle hDC hC hGC hacc';omega),i+1,H7,rfl,(I7.unpinned).weak ((Zc7 own js σ X).trans I7.len.symm) hw,T.keep _ _ _ st5 fun b hb o e=>(I7.pin (b,o) (Yao _ (Yao _ (ZaF hb e)))).1,fun b hb=>?_,w7⟩;obtain⟨o,e,d⟩:=T.obj _ _ st5 b hb;exact (I7.pin (b,o) (Yao _ (Yao _ (ZaF hb e)))).2.1
    refine thn (hg s₂ H2 C fp pins _ s5 _ H5 x u _ I5' r5 (hgk _ _ _ _ _ (step x H5 y5))) fun _ s6 ⟨σ6,H6,I6,⟨kp,un⟩,q6⟩=>?_;refine thn (ht s₂ H2 C fp pins _ s6 σ6 H6 _ I6 q6) fun ok s7 ⟨H7,I7,q7⟩=>?_
    cases ok with
    | false=>exact again I7 kp q7
    | true=>
     refine thn (hi2 s₂ H2 C fp pins _ s7 σ6 H7 _ I7 q7) fun v s8 h8=>thn h8 fun itv s9 h9=>?_;obtain⟨it2,fp2,tn2,J2,H9,e9,I9,T2,st9,f9,hw9⟩:=h9;subst e9;refine codeAny_mono (ZiV (t1:=t1) (i1:=i1) (f1:=f1) (i2:=i2) (pos:=pos) hc hgt un (hg2 s₂ H2 C fp pins) (ht2 s₂ H2 C fp pins) (he s₂ H2 C fp pins) I9 T2 st9 f9 hw9) fun r s10 ⟨er,H10,I10,w10⟩=>?_;exact⟨_,er,again I10 kp w10⟩
  ·rw[Zaf ?_]
   ·exact (hf b hb).1
   ·obtain⟨o,e⟩:=ho2 b hb;rw[<- hacc'];exact YaB (Yah e)
 exact codeAny_compStart_list (loop _ rfl) (T.self _ 0 _ _ _ st1 (loop _ rfl))
end
end L2
namespace L2
open PySem PySem.Spec PyProof.Rows
end L2
namespace Lv
open PySem L2
def sel (xs:List Int) (bs:List Bool):List Int:=((xs.zip bs).filter (·.2)).map (·.1)
def Znz (N:List (List Int)) (B:List (List Bool)):List Int:=(YbU sel N B).flatten
end Lv
namespace L2
open PySem PySem.Spec PyProof.Rows
section
variable {M:Model}{A:Around}{E:Value->Shared->Prop}
end
section
variable {X:Cx}{pins:List (Addr × Obj)}{σ:St}{H H':Hp}{s s':Shared}{scope:Scope}{own:List Str}{js:List Nat}{C:Addr}{fp:List Addr}
structure CompOkK (X:Cx) (scope:Scope) (own:List Str) (js:List Nat):Prop where
 kind:scope.kind=.function
 free:∀ y∈scope.names,y.2=.free->X.env.kindOf y.1=some .cell∨X.env.kindOf y.1=some .free
 names:∀ y∈scope.names,scope.names.lookup y.1=some y.2
 out:∀ j∈js,∃ x,X.N[j]?=some x/\scope.names.lookup x=some .free
end
section
variable {X:Cx}{scope:Scope}{own:List Str}{js:List Nat}{elt iter target:Expr}{ifs:List Expr}{wi:TI}{g:TG}{tt:TT}{te:TE}{pos:Pos}
end
end L2
namespace Lv
open PySem L2
end Lv
namespace Lv
open PySem L2
def nfR (ks:List (Int × Int)) (i:Nat) (x:Int):List Bool:=(Ybi x.toNat).map fun (j:Nat)=>decide (((i:Int),(j:Int))∈ks)
def nf (ks:List (Int × Int)):Nat->List Int->List (List Bool)
 | _,[]=>[]
 | i,x::c=>nfR ks i x::nf ks (i+1) c
end Lv
namespace Lv
open PySem L2
theorem ZgM {g:Nat->Option Int}{c:Nat->Int}{N:Nat} (hm:∀ a b,a<=b->b<N->c a<=c b) (hg:∀ n r,n<N->g n=some r->c n<=r):∀ (k n:Nat) (st:Option (Int × Nat)),n+k<=N->IsBest g n st->IsBest g (n+k) (bo g c k n st)
 | 0,n,st,_,h=>h
 | k+1,n,st,hk,h=>by
  unfold bo;by_cases e:Zfh c n st=true
  ·rw[if_pos e]
   cases st with
   | none=>cases e
   | some q=>
    obtain⟨a,b,d,f⟩:=h;have e':c n ≥ q.1:=of_decide_eq_true e;refine⟨by (clear e' hk;omega),b,fun m r hmr hr=>?_,f⟩;by_cases hlt:m<n
    ·exact d m r hlt hr
    ·have h1:=hm n m (by (clear hmr e' a hk;omega)) (by (clear hlt e' a;omega));have h2:=hg m r (by (clear h1 hlt e' a;omega)) hr
     (clear hlt hmr a hk;omega)
  ·rw[if_neg e];have:=ZgM hm hg k (n+1) _ (by (clear e;omega)) h.step;rw[show n+(k+1)=n+1+k by (clear e hk;omega)];exact this
end Lv
namespace Lv
open PySem L2
section
variable {S:Nat->List (List Int)}
def gS (S:Nat->List (List Int)) (r:Int) (n:Nat):Option Int:=Ze2 (S n).flatten r
def cS (S:Nat->List (List Int)) (r:Int) (n:Nat):Int:=r*((sprC (S n).flatten).headD (0,0)).1
structure Lvs (S:Nat->List (List Int)):Prop where
 bd:∀ n:Nat,Bd n (S n)
 ne:∀ n,(S n).flatten≠[]
 up:∀ n,∀ b∈(S (n+1)).flatten,∃ y∈(S n).flatten,y<=b
theorem Lvs.le (L:Lvs S) {n:Nat} (hn:n<=300):∀ m∈(S n).flatten,0<=m/\m<=400:=fun m hm=>by
 obtain⟨xs,hx,hm⟩:=Ybh.mp hm;have:=L.bd n xs hx m hm;omega
theorem Lvs.some (L:Lvs S) {n:Nat}{r:Int} (hn:n<=300) (h1:1<=r) (hr:r<=(S n).flatten.length):∃ v,gS S r n=some v/\Lst (S n).flatten r v:=by
 obtain⟨l1,l2⟩:=ZmY (ZdX (L.le hn)) h1 hr;refine⟨_,?_,l2⟩;unfold gS Ze2;rw[if_neg (by (clear hr h1 hn;omega))]
theorem Lvs.of (L:Lvs S) {n:Nat}{r v:Int} (hn:n<=300) (h1:1<=r) (h:gS S r n=Option.some v):r<=(S n).flatten.length/\Lst (S n).flatten r v:=by
 have hs:=ZdX (L.le hn);have hl:=Zep (sprC (S n).flatten) (0,r) (by show (0:Int)<=r;(clear hn;omega)) (Zdl hs);rw[Zfw hs] at hl;have hr:r<=(S n).flatten.length:=by
  refine YbM fun z=>?_;rw[if_neg (by show ¬ r<=((S n).flatten.length:Int);exact z)] at hl;unfold gS Ze2 at h;rw[if_pos (by show (lsF (sprC (S n).flatten) (0,r)).2 > 0;rw[hl];show r - ((S n).flatten.length:Int) > 0;(clear hl h1 hn;omega))] at h;cases h
 refine⟨hr,?_⟩;obtain⟨u,e,l⟩:=L.some hn h1 hr;rw[h] at e;cases e;exact l
theorem Lvs.head (L:Lvs S) {n:Nat} (hn:n<=300):Zc9 (S n).flatten ((sprC (S n).flatten).headD (0,0)).1:=by
 have hs:=ZdX (L.le hn)
 cases e:sprC (S n).flatten with
 | nil=>
  obtain⟨m,hm⟩:=YcN _ (L.ne n);have:=(Za2 hs m).mpr hm;rw[e] at this;simp at this
 | cons q M=>
  rw[e] at hs;exact ZeN hs
theorem Lvs.up' (L:Lvs S):∀ (a k:Nat),∀ b∈(S (a+k)).flatten,∃ y∈(S a).flatten,y<=b
 | a,0,b,hb=>⟨b,hb,Ya6 _⟩
 | a,k+1,b,hb=>by
  obtain⟨y,hy,h⟩:=L.up (a+k) b hb;obtain⟨z,hz,h2⟩:=L.up' a k y hy;exact⟨z,hz,YeH h2 h⟩
theorem Lvs.best (L:Lvs S) {r:Int} (h1:1<=r) {N:Nat} (hN:N<=301):IsBest (gS S r) N (bo (gS S r) (cS S r) N 0 none):=by
 have:=ZgM (g:=gS S r) (c:=cS S r) (N:=N) (fun a b hab hb=>?_) (fun n v hn hv=>?_) N 0 none (by (clear hN h1;omega)) (fun n hn=>absurd hn (YcG _))
 ·simpa using this
 ·have ha:=L.head (show a<=300 by (clear h1;omega));have hb':=L.head (show b<=300 by (clear hab h1;omega));refine YcA ?_ (by (clear hb hab hN;omega));have hb1:=hb'.1;rw[show b=a+(b - a) by (clear hb hN h1;omega)] at hb1;obtain⟨y,hy,h⟩:=L.up' a (b - a) _ hb1;have h2:=ha.2 y hy;rw[show a+(b - a)=b by (clear h2 h hb hN h1;omega)] at h
  (clear hb hab hN h1;omega)
 ·obtain⟨_,l⟩:=L.of (show n<=300 by (clear h1;omega)) h1 hv;have hl:=L.head (show n<=300 by (clear h1;omega));have:=l.le ((sprC (S n).flatten).headD (0,0)).1;have hz:sv (S n).flatten ((sprC (S n).flatten).headD (0,0)).1=0:=by
   unfold sv;have:((S n).flatten.map fun x=>pz (((sprC (S n).flatten).headD (0,0)).1 - x))=(S n).flatten.map fun _=>0:=YbK fun x hx=>by
    have:=hl.2 x hx;unfold pz;split <;> (clear hn hN h1;omega)
   rw[this];generalize (S n).flatten=l
   induction l with
   | nil=>rfl
   | cons x l ih=>rw[YaD,Yaz,ih];rfl
  rw[hz] at this;unfold cS
  (clear hz hn hN h1;omega)
end
theorem ZfH:∀ (N:List (List Int)),∀ b∈(Zat N).flatten,∃ y∈N.flatten,y<=b
 | [],b,hb=>by simp[Zat] at hb
 | [Z],b,hb=>⟨b,hb,Ya6 _⟩
 | A::B::r,b,hb=>by
  have hA:∀ c∈up1 A,∃ y∈(A::B::r).flatten,y<=c:=fun c hc=>by
   obtain⟨y,hy,rfl⟩:=Yay.mp hc;exact⟨y,by rw[YaF];exact YaM _ hy,by omega⟩
  rw[Zat,Ybd] at hb;rcases Yap.mp hb with h | h
  ·obtain⟨xs,hx,hbx⟩:=Ybh.mp h;obtain⟨ys,hy,rfl⟩:=Yay.mp hx;rcases Yap.mp hbx with h | h
   ·exact hA b h
   ·obtain⟨y,hy2,hle⟩:=ZfH (B::r) b (Ybh.mpr ⟨ys,hy,h⟩);exact⟨y,by rw[YaF];exact Yao _ hy2,hle⟩
  ·exact hA b (by simpa using h)
end Lv
namespace Lv
open PySem L2
end Lv
namespace Lv
open PySem L2
structure Fil (S:Nat->List (List Int)) (p:Int):Prop where
 lv:Lvs S
 kr:∀ M n,n<=M->kr p M (S n).flatten<=p ^ M
 z:(S 0).flatten.length=1
 one:∀ n,∀ y∈(S (n+1)).flatten,1<=y
structure Bst (S:Nat->List (List Int)) (N:Nat) (r:Int) (q:Int × Nat):Prop where
 lt:q.2<N
 eq:gS S r q.2=some q.1
 le:∀ n v,n<N->gS S r n=some v->q.1<=v
 first:∀ n v,n<q.2->gS S r n=some v->q.1<v
theorem Fil.best {S:Nat->List (List Int)}{p:Int} (F:Fil S p) {r:Int}{N n:Nat} (hN:N<=301) (h1:1<=r) (hn:n<N) (hr:r<=(S n).flatten.length):∃ q,bo (gS S r) (cS S r) N 0 none=some q/\Bst S N r q:=by
 have h:=F.lv.best h1 hN
 cases e:bo (gS S r) (cS S r) N 0 none with
 | none=>
  rw[e] at h;obtain⟨v,ev,_⟩:=F.lv.some (show n<=300 by (clear hr h1;omega)) h1 hr;have:=h n hn;rw[ev] at this;cases this
 | some q=>
  rw[e] at h;exact⟨q,rfl,h.1,h.2.1,h.2.2.1,h.2.2.2⟩
theorem Fil.more {S:Nat->List (List Int)}{p:Int} (F:Fil S p) {r:Int}{N:Nat}{q q':Int × Nat} (hN:N<=301) (h1:1<=r) (a:Bst S N r q) (b:Bst S N (r+1) q'):q.1<q'.1:=by
 have hlt:=b.lt;obtain⟨hr,l⟩:=F.lv.of (show q'.2<=300 by (clear h1;omega)) (by (clear hlt hN;omega)) b.eq;obtain⟨v,ev,l'⟩:=F.lv.some (show q'.2<=300 by (clear hr h1;omega)) h1 (by (clear hlt h1 hN;omega));have h3:=a.le q'.2 v hlt ev;have hn:1<=q'.2:=by
  refine YbM fun z=>?_;have e0:q'.2=0:=by (clear h3 hr hlt h1 hN;omega)
  rw[e0,F.z] at hr
  (clear e0 z h3 hlt hN;omega)
 have h4:=l'.more l fun x hx=>by
  obtain⟨m,hm⟩:∃ m,q'.2=m+1:=⟨q'.2 - 1,by (clear h3 hr hlt h1 hN;omega)⟩
  rw[hm] at hx;exact F.one m x hx
 (clear hn hr hlt h1 hN;omega)
theorem Zlb {A:List Int} (h:∀ y∈A,0<=y):∀ y∈up1 A,1<=y:=fun y hy=>by
 obtain⟨x,hx,rfl⟩:=Yay.mp hy;have:=h x hx;omega
theorem Zem:∀ (N:List (List Int)),(∀ x∈N,∀ y∈x,0<=y)->((∀ x∈N,∀ y∈x,1<=y)∨∃ A R Z,N=A::(R++[Z])/\∀ y∈Z,1<=y)->∀ y∈(Zat N).flatten,1<=y
 | [],_,_,y,hy=>by simp[Zat] at hy
 | [Z],_,h,y,hy=>by
  have hy:y∈Z:=by simpa[Zat] using hy
  rcases h with h | ⟨A,R,Z',e,h⟩
  ·exact h Z Yai y hy
  ·cases R <;> simp at e
 | A::B::r,h0,h,y,hy=>by
  have hA:=Zlb fun y hy=>h0 A Yai y hy;have ih:=Zem (B::r) (fun x hx=>h0 x (Yam _ hx)) (by
   rcases h with h | ⟨A',R,Z,e,h⟩
   ·exact .inl fun x hx=>h x (Yam _ hx)
   ·simp only[List.cons.injEq] at e;obtain⟨rfl,e⟩:=e
    cases R with
    | nil=>
     simp at e;obtain⟨rfl,rfl⟩:=e;exact .inl fun x hx=>by rw[YaN] at hx;subst hx;exact h
    | cons C R=>
     simp at e;obtain⟨rfl,rfl⟩:=e;exact .inr ⟨B,R,Z,rfl,h⟩)
  rw[Zat,Ybd] at hy;rcases Yap.mp hy with h | h
  ·obtain⟨xs,hx,hbx⟩:=Ybh.mp h;obtain⟨ys,hy,rfl⟩:=Yay.mp hx;rcases Yap.mp hbx with h | h
   ·exact hA y h
   ·exact ih y (Ybh.mpr ⟨ys,hy,h⟩)
  ·exact hA y (by simpa using h)
theorem Ziq:∀ (N:List (List Int)),N.flatten≠[]->(Zat N).flatten≠[]
 | [],h=>h
 | [Z],h=>h
 | A::B::r,h=>fun e=>by
  rw[Zat,Ybd,List.append_eq_nil_iff] at e;obtain⟨e1,e2⟩:=e;have hA:A=[]:=by simpa[up1] using e2
  subst hA;have:(Zat (B::r)).map (up1 []++·)=Zat (B::r):=by
   rw[show up1 []=[] from rfl];simp
  rw[this] at e1;exact Ziq (B::r) (by simpa using h) e1
theorem Zbp {p:Nat} (hp:2<=p):Fil (casN p) p:=by
 have h0:∀ n,∀ x∈casN p n,∀ y∈x,0<=y:=fun n x hx y hy=>(ZdR (p:=p) (by omega) n x hx y hy).1
 have hne:∀ n,(casN p n).flatten≠[]:=fun n=>by
  induction n with
  | zero=>simp[casN,num0]
  | succ n ih=>exact Ziq _ ih
 refine⟨⟨fun n=>ZdR (by omega) n,hne,fun n b hb=>ZfH _ b hb⟩,fun M n h=>ZkV hp n h,by simp[casN,num0],fun n=>?_⟩;have hstep:∀ n,((∀ x∈casN p n,∀ y∈x,1<=y)∨∃ A R Z,casN p n=A::(R++[Z])/\∀ y∈Z,1<=y)/\∀ y∈(casN p (n+1)).flatten,1<=y:=fun n=>by
  induction n with
  | zero=>
   have h:(∀ x∈casN p 0,∀ y∈x,1<=y)∨∃ A R Z,casN p 0=A::(R++[Z])/\∀ y∈Z,1<=y:=by
    refine .inr ⟨[0],Yae (p - 2) [],[],?_,by simp⟩;show num0 p=_;unfold num0;rw[show p - 1=(p - 2)+1 by omega,YeD]
   exact⟨h,Zem _ (h0 0) h⟩
  | succ n ih=>
   have h:∀ x∈casN p (n+1),∀ y∈x,1<=y:=fun x hx y hy=>ih.2 y (Ybh.mpr ⟨x,hx,hy⟩);exact⟨.inl h,Zem _ (h0 (n+1)) (.inl h)⟩
 exact (hstep n).2
theorem Zl2 {p:Nat} (hp:2<=p) (h7:p<=7):(1000000000001:Int)<=(casN p 60).flatten.length:=by
 rw[Zi1 (by (clear h7;omega))];rcases (show p=2∨p=3∨p=4∨p=5∨p=6∨p=7 by omega) with rfl | rfl | rfl | rfl | rfl | rfl
 all_goals decide +kernel
end Lv
namespace Lv
open PySem L2
def fst1 (p r:Int):Int:=2+(r - 2) % (p - 1)
structure Od (p r:Nat) (left:List Int) (read:Int) (k x y:Nat) (w e:Int):Prop where
 is:left=Yae x ((p:Int) ^ k)++w::Yae y ((p:Int) ^ (k+1))
 lo:(p:Int) ^ k<=w
 hi:w<=(p:Int) ^ (k+1)
 all:(x:Int)*(p:Int) ^ k+w+(y:Int)*(p:Int) ^ (k+1)=r
 full:∃ j:Nat,x+y=j*(p - 1)
 rd:read=(x:Int)*(p:Int) ^ k*k+(y:Int)*(p:Int) ^ (k+1)*(k+1)+(w*k+e)
 kr:(p:Int)*(w - e)+e+((p:Int) - fst1 p r)=(p:Int) ^ (k+1)
end Lv
namespace Lv
open PySem L2
end Lv
namespace Lv
open PySem L2
def SS (c:Bool) (p:Nat):Nat->List (List Int):=if c then casN p else num p
def BstJ (S:Nat->List (List Int)) (L:Nat) (j:Int) (v:Int):Prop:=(v = -1/\∀ n,n<L->gS S j n=none)∨(0<=v/\(∃ n,n<L/\gS S j n=some v)/\∀ n u,n<L->gS S j n=some u->v<=u)
theorem Lvs.none' {S:Nat->List (List Int)} (L:Lvs S) {n:Nat}{r:Int} (hn:n<=300) (h1:1<=r) (hr:((S n).flatten.length:Int)<r):gS S r n=none:=by
 cases e:gS S r n with
 | none=>rfl
 | some v=>
  have:=(L.of hn h1 e).1
  (clear h1 hn;omega)
structure BestF (S:Nat->List (List Int)) (L most:Nat) (F:List Int):Prop where
 len:F.length=most+1
 at_:∀ j:Nat,1<=j->j<=most->BstJ S L j (F.getD j 0)
end Lv
namespace Lv
open PySem L2
def Zdd:Int:=10000000000000000000000000000000000000000000000000000000000000
def upI:List Int->Bool
 | []=>true
 | [_]=>true
 | a::b::r=>decide (a<=b) && upI (b::r)
inductive El (H:Hp):V->Prop
 | int {z:Int} (h1:-Zdd - 2<z) (h2:z<Zdd+2):El H (.int z)
 | bl (b:Bool):El H (.bl b)
 | non:El H .non
 | str {x:Str} (h:x.length<=400) (hc:∀ c∈x.cps.toList,c<16 ^ 8):El H (.str x)
 | lst {a:Addr}{zs:List Int} (e:H a=some (.lst (zs.map V.int))) (hl:zs.length<=3) (hb:∀ z∈zs,-Zdd - 2<z/\z<Zdd+2):El H (.ref a)
 | tup {a:Addr}{zs:List Int} (e:H a=some (.tup (zs.map V.int))) (hl:zs.length<=3) (hb:∀ z∈zs,-Zdd - 2<z/\z<Zdd+2):El H (.ref a)
inductive Lf (H:Hp):V->Prop
 | non:Lf H .non
 | int (i:Int) (h:i=7):Lf H (.int i)
 | bl (b:Bool):Lf H (.bl b)
 | str (x:Str):Lf H (.str x)
 | d0 {a:Addr} (e:H a=some (.dK [])):Lf H (.ref a)
 | d1 {a:Addr} (e:H a=some (.dK [(.inl 1,.int 2)])):Lf H (.ref a)
structure Sh (d:PyData) (n:Nat):Prop where
 ok:d.showable=true
 nd:d.hasDict=false
 dp:d.depth<=1
 sz:d.shown.length<=n
end Lv
namespace Lv
open PySem L2
def Free (N:List (List Int)) (m:List Nat) (o:Int):Prop:=0<=o/\o<N.length/\m.getD o.toNat 0≠(N.getD o.toNat []).length
instance (N:List (List Int)) (m:List Nat) (o:Int):Decidable (Free N m o):=by unfold Free;infer_instance
def ZnM (m:List Nat) (o:Int):List Nat:=m.set o.toNat (m.getD o.toNat 0+1)
def atO (N:List (List Int)) (m:List Nat) (o:Int):Int:=(N.getD o.toNat []).getD (m.getD o.toNat 0) 0
def hold (N:List (List Int)):List Nat->List Int->List Int->Option (List Nat × List Int)
 | m,t,[]=>some (m,t)
 | m,t,o::os=>if Free N m o then hold N (ZnM m o) (t++[atO N m o]) os else none
def InM (N:List (List Int)) (m:List Nat):Prop:=m.length=N.length/\∀ j,j<N.length->m.getD j 0<=(N.getD j []).length
end Lv
namespace Lv
open PySem L2
def lenN (N:List (List Int)):List Nat:=N.map YdR
def opn (N:List (List Int)) (m:List Nat) (j:Nat):Bool:=decide (m.getD j 0<(N.getD j []).length)
def opnL (N:List (List Int)) (m:List Nat):List Nat:=(Ybi N.length).filter (opn N m)
structure OrS (N:List (List Int)) (m:List Nat) (t os:List Int):Prop where
 hd:hold N (N.map fun _=>0) [] os=some (m,t)
 up:upI t=true
 lst:∀ l,t.getLast?=some l->∀ j∈opnL N m,l<=atO N m j
 inm:InM N m
 sm:m.sum=os.length
end Lv
namespace L2
open PySem PySem.Spec PyProof.Rows PySem.SeqAt
def ItlB (b:Bool) (K:Yac) (a:Addr):It:=match b with | true=>Itl K a | false=>Itt K a
def Zm7 (K:Yac) (tl:TE):TI:=fun σ H R=>tl σ H fun x H1=>∃ a b,x=.ref a/\(∃ xs,SqB b K H1 a xs)/\R (ItlB b K a) H1
theorem Zj1 (K:Yac) {X:Cx}{tg l:Expr}{tl:TE} (hl:PE X l tl) (hK:X.K=K:=by rfl):PI X tg l (Zm7 K tl):=by
 subst hK;intro pins s σ H R I h;refine thn (hl pins s σ H _ I h) fun v s1 ⟨x,H1,I1,r1,q1⟩=>?_;obtain⟨a,b,e,⟨xs,hq⟩,q⟩:=q1;subst e;cases r1;have fp:∀ b∈[s1.heap.objs.size],FpOk X pins H1 b:=fun b hb=>by
  have e:b=s1.heap.objs.size:=by simpa using hb
  subst e;exact I1.fpOk (Yag _) (I1.hok.fresh (Yag _))
 cases b with
 | true=>
  obtain⟨its,rv,p,hz⟩:=I1.list hq;exact wpAny_pyIter_list p.isList ⟨s1.heap.objs.size,[s1.heap.objs.size],_,_,H1,rfl,I1.kept (t':=s1.toks) fun b o e=>Yab _ e,ZeI a _,⟨_,Yav _ rfl,rfl,rfl⟩,fp,q⟩
 | false=>
  obtain⟨its,rv,p,hz⟩:=I1.tuple hq;exact wpAny_pyIter_tuple (show s1.heap.IsTuple a its.toArray from p) ⟨s1.heap.objs.size,[s1.heap.objs.size],_,_,H1,rfl,I1.kept (t':=s1.toks) fun b o e=>Yab _ e,Zdh a _,⟨_,Yav _ rfl,rfl,rfl⟩,fp,q⟩
theorem ZlB {X:Cx}{tg l:Expr}{tl:TE} (hl:PE X l tl):PI X tg l (Zm7 X.K tl):=Zj1 X.K hl
theorem ZlV {b:Bool}{K:Yac}{H:Hp}{a:Addr}{xs:List V}{i:Nat} (q:SqB b K H a xs) (hi:i<xs.length):(ItlB b K a).go i H:=by
 cases b <;> exact⟨xs,xs[i],q,Yaf hi⟩
theorem Zkv {b:Bool}{K:Yac}{H H':Hp}{a:Addr}{xs:List V}{i:Nat}{x:V} (q:SqB b K H a xs) (y:(ItlB b K a).yld i H x H'):H'=H/\xs[i]?=some x:=by
 cases b <;> exact⟨y.1,y.2 xs q⟩
theorem ZiO {b:Bool}{K:Yac}{H:Hp}{a:Addr}{xs:List V}{i:Nat} (q:SqB b K H a xs) (hi:xs.length<=i):(ItlB b K a).stop i H:=by
 cases b <;> exact⟨xs,q,hi⟩
theorem ZiP {b:Bool}{K:Yac}{H:Hp}{a:Addr}{xs:List V}{i:Nat} (q:SqB b K H a xs) (hi:i<xs.length):(IteB b K a).go i H:=by
 cases b <;> exact⟨xs,xs[i],q,Yaf hi⟩
theorem Zgx {b:Bool}{K:Yac}{H H':Hp}{a:Addr}{xs:List V}{i:Nat}{x:V} (q:SqB b K H a xs) (y:(IteB b K a).yld i H x H'):∃ p z,H p=none/\x=.ref p/\H'=upd H p (.tup [.int i,z])/\xs[i]?=some z:=by
 cases b with
 | true=>obtain⟨p,z,hp,e1,e2,y⟩:=y;exact⟨p,z,hp,e1,e2,y xs q⟩
 | false=>obtain⟨p,z,hp,e1,e2,y⟩:=y;exact⟨p,z,hp,e1,e2,y xs q⟩
theorem Ze6 {b:Bool}{K:Yac}{H:Hp}{a:Addr}{xs:List V}{i:Nat} (q:SqB b K H a xs) (hi:xs.length<=i):(IteB b K a).stop i H:=by
 cases b <;> exact⟨xs,q,hi⟩
section
variable {b:Bool}{K:Yac}{own:List Str}{js:List Nat}{g1 g2 g:TG}{tt1 tt2 tt:TT}{wi2:TI}{te:TE}{σ τ:St}{H1 H6:Hp}{Q:VK}{a acc:Addr}{xs:List V}
theorem ZfW (Pv:Addr->Nat->Hp->Prop) (h0:∀ acc,H1 acc=none->Pv acc 0 (upd H1 acc (.lst []))) (hl:∀ acc i H,H1 acc=none->i<=xs.length->Pv acc i H->SqB b K H a xs)
  (hs:∀ acc i x p H,H1 acc=none->xs[i]?=some x->Pv acc i H->H p=none->g1 (.ref p) (blkσ own js σ) (upd H p (.tup [.int i,x])) fun τ H4=>tt1 τ H4 fun c H5=>
   if c=true then wi2 τ H5 fun J2 H6=>tInW g2 tt2 te τ acc J2 H6 (fun H7=>i+1<=xs.length/\Pv acc (i+1) H7) else (i+1<=xs.length/\Pv acc (i+1) H5))
  (hd:∀ acc H,H1 acc=none->Pv acc xs.length H->Q (.ref acc) H):Zfv own js g1 tt1 wi2 g2 tt2 te σ (IteB b K a) H1 Q:=by
 intro acc hacc;refine⟨fun i H=>i<=xs.length/\Pv acc i H,xs.length,⟨YaV _,h0 acc hacc⟩,?_⟩;rintro i H ⟨hi,p⟩;have q:=hl acc i H hacc hi p;rcases YbD i xs.length with hlt | hge
 ·refine .inr ⟨hlt,ZiP q hlt,fun x H' y=>?_⟩;obtain⟨pa,z,hp,rfl,rfl,hx⟩:=Zgx q y;exact hs acc i z pa H hacc hx p hp
 ·obtain rfl:i=xs.length:=by omega
  exact .inl ⟨Ze6 q (Yag _),hd acc H hacc p⟩
theorem Zkz {tb:TS}{D:Ends}{H:Hp} (Pv:Nat->St->Hp->Prop) (h0:Pv 0 σ H) (hl:∀ i σ H,i<=xs.length->Pv i σ H->SqB b K H a xs)
  (hs:∀ i x σ H,xs[i]?=some x->Pv i σ H->g x σ H fun σ2 H2=>tb { D with nx:=Pv (i+1),ct:=Pv (i+1),bk:=D.nx } σ2 H2) (hd:∀ σ H,Pv xs.length σ H->D.nx σ H) :
  ∃ W:Nat->Nat->St->Hp->Prop,(∃ m,W 0 m σ H)/\∀ i m σ H,W i m σ H ->
   ((ItlB b K a).stop i H/\D.nx σ H)∨((ItlB b K a).go i H/\∃ N:St->Hp->Prop,(∀ σ' H',N σ' H'->∃ m',m'<m/\W (i+1) m' σ' H')/\∀ x H',(ItlB b K a).yld i H x H'->g x σ H' fun σ2 H2=>tb { D with nx:=N,ct:=N,bk:=D.nx } σ2 H2):=by
 refine⟨fun i m σ H=>m=xs.length - i/\i<=xs.length/\Pv i σ H,⟨xs.length,by simp,YaV _,h0⟩,?_⟩;rintro i m σ H ⟨rfl,hi,p⟩;have q:=hl i σ H hi p;rcases YbD i xs.length with hlt | hge
 ·refine .inr ⟨ZlV q hlt,Pv (i+1),fun σ' H' z=>⟨xs.length - (i+1),by (clear hi;omega),rfl,hlt,z⟩,fun x H' y=>?_⟩;obtain⟨rfl,hx⟩:=Zkv q y;exact hs i x σ _ hx p
 ·obtain rfl:i=xs.length:=by omega
  exact .inl ⟨ZiO q (Yag _),hd σ H p⟩
end
end L2
namespace Lv
open PySem L2
def prs:Nat->List (List Int)->List Nat->List (Int × Nat)
 | k,x::N,m::ms=>(x.drop m).map (fun z=>(z,k))++prs (k+1) N ms
 | _,_,_=>[]
def ZmZ (p q:Int × Nat):Prop:=p.1<q.1∨(p.1=q.1/\p.2<=q.2)
structure MgS (N:List (List Int)) (m:List Nat) (tk:List (Int × Nat)):Prop where
 inm:InM N m
 perm:(tk++prs 0 N m).Perm (prs 0 N (N.map fun _=>0))
 srt:tk.Pairwise ZmZ
 le:∀ p∈tk,∀ q∈prs 0 N m,ZmZ p q
 sm:m.sum=tk.length
def SeqI (H:Hp) (r:Addr) (xs:List V):Prop:=H r=some (.lst xs)∨H r=some (.tup xs)
structure RwS (H:Hp) (a:Addr) (rs:List Addr) (N:List (List Int)):Prop where
 top:SeqI H a (rs.map V.ref)
 len:rs.length=N.length
 row:∀ (j:Nat) r xs,rs[j]?=some r->N[j]?=some xs->SeqI H r (xs.map V.int)
theorem Zct {qs:List Addr}{i:Nat}{x:V} (h:(qs.map V.ref)[i]?=some x):∃ p,qs[i]?=some p/\x=.ref p:=by
 rw[Yas] at h
 cases e:qs[i]? with
 | none=>rw[e] at h;cases h
 | some p=>rw[e] at h;exact⟨p,rfl,(Yaw h).symm⟩
structure GoodT (N:List (List Int)):Prop where
 many:N.length<=12
 tot:(lenN N).sum<=400
 bnd:∀ xs∈N,∀ z∈xs,-Zdd<z/\z<Zdd
 srt:∀ xs∈N,xs.Pairwise (·<=·)
structure GoodB (b:Nat) (N:List (List Int)):Prop where
 len:∀ xs∈N,xs.length<=b
 bnd:∀ xs∈N,∀ z∈xs,-Zdd<z/\z<Zdd
 srt:∀ xs∈N,xs.Pairwise (·<=·)
end Lv
namespace L2
open PySem PySem.Spec PyProof.Rows PySem.SeqAt
section
variable {X:Cx}{scope:Scope}{own:List Str}{js fr:List Nat}{elt i1 t1 i2 t2:Expr}{f1 f2:List Expr}{wi wi2:TI}{g1 g2:TG}{tt1 tt2:TT}{te:TE}{pos:Pos}
theorem ZjU {i:Nat}{y:Str}{py spos:Pos} (hN:X.N.Nodup) (hy:X.N[i]?=some y) (hyl:X.env.scope.names.lookup y=some .local) (c:CompOk X scope own js) (hc:X.calm=true) (hi:PI X t1 i1 wi) (hgk:Zjw own fr g1) (hgt:ZgP fr g2)
  (hg:∀ s H C fp pins,PG (X.blk scope own js s H C fp pins) t1 g1) (ht:∀ s H C fp pins,PTs (X.blk scope own js s H C fp pins) f1 tt1) (hi2:∀ s H C fp pins,PI (X.blk scope own js s H C fp pins) t2 i2 wi2)
  (hg2:∀ s H C fp pins,PG (X.blk scope own js s H C fp pins) t2 g2) (ht2:∀ s H C fp pins,PTs (X.blk scope own js s H C fp pins) f2 tt2) (he:∀ s H C fp pins,PE (X.blk scope own js s H C fp pins) elt te)
  (hsw:swapsWith (two elt t1 i1 f1 t2 i2 f2 scope pos) (some (.Name y py)) spos.line X.env=pure true:=by rfl)
  (hs:∀ x,foldedSetIterable i1 X.env x=pure x:=by intro _;rfl) (hs2:∀ env x,foldedSetIterable i2 env x=pure x:=by intro _ _;rfl):PS X (.Assign [.Name y py] (two elt t1 i1 f1 t2 i2 f2 scope pos) spos) (tAsg (Zmp own js wi g1 tt1 wi2 g2 tt2 te) (Zbc i)):=by
 intro pins s σ H D I h;rw[exec_Assign_Name_used _ _ _ _ hsw];refine wpAny_bind (wpAny_standAt (wpAny_bind ?_));show wpAny _ X.A (do let _ <- comprehension (two elt t1 i1 f1 t2 i2 f2 scope pos) scope X.env _ (newList []) false (eval i1 X.env) (some (assign (.Name y py) X.env))) _ _ s;refine wpAny_bind (wpAny_mono (wpAny_comprehension_free (use:=some (assign (.Name y py) X.env)) (Q:=fun _ s'=>SP X pins D .next s') rfl hs (ZbC (c.cl I)) c.kind c.names
  (thn (hi pins s σ H _ I h) fun v s1 h1=>thn h1 fun itv s2 h2=>?_)) (fun _ s' hq=>wpAny_pure (wpAny_pure hq)) fun _ _ e=>e)
 obtain⟨it,fp,tn,J,H2,e,I2,T,st2,f2',hw⟩:=h2;subst e;refine ZkG (Q:=fun x H1=>Zbc i x σ H1 D.nx) (RR:=fun acc C=>compPost (model X.prog X.w) X.A X.xe (some (assign (.Name y py) X.env)) (fun _ s'=>SP X pins D .next s') acc C) c hc hgk hgt hg ht hi2 hg2 ht2 he hs2 I2 T st2 f2' hw ?_;intro acc C H' s' m hCs hCn I' hn q;have hL:C≠X.env.locals:=Yby (Yak I2.lt hCs);have hcell:∀ x a,X.env.cells.lookup x=some a->a≠C:=by
  intro x a e z;obtain⟨v,q⟩:=I2.cell x a e;exact absurd (Yak q.lt (by rw[z];exact hCs)) (Ybb _)
 refine wpAny_assign_Name (ZcM I' hN hy (.inl hyl) (v:=.ref acc) rfl (fun s2 I'' hch=>?_) (.inr hyl));obtain⟨a,sb,ha⟩:=hch;have hCa:C≠a:=by
  rcases ha with rfl | ha
  ·exact hL
  ·exact Yba (hcell _ _ ha)
 refine⟨m,hn.sameBut sb hCa,fun h' hs'=>⟨_,H',I''.other hs' hCn hL (Ybt I2.sz hCs) hcell ?_,q⟩⟩;intro p hp z;exact absurd (Yak (Yah (I2.pin p hp).1) (by rw[z];exact hCs)) (Ybb _)
end
end L2
namespace L2
open PySem PySem.Spec PyProof.Rows PySem.SeqAt
theorem Zh0 (K:Yac) {X:Cx}{es:List Expr}{x1}{tpos:Pos}{e:Expr}{ta:TA}{p pos:Pos} (hg:Gl X "enumerate") (hm:X.mg "enumerate"=none) (ha:PA X [e] ta) (hK:X.K=K:=by rfl) (hs:starEach [e] X.env=[(false,eval e X.env)]:=by rfl) :
  PI X (.Tuple es x1 tpos) (.Call (.Name "enumerate" p) [e] [] pos) (ZkZ K ta):=by subst hK;exact ZcE hg hm ha hs
section
variable {b:Bool}{K:Yac}{g2:TG}{tt2:TT}{te:TE}{τ:St}{H6:Hp}{a acc:Addr}{xs:List V}
theorem Zkx {Z:Hp->Prop} (W2:Nat->Hp->Prop) (h0:W2 0 H6) (hl:∀ i H,i<=xs.length->W2 i H->SqB b K H a xs)
  (hs:∀ i x p H,xs[i]?=some x->W2 i H->H p=none->g2 (.ref p) τ (upd H p (.tup [.int i,x])) fun τ2 H9=>tt2 τ2 H9 fun c H10=>
   if c=true then te τ2 H10 fun z H11=>∃ zs,H11 acc=some (.lst zs)/\zs.length<sizeLine/\(i+1<=xs.length/\W2 (i+1) (upd H11 acc (.lst (zs++[z])))) else (i+1<=xs.length/\W2 (i+1) H10))
  (hd:∀ H,W2 xs.length H->Z H):tInW g2 tt2 te τ acc (IteB b K a) H6 Z:=by
 refine⟨fun i H=>i<=xs.length/\W2 i H,xs.length,⟨YaV _,h0⟩,?_⟩;rintro i H ⟨hi,p⟩;have q:=hl i H hi p;rcases YbD i xs.length with hlt | hge
 ·refine .inr ⟨hlt,ZiP q hlt,fun x H' y=>?_⟩;obtain⟨pa,z,hp,rfl,rfl,hx⟩:=Zgx q y;exact hs i z pa H hx p hp
 ·obtain rfl:i=xs.length:=by omega
  exact .inl ⟨Ze6 q (Yag _),hd H p⟩
end
end L2
namespace Lv
open PySem L2
def intW:V->Int
 | .int i=>i
 | _=>0
def kf (H:Hp) (p:Addr):List Int:=match H p with
 | some (.tup vs)=>vs.map intW
 | _=>[]
theorem ZfN {H:Hp}{p:Addr}{k:List Int} (h:H p=some (.tup (k.map V.int))):kf H p=k:=by
 unfold kf;rw[h];show (k.map V.int).map intW=k;rw[Yct];exact (YbK fun _ _=>rfl).trans (YdP k)
def TuM (H:Hp) (ps:List Addr) (ks:List (List Int)):Prop:=(∀ p∈ps,∃ k:List Int,k≠[]/\H p=some (.tup (k.map V.int)))/\ps.map (kf H)=ks
theorem TuM.nil {H:Hp}:TuM H [] []:=⟨fun p hp=>(nomatch hp),rfl⟩
theorem TuM.keep {H H':Hp}{ps:List Addr}{ks:List (List Int)} (h:TuM H ps ks) (k:∀ p∈ps,H' p=H p):TuM H' ps ks:=by
 refine⟨fun p hp=>by rw[k p hp];exact h.1 p hp,?_⟩;rw[<- h.2];refine YbK fun p hp=>?_;unfold kf;rw[k p hp]
theorem TuM.same {H H':Hp}{ps:List Addr}{ks:List (List Int)} (h:TuM H ps ks) (s:Same H H'):TuM H' ps ks:=h.keep fun p hp=>by
 obtain⟨k,_,e⟩:=h.1 p hp;rw[e,s _ _ e]
theorem TuM.snoc {H:Hp}{ps:List Addr}{ks:List (List Int)}{p:Addr}{k:List Int} (h:TuM H ps ks) (e:H p=some (.tup (k.map V.int))) (hk:k≠[]):TuM H (ps++[p]) (ks++[k]):=by
 refine⟨fun q hq=>?_,by rw[YaU,h.2,YaD,Ycl,ZfN e]⟩;rcases Yap.mp hq with hq | hq
 ·exact h.1 q hq
 ·rw[YaN.mp hq];exact⟨k,hk,e⟩
theorem TuM.at {H:Hp}{ps:List Addr}{ks:List (List Int)} (h:TuM H ps ks) {j:Nat}{p:Addr} (e:ps[j]?=some p):∃ k,ks[j]?=some k/\H p=some (.tup (k.map V.int)):=by
 obtain⟨k,_,e2⟩:=h.1 p (YaE e);exact⟨k,by rw[<- h.2,Yas,e,YcB,ZfN e2],e2⟩
theorem TuM.len {H:Hp}{ps:List Addr}{ks:List (List Int)} (h:TuM H ps ks):ps.length=ks.length:=by rw[<- h.2,Yad]
def Zcb (k:Nat) (xs:List Int):List (List Int):=xs.mapIdx fun j z=>[z,(k:Int),(j:Int)]
def trip:Nat->List (List Int)->List (List Int)
 | _,[]=>[]
 | k,xs::N=>Zcb k xs++trip (k+1) N
theorem ZgT {k:Nat}{xs:List Int}{j:Nat}{z:Int} (h:xs[j]?=some z):Zcb k (xs.take (j+1))=Zcb k (xs.take j)++[[z,(k:Int),(j:Int)]]:=by
 have hl:=(Yaa.mp h).1
 unfold Zcb;rw[Ybn,h,Yb2,YeT];simp[YaA,Yb9 (Ya8 hl)]
theorem ZeJ:∀ (N:List (List Int)) (k:Nat) (xs:List Int),trip k (N++[xs])=trip k N++Zcb (k+N.length) xs
 | [],k,xs=>by simp[trip]
 | y::N,k,xs=>by rw[Ybx,trip,ZeJ N (k+1) xs,trip,YaG,YaH,show k+1+N.length=k+(N.length+1) by omega]
theorem ZhB {N:List (List Int)}{i:Nat}{xs:List Int} (h:N[i]?=some xs):trip 0 (N.take (i+1))=trip 0 (N.take i)++Zcb i xs:=by
 have hl:=(Yaa.mp h).1
 rw[Ybn,h,Yb2,ZeJ,YaA,Yb9 (Ya8 hl),YbG]
theorem ZeK (k:Nat) (xs:List Int):(Zcb k xs).length=xs.length:=by unfold Zcb;simp
theorem ZbW:∀ (N:List (List Int)) (k:Nat),(trip k N).length=N.flatten.length
 | [],_=>rfl
 | xs::N,k=>by rw[trip,Yaj,ZeK,ZbW N,YaF,Yaj]
theorem Zf8:∀ (N:List (List Int)) (k:Nat),(trip k N).map (fun t=>t.getD 0 0)=N.flatten
 | [],_=>rfl
 | xs::N,k=>by
  rw[trip,YaU,Zf8 N,YaF];congr 1;unfold Zcb;exact Ycg (by simp) fun i h1 h2=>by simp
def Zbu:Sp:=fun vs H Q _=>∃ (a:Addr) (rs:List Addr) (N:List (List Int)),vs=[.ref a]/\H a=some (.tup (rs.map V.ref))/\TTs H rs N/\N.length<=7/\∀ H',Same H H'->Q (.int (N.flatten.length:Int)) H'
def Zd6:Sp:=fun vs H Q _=>∃ (a:Addr) (rs:List Addr) (N:List (List Int)) (m:Nat),vs=[.ref a,.int m]/\H a=some (.tup (rs.map V.ref))/\TTs H rs N/\N.length<=7/\N.flatten.length<=100000 /\
 ∀ (l:Addr) (qs:List Addr) (ks:List (List Int)) H',H l=none->H' l=some (.lst ((qs.take m).map V.ref))->TuM H' qs ks->ks.Perm (trip 0 N)->ks.Pairwise (fun p q=>lxB q p=false)->Same H H'->Q (.ref l) H'
end Lv
namespace L2
open PySem PySem.Spec PyProof.Rows PySem.SeqAt
theorem Zhk {K:Yac}{own:List Str}{i k m:Nat} (hi:i<own.length:=by decide) (hk:k<own.length:=by decide) (hm:m<own.length:=by decide):Zfn own (gTup K 2 (Zc0 (Zbc i) (Zc0 (gTup K 2 (Zc0 (Zbc k) (Zc0 (Zbc m) gNil))) gNil))):=fun js σ x H Q h=>by
 obtain⟨a,xs,rfl,hq,hl,v,r,rfl,w,r',rfl,⟨b,ys,rfl,hq2,hl2,v2,r2,rfl,w2,r3,rfl,e2,e,h⟩⟩:=h;refine⟨a,_,rfl,hq,hl,v,_,rfl,_,r',rfl,⟨b,_,rfl,hq2,hl2,v2,_,rfl,w2,r3,rfl,e2,e,fun j z e=>?_,h⟩⟩;have hj:j≠i:=by rintro rfl;exact ZaT hi e
 have hj':j≠k:=by rintro rfl;exact ZaT hk e
 have hj3:j≠m:=by rintro rfl;exact ZaT hm e
 rw[YaX (Yba hj3),YaX (Yba hj'),YaX (Yba hj)];exact e
theorem Zgw (K:Yac) {X:Cx} (hK:X.K=K:=by rfl):IxR X (rIxT K):=by subst hK;exact Za9
end L2
namespace Lv
open PySem L2
def numV (N:List (List Int)) (k:List Int):Int:=(N.getD (k.getD 0 0).toNat []).getD (k.getD 1 0).toNat 0
def InN (N:List (List Int)) (k:List Int):Prop:=∃ (r p:Nat) (xs:List Int),k=[(r:Int),(p:Int)]/\N[r]?=some xs/\p<xs.length
def ZbD (N:List (List Int)) (ls:List Int) (ks:List (List Int)):List Int:=YbU (fun l k=>l*numV N k) ls ks
theorem Zg7 {N:List (List Int)}{ls:List Int}{ks:List (List Int)}{i:Nat}{l:Int}{k:List Int} (h1:ls[i]?=some l) (h2:ks[i]?=some k):ZbD N (ls.take (i+1)) (ks.take (i+1))=ZbD N (ls.take i) (ks.take i)++[l*numV N k]:=by
 have a:=(Yaa.mp h1).1
 have b:=(Yaa.mp h2).1
 unfold ZbD;rw[Ybn,h1,Ybn,h2,Yb2,Yb2,List.zipWith_append (by rw[YaA,YaA];omega)];rfl
def Zd0 (K:Yac):Sp:=fun vs H Q _=>∃ (a ll pl:Addr) (b:Bool) (rs qs:List Addr) (N:List (List Int)) (ls:List Int) (ks:List (List Int)),vs=[.ref a,.ref ll,.ref pl]/\H a=some (.tup (rs.map V.ref))/\TTs H rs N/\SqB b K H ll (ls.map V.int)/\H pl=some (.lst (qs.map V.ref))/\TuM H qs ks/\(∀ k∈ks,InN N k)/\ls.length=ks.length/\ls.length<=100000 /\
 (∀ l∈ls,Ya2 l<=8000)/\(∀ xs∈N,∀ z∈xs,Ya2 z<=8000)/\∀ H',Same H H'->Q (.int (ZbD N ls ks).sum) H'
end Lv
namespace L2
open PySem PySem.Spec PyProof.Rows PySem.SeqAt
theorem Zl1 {b1 b2:Bool}{K:Yac}{a b:Addr}{xs ys:List V}{g:TG}{tb:TS}{D:Ends}{σ:St}{H:Hp} (hlen:xs.length<=ys.length) (Pv:Nat->St->Hp->Prop) (h0:Pv 0 σ H)
  (hl:∀ i σ H,i<=xs.length->Pv i σ H->SqB b1 K H a xs/\SqB b2 K H b ys)
  (hs:∀ i x y p σ H,xs[i]?=some x->ys[i]?=some y->Pv i σ H->H p=none->g (.ref p) σ (upd H p (.tup [x,y])) fun σ2 H2=>tb { D with nx:=Pv (i+1),ct:=Pv (i+1),bk:=D.nx } σ2 H2) (hd:∀ σ H,Pv xs.length σ H->D.nx σ H) :
  ∃ W:Nat->Nat->St->Hp->Prop,(∃ m,W 0 m σ H)/\∀ i m σ H,W i m σ H ->
   ((ItzB b1 b2 K a b).stop i H/\D.nx σ H)∨((ItzB b1 b2 K a b).go i H/\∃ N:St->Hp->Prop,(∀ σ' H',N σ' H'->∃ m',m'<m/\W (i+1) m' σ' H')/\∀ x H',(ItzB b1 b2 K a b).yld i H x H'->g x σ H' fun σ2 H2=>tb { D with nx:=N,ct:=N,bk:=D.nx } σ2 H2):=by
 refine⟨fun i m σ H=>m=xs.length - i/\i<=xs.length/\Pv i σ H,⟨xs.length,by simp,YaV _,h0⟩,?_⟩;rintro i m σ H ⟨rfl,hi,p⟩;obtain⟨q1,q2⟩:=hl i σ H hi p;by_cases hlt:i<xs.length
 ·have gx:xs[i]?=some xs[i]:=Yaf hlt;have gy:ys[i]?=some ys[i]:=Yaf (by (clear hi;omega));refine .inr ⟨⟨xs,ys,xs[i],ys[i],q1,q2,gx,gy⟩,Pv (i+1),fun σ' H' z=>⟨xs.length - (i+1),by (clear hi;omega),rfl,hlt,z⟩,fun x H' y=>?_⟩;obtain⟨pa,z,z',hp,e1,e2,y1,y2⟩:=y;subst e1 e2;exact hs i z z' pa σ H (y1 xs q1) (y2 ys q2) p hp
 ·obtain rfl:i=xs.length:=by (clear hlen;omega)
  exact .inl ⟨⟨xs,ys,q1,q2,.inl (Yag _)⟩,hd σ H p⟩
end L2
namespace Lv
open PySem L2
def prL (ls:List Int):List (List Int):=ls.mapIdx fun j l=>[-l,(j:Int)]
theorem ZjX {ls:List Int}{j:Nat}{l:Int} (h:ls[j]?=some l):prL (ls.take (j+1))=prL (ls.take j)++[[-l,(j:Int)]]:=by
 have hl:=(Yaa.mp h).1
 unfold prL;rw[Ybn,h,Yb2,YeT];simp[YaA,Yb9 (Ya8 hl)]
theorem Zcn (ls:List Int):(prL ls).length=ls.length:=by unfold prL;simp
theorem ZkQ {ls:List Int}{j:Nat}{l:Int} (h:ls[j]?=some l):(prL ls)[j]?=some [-l,(j:Int)]:=by
 unfold prL;rw[Ydf,h];rfl
theorem Zeg {ls:List Int}{f:List Int} (h:f∈prL ls):∃ (j:Nat) (l:Int),f=[-l,(j:Int)]/\ls[j]?=some l:=by
 obtain⟨j,hj⟩:=Ycs.mp h;unfold prL at hj;rw[Ydf] at hj
 cases e:ls[j]? with
 | none=>rw[e] at hj;cases hj
 | some l=>rw[e] at hj;cases hj;exact⟨j,l,rfl,e⟩
theorem ZhC {k:Nat}{xs f:List Int} (h:f∈Zcb k xs):∃ (j:Nat) (z:Int),f=[z,(k:Int),(j:Int)]/\xs[j]?=some z:=by
 obtain⟨j,hj⟩:=Ycs.mp h;unfold Zcb at hj;rw[Ydf] at hj
 cases e:xs[j]? with
 | none=>rw[e] at hj;cases hj
 | some l=>rw[e] at hj;cases hj;exact⟨j,l,rfl,e⟩
theorem Zbt:∀ {N:List (List Int)}{k:Nat}{f:List Int},f∈trip k N->∃ (r j:Nat) (z:Int) (xs:List Int),f=[z,((k+r:Nat):Int),(j:Int)]/\N[r]?=some xs/\xs[j]?=some z
 | [],_,_,h=>nomatch h
 | ys::N,k,f,h=>by
  rw[trip] at h;rcases Yap.mp h with h | h
  ·obtain⟨j,z,e,hz⟩:=ZhC h;exact⟨0,j,z,ys,e,rfl,hz⟩
  ·obtain⟨r,j,z,xs,e,hx,hz⟩:=Zbt h;exact⟨r+1,j,z,xs,by rw[e,show k+1+r=k+(r+1) by omega],hx,hz⟩
theorem Zg5 {ls:List Int}{lf:List (List Int)} (h:lf.Perm (prL ls)):(lf.map fun f=>f.getD 1 0).Nodup:=by
 refine ((h.map _).nodup_iff).mpr ?_;have e:(prL ls).map (fun f=>f.getD 1 0)=(Ybi ls.length).map fun (j:Nat)=>(j:Int):=by
  unfold prL;exact Ycg (by simp) fun i h1 h2=>by simp
 rw[e];refine Ybc.mpr (List.nodup_range.imp fun {a b} hab=>?_);omega
theorem Zjs {H:Hp}{N:List (List Int)}:∀ {vs:List V},(∀ (j:Nat),j<vs.length->∃ (q:Addr) (k:List Int),vs[j]?=some (.ref q)/\H q=some (.tup (k.map V.int))/\InN N k)->∃ (qs:List Addr) (ks:List (List Int)),vs=qs.map V.ref/\TuM H qs ks/\∀ k∈ks,InN N k
 | [],_=>⟨[],[],rfl,TuM.nil,fun k hk=>nomatch hk⟩
 | v::vs,h=>by
  obtain⟨qs,ks,e1,e2,e3⟩:=Zjs (vs:=vs) fun j hj=>h (j+1) (by simpa using hj);obtain⟨q,k,a1,a2,a3⟩:=h 0 (by simp);have a1:v=.ref q:=by simpa using a1
  have hk:k≠[]:=by obtain⟨r,p,xs,e,_⟩:=a3;rw[e];simp
  refine⟨q::qs,k::ks,by rw[a1,e1];rfl,⟨fun p hp=>?_,by rw[YaD,e2.2,ZfN a2]⟩,fun k' hk'=>?_⟩
  ·rcases Yau.mp hp with rfl | hp
   ·exact⟨k,hk,a2⟩
   ·exact e2.1 p hp
  ·rcases Yau.mp hk' with rfl | hk'
   ·exact a3
   ·exact e3 k' hk'
def Zjt (ls:List Int) (N:List (List Int)) (ks lf lp:List (List Int)):Prop:=ks.length=ls.length/\lf.Perm (prL ls)/\lf.Pairwise (fun p q=>lxB q p=false)/\lp.Perm (trip 0 N)/\lp.Pairwise (fun p q=>lxB q p=false) /\
 ∀ (t:Nat) f p,lf[t]?=some f->lp[t]?=some p->ks[(f.getD 1 0).toNat]?=some [p.getD 1 0,p.getD 2 0]
def ZcO (K:Yac):Sp:=fun vs H Q _=>∃ (a ll:Addr) (b:Bool) (rs:List Addr) (N:List (List Int)) (ls:List Int),vs=[.ref a,.ref ll]/\H a=some (.tup (rs.map V.ref))/\TTs H rs N/\N.length<=7/\N.flatten.length<=100000/\SqB b K H ll (ls.map V.int)/\ls.length<=N.flatten.length /\
 (∀ l∈ls,Ya2 l<=8000)/\(∀ xs∈N,∀ z∈xs,Ya2 z<=8000) /\
 ∀ (t pl:Addr) (qs:List Addr) (ks lf lp:List (List Int)) H',H t=none->H' t=some (.tup [.int (ZbD N ls ks).sum,.ref pl])->H pl=none->H' pl=some (.lst (qs.map V.ref))->TuM H' qs ks->(∀ k∈ks,InN N k)->Zjt ls N ks lf lp->Same H H'->Q (.ref t) H'
end Lv
namespace Lv
open PySem L2
def LvsT (H:Hp) (as:List Addr) (L:List (List (List Int))):Prop:=as.length=L.length/\∀ (j:Nat) q N,as[j]?=some q->L[j]?=some N->∃ rs:List Addr,H q=some (.tup (rs.map V.ref))/\TTs H rs N
theorem LvsT.same {H H':Hp}{as:List Addr}{L:List (List (List Int))} (h:LvsT H as L) (s:Same H H'):LvsT H' as L:=⟨h.1,fun j q N a b=>by obtain⟨rs,e1,e2⟩:=h.2 j q N a b;exact⟨rs,s _ _ e1,e2.same s⟩⟩
def Zc8 (ls:List Int) (N:List (List Int)) (R:Int):Prop:=∃ ks lf lp:List (List Int),Zjt ls N ks lf lp/\(∀ k∈ks,InN N k)/\R=(ZbD N ls ks).sum
def Fit (ls:List Int) (N:List (List Int)):Prop:=ls.length<=N.flatten.length
def BestOf (ls:List Int) (L:List (List (List Int))) (m:Nat):Option (Int × Nat)->Prop
 | none=>∀ j N,j<m->L[j]?=some N->¬ Fit ls N
 | some (R,n)=>n<m/\(∃ N,L[n]?=some N/\Fit ls N/\Zc8 ls N R)/\∀ j N,j<m->L[j]?=some N->Fit ls N->∃ R',Zc8 ls N R'/\R<=R'/\(j<n->R<R')
theorem BestOf.skip {ls:List Int}{L:List (List (List Int))}{m:Nat}{N:List (List Int)}{o:Option (Int × Nat)} (h:BestOf ls L m o) (e:L[m]?=some N) (hn:¬ Fit ls N):BestOf ls L (m+1) o:=by
 match o,h with
 | none,h=>
  intro j N' hj e' hf;by_cases ej:j=m
  ·subst ej;rw[e] at e';cases e';exact hn hf
  ·exact h j N' (by (clear hn;omega)) e' hf
 | some (R,n),⟨h1,h2,h3⟩=>
  refine⟨by (clear hn;omega),h2,fun j N' hj e' hf=>?_⟩;by_cases ej:j=m
  ·subst ej;rw[e] at e';cases e';exact absurd hf hn
  ·exact h3 j N' (by (clear h1 hn;omega)) e' hf
theorem BestOf.first {ls:List Int}{L:List (List (List Int))}{m:Nat}{N:List (List Int)}{R:Int} (h:BestOf ls L m none) (e:L[m]?=some N) (hf:Fit ls N) (hr:Zc8 ls N R):BestOf ls L (m+1) (some (R,m)):=by
 refine⟨by omega,⟨N,e,hf,hr⟩,fun j N' hj e' hf'=>?_⟩;by_cases ej:j=m
 ·subst ej;rw[e] at e';cases e';exact⟨R,hr,Ya6 _,fun z=>absurd z (Ybb _)⟩
 ·exact absurd hf' (h j N' (by omega) e')
theorem BestOf.better {ls:List Int}{L:List (List (List Int))}{m n:Nat}{N:List (List Int)}{R R':Int} (h:BestOf ls L m (some (R',n))) (e:L[m]?=some N) (hf:Fit ls N) (hr:Zc8 ls N R) (hlt:R<R'):BestOf ls L (m+1) (some (R,m)):=by
 obtain⟨h1,h2,h3⟩:=h;refine⟨by (clear h1 hlt;omega),⟨N,e,hf,hr⟩,fun j N' hj e' hf'=>?_⟩;by_cases ej:j=m
 ·subst ej;rw[e] at e';cases e';exact⟨R,hr,Ya6 _,fun z=>absurd z (Ybb _)⟩
 ·obtain⟨R2,a,b,_⟩:=h3 j N' (by (clear h1 hlt;omega)) e' hf';exact⟨R2,a,by (clear ej hj h1;omega),fun _=>by (clear ej hj h1;omega)⟩
theorem BestOf.worse {ls:List Int}{L:List (List (List Int))}{m n:Nat}{N:List (List Int)}{R R':Int} (h:BestOf ls L m (some (R',n))) (e:L[m]?=some N) (hf:Fit ls N) (hr:Zc8 ls N R) (hge:¬ R<R'):BestOf ls L (m+1) (some (R',n)):=by
 obtain⟨h1,h2,h3⟩:=h;refine⟨by (clear hge;omega),h2,fun j N' hj e' hf'=>?_⟩;by_cases ej:j=m
 ·subst ej;rw[e] at e';cases e';exact⟨R,hr,by (clear hj h1;omega),fun z=>absurd z (by (clear z hj hge;omega))⟩
 ·exact h3 j N' (by (clear h1 hge;omega)) e' hf'
def BestV (H:Hp):Option (Int × Nat)->V->Prop
 | none,v=>v=.non
 | some (R,n),v=>∃ t pl:Addr,v=.ref t/\H t=some (.tup [.int R,.int (n:Int),.ref pl])
theorem BestV.same {H H':Hp}{o:Option (Int × Nat)}{v:V} (h:BestV H o v) (s:Same H H'):BestV H' o v:=by
 match o,h with
 | none,h=>exact h
 | some (R,n),⟨t,pl,e,q⟩=>exact⟨t,pl,e,s _ _ q⟩
def Zd8 (K:Yac):Sp:=fun vs H Q _=>∃ (lv ll:Addr) (b:Bool) (as:List Addr) (L:List (List (List Int))) (ls:List Int),vs=[.ref lv,.ref ll]/\H lv=some (.lst (as.map V.ref))/\LvsT H as L/\SqB b K H ll (ls.map V.int) /\
 (∀ N∈L,N.length<=7/\N.flatten.length<=100000/\∀ xs∈N,∀ z∈xs,Ya2 z<=8000)/\(∀ l∈ls,Ya2 l<=8000)/\∀ (o:Option (Int × Nat)) (v:V) H',BestOf ls L L.length o->BestV H' o v->Same H H'->Q v H'
end Lv
namespace Lv
open PySem L2
theorem Zb6 (N:List (List Int)):(N.flatten.length:Int)=(ZaN N).sum:=by
 unfold ZaN
 induction N with
 | nil=>rfl
 | cons xs N ih=>rw[YaF,Yaj,YaD,Yaz,<- ih];(clear ih;omega)
theorem ZfI:∀ {c:List Int},2<=c.length->(∀ x∈c,0<=x)->1<=c.headD 0->c.sum+1<=(ZaR c).sum/\1<=(ZaR c).headD 0:=by
 intro c h2 hn h1
 match c,h2,hn,h1 with
 | x::y::r,h2,hn,h1=>
  have h1:1<=x:=h1;have hy:=Zb1 (y::r) fun z hz=>hn z (Yam _ hz);have hlen:(ZaR (y::r)).length=(y::r).length:=by
   unfold ZaR;rw[Ybg];have:∀ (s:Int) (c:List Int),(pre s c).length=c.length:=by
    intro s c
    induction c generalizing s with
    | nil=>rfl
    | cons a b ih=>simp[pre,ih]
   exact this 0 _
  rw[ZbA];refine⟨?_,?_⟩
  ·rw[YbJ,ZbX,hlen,Yaz];have:(1:Int)*x<=((y::r).length:Int)*x:=Ybq (by simp;(clear hlen hy h1 h2;omega)) (by (clear hlen hy h2;omega));simp only[Yaz,YdB] at *
   (clear hlen h2;omega)
  ·cases e:ZaR (y::r) with
   | nil=>rw[e] at hlen;simp at hlen
   | cons z zs=>
    have hz:=hy.2 z (by rw[e];exact Yai);show 1<=x+z
    (clear hlen hy h2;omega)
theorem Zcu {p:Nat} (hp:2<=p):∀ n,1<=(casc p n).headD 0/\(n:Int)+1<=(casc p n).sum:=by
 have hl:∀ n,(casc p n).length=p:=fun n=>by
  rw[<- Za3 (by omega)];unfold ZaN;rw[Yad,ZaS (by omega)]
 intro n
 induction n with
 | zero=>
  have h0:casc p 0=1::Yae (p - 1) 0:=by
   obtain⟨m,rfl⟩:∃ m,p=m+1:=⟨p - 1,by omega⟩
   rfl
  rw[h0];exact⟨Ya6 _,by simp⟩
 | succ n ih=>
  have:=ZfI (c:=casc p n) (by rw[hl];exact hp) (ZeA p n) ih.1;have e:casc p (n+1)=ZaR (casc p n):=rfl;rw[e];exact⟨this.2,by (clear hp;omega)⟩
def ZbJ (p m:Nat):List (List (List Int)):=(Ybi m).map (casN p)
def Zfx (fn:Addr):Sp:=fun vs H Q _=>∃ p:Nat,vs=[.int p,.ref fn]/\2<=p/\p<=7/\∀ (l:Addr) (as:List Addr) (m:Nat) H',H l=none->H' l=some (.lst (as.map V.ref))->LvsT H' as (ZbJ p m)->(∀ i,i<m->(casN p i).flatten.length<=4000)->4000<(casN p m).flatten.length->Same H H'->Q (.ref l) H'
end Lv
namespace Lv
open PySem L2
theorem LvsT.lst {H:Hp}{as:List Addr}{L:List (List (List Int))}{l:Addr}{ys zs:List V} (h:LvsT H as L) (e:H l=some (.lst zs)):LvsT (upd H l (.lst ys)) as L:=⟨h.1,fun j q N a b=>by
 obtain⟨rs,e1,e2⟩:=h.2 j q N a b;refine⟨rs,?_,TTs.lst e2 e⟩;rw[Zaf fun z=>by rw[z,e] at e1;cases e1];exact e1⟩
theorem LvsT.snoc {H:Hp}{as rs:List Addr}{L:List (List (List Int))}{q:Addr}{N:List (List Int)} (h:LvsT H as L) (e:H q=some (.tup (rs.map V.ref))) (t:TTs H rs N):LvsT H (as++[q]) (L++[N]):=⟨by rw[Yaj,Yaj,h.1];rfl,fun j x M a b=>by
 rcases YbD j as.length with hj | hj
 ·rw[YaL hj] at a;rw[YaL (by rw[<- h.1];exact hj)] at b;exact h.2 j x M a b
 ·rw[YaI hj] at a;rw[YaI (by rw[<- h.1];exact hj),<- h.1] at b
  cases e3:j - as.length with
  | zero=>rw[e3] at a b;cases a;cases b;exact⟨rs,e,t⟩
  | succ n=>rw[e3] at a;cases a⟩
theorem ZgU (p m:Nat):ZbJ p (m+1)=ZbJ p m++[casN p m]:=by unfold ZbJ;rw[List.range_succ,YaU];rfl
theorem ZeL (p m:Nat):(ZbJ p m).length=m:=by unfold ZbJ;rw[Yad,List.length_range]
end Lv
namespace Lv
open PySem L2
theorem ZdH:∀ {N:List (List Int)}{xs:List Int}{z:Int},xs∈Zat N->z∈xs->∃ ys∈N,z∈ys∨z - 1∈ys
 | [Z],xs,z,h,hz=>by
  have:xs=Z:=by simpa[Zat] using h
  subst this;exact⟨xs,Yai,.inl hz⟩
 | A::B::r,xs,z,h,hz=>by
  have up:∀ {w:Int},w∈up1 A->w - 1∈A:=fun {w} hw=>by
   unfold up1 at hw;obtain⟨v,hv,rfl⟩:=Yay.mp hw;rw[show v+1 - 1=v by omega];exact hv
  rw[Zat] at h;rcases Yap.mp h with h | h
  ·obtain⟨ys,hy,rfl⟩:=Yay.mp h;rcases Yap.mp hz with hz | hz
   ·exact⟨A,Yai,.inr (up hz)⟩
   ·obtain⟨ws,hw,hd⟩:=ZdH hy hz;exact⟨ws,Yam _ hw,hd⟩
  ·rw[YaN.mp h] at hz;exact⟨A,Yai,.inr (up hz)⟩
theorem Zbe {p:Nat}:∀ (i:Nat) (xs:List Int) (z:Int),xs∈casN p i->z∈xs->0<=z/\z<=i
 | 0,xs,z,h,hz=>by
  have h:xs∈([0]::Yae (p - 1) []:List (List Int)):=h;rcases Yau.mp h with rfl | h
  ·rw[YaN.mp hz];exact⟨Ya6 _,Ya6 _⟩
  ·rw[List.eq_of_mem_replicate h] at hz;cases hz
 | i+1,xs,z,h,hz=>by
  obtain⟨ys,hy,hd⟩:=ZdH (N:=casN p i) h hz;rcases hd with hd | hd
  ·have:=Zbe i ys z hy hd;omega
  ·have:=Zbe i ys (z - 1) hy hd;omega
theorem Zgt:∀ (c:List Int),(∀ x∈c,0<=x)->(ZaR c).sum<=(c.length:Int)*c.sum
 | [],_=>by simp[ZaR,pre]
 | x::r,h=>by
  have hx:=h x Yai;have ih:=Zgt r fun z hz=>h z (Yam _ hz);have hr:0<=r.sum:=by
   clear ih
   induction r with
   | nil=>exact Ya6 _
   | cons y r ih2=>
    rw[Yaz];have:=h y (by simp);have:=ih2 fun z hz=>h z (by rcases Yau.mp hz with rfl | hz;exact Yai;exact Yam _ (Yam _ hz))
    (clear ih2 hx;omega)
  rw[ZbA,YbJ,ZbX,ZcT,YaH,Yaz,Yaz,YdB];have e:((r.length+1:Nat):Int)*(x+r.sum)=(r.length:Int)*x+x+(r.length:Int)*r.sum+r.sum:=by
   rw[Ycp,YbQ,Yd5];simp
   (clear hr ih hx;omega)
  rw[e]
  (clear e hx;omega)
theorem ZhD {p m:Nat} (h2:2<=p) (h7:p<=7) (h:4000<(casN p m).flatten.length):1<=m/\500<=(casN p (m - 1)).flatten.length:=by
 have hf:∀ i,((casN p i).flatten.length:Int)=(casc p i).sum:=fun i=>by rw[Zb6,Za3 (by (clear h h7;omega))]
 cases m with
 | zero=>
  exfalso;have:(casN p 0).flatten.length=1:=by
   show ([0]::Yae (p - 1) []:List (List Int)).flatten.length=1;simp
  (clear h7 h2;omega)
 | succ m=>
  refine⟨by (clear h h7 h2;omega),?_⟩;have a:=hf (m+1);have b:=hf m;have c:=Zgt (casc p m) (ZeA p m);have d:(casc p m).length=p:=ZcG (by (clear c b a h h7;omega)) m;have e:casc p (m+1)=ZaR (casc p m):=rfl;rw[d] at c;rw[e] at a;show 500<=(casN p m).flatten.length;have g:(p:Int)*(casc p m).sum<=7*(casc p m).sum:=Ybq (by (clear d c b a h h2;omega)) (by rw[<- b];(clear d c b a h h7 h2;omega))
  (clear d h7 h2;omega)
end Lv
namespace Lv
open PySem L2
def Zd2 (K:Yac):Sp:=fun vs H Q _=>∃ (p:Nat) (ll:Addr) (b:Bool) (ls:List Int),vs=[.int p,.ref ll]/\2<=p/\p<=7/\SqB b K H ll (ls.map V.int)/\ls.length<=500/\(∀ l∈ls,Ya2 l<=8000) /\
 ∀ (t:Addr) (R:Int) (n m:Nat) H',H t=none->H' t=some (.tup [.int R,.int (n:Int)])->BestOf ls (ZbJ p m) m (some (R,n))->(∀ i,i<m->(casN p i).flatten.length<=4000)->4000<(casN p m).flatten.length->Same H H'->Q (.ref t) H'
end Lv
namespace Lv
open PySem L2
theorem Zh2 {a b:List Int} (h:a.Perm b):a.sum=b.sum:=by
 induction h with
 | nil=>rfl
 | cons x _ ih=>rw[Yaz,Yaz,ih]
 | swap x y l=>rw[Yaz,Yaz,Yaz,Yaz];omega
 | trans _ _ h1 h2=>exact h1.trans h2
theorem ZgW {ls:List Int}{N ks lf lp:List (List Int)} (h:Zjt ls N ks lf lp) (hle:ls.length<=N.flatten.length):(ZbD N ls ks).sum=(YbU (fun f p=>-(f.getD 0 0)*p.getD 0 0) lf lp).sum:=by
 obtain⟨h1,h2,_,h4,_,h6⟩:=h;have e1:ZbD N ls ks=(prL ls).map fun f=>-(f.getD 0 0)*numV N (ks.getD (f.getD 1 0).toNat []):=by
  refine Ycg (by unfold ZbD prL;simp;(clear hle;omega)) fun i a b=>?_;have hi:i<ls.length:=by rw[Yad,Zcn] at b;exact b
  have hk:i<ks.length:=by (clear b a hle;omega)
  have hp:(prL ls)[i]?=some [-ls[i],(i:Int)]:=ZkQ (Yaf hi);have hp2:(prL ls)[i]'(by rw[Zcn];exact hi)=[-ls[i],(i:Int)]:=(Yaa.mp hp).2
  rw[Ye7,hp2];have hz:(ZbD N ls ks)[i]?=some (ls[i]*numV N ks[i]):=by
   unfold ZbD;rw[Yes,Yaf hi,Yaf hk]
  rw[(Yaa.mp hz).2];show ls[i]*numV N ks[i] = -(-ls[i])*numV N (ks.getD ((i:Int)).toNat []);rw[Int.neg_neg,Ybf,YaC,Yaf hk];rfl
 have e2:YbU (fun f p=>-(f.getD 0 0)*p.getD 0 0) lf lp=lf.map fun f=>-(f.getD 0 0)*numV N (ks.getD (f.getD 1 0).toNat []):=by
  have l1:lf.length=ls.length:=by rw[h2.length_eq,Zcn]
  have l2:lp.length=N.flatten.length:=by rw[h4.length_eq,ZbW]
  refine Ycg (by simp;(clear h1;omega)) fun i a b=>?_;have hi:i<lf.length:=by rw[Yad] at b;exact b
  have hj:i<lp.length:=by (clear b a h1;omega)
  have g:=h6 i lf[i] lp[i] (Yaf hi) (Yaf hj);obtain⟨r,jj,z,xs,ep,hr,hz⟩:=Zbt (h4.mem_iff.mp (Yc4 hj));rw[List.getElem_zipWith,Ye7,YaC (l:=ks),g,Option.getD_some,ep];congr 1;show z=numV N [((0+r:Nat):Int),(jj:Int)];unfold numV;simp[YaC,hr,hz]
 rw[e1,e2];exact Zh2 (h2.symm.map _)
end Lv
namespace Lv
open PySem L2
def isrt (l:List Int):List Int:=l.mergeSort (fun a b=>decide (a<=b))
def Zbh (l:List Int):List Int:=l.mergeSort (fun a b=>decide (b<=a))
theorem ZiQ {l m:List Int} (h:m.Perm l) (hs:m.Pairwise (·<=·)):m=isrt l:=by
 refine YcH (le:=(·<=·)) (fun a b _ _ h1 h2=>Ydc h1 h2) hs ?_ (h.trans (YaZ l _).symm);refine (YbW (fun a b c h1 h2=>?_) (fun a b=>?_) l).imp fun h=>of_decide_eq_true h
 ·have:=of_decide_eq_true h1;have:=of_decide_eq_true h2;exact decide_eq_true (by omega)
 ·by_cases h:a<=b
  ·simp[h]
  ·simp;(clear h;omega)
theorem Zkw {l m:List Int} (h:m.Perm l) (hs:m.Pairwise (· ≥ ·)):m=Zbh l:=by
 refine YcH (le:=(· ≥ ·)) (fun a b _ _ h1 h2=>Ydc h2 h1) hs ?_ (h.trans (YaZ l _).symm);refine (YbW (fun a b c h1 h2=>?_) (fun a b=>?_) l).imp fun h=>of_decide_eq_true h
 ·have:=of_decide_eq_true h1;have:=of_decide_eq_true h2;exact decide_eq_true (by omega)
 ·by_cases h:b<=a
  ·simp[h]
  ·simp;(clear h;omega)
def rdF (ls:List Int) (N:List (List Int)):Int:=(YbU (·*·) (isrt N.flatten) (Zbh ls)).sum
theorem Zix {x y:Int}{a b:List Int} (h:lxB (y::b) (x::a)=false):x<=y:=by
 rw[lxB] at h;by_cases e:y=x
 ·omega
 ·rw[if_neg e] at h;have:=of_decide_eq_false h
  (clear e;omega)
theorem Zgi {ls:List Int}{N:List (List Int)}{R:Int} (h:Zc8 ls N R) (hf:Fit ls N):R=rdF ls N:=by
 obtain⟨ks,lf,lp,hs,_,rfl⟩:=h;rw[ZgW hs hf];obtain⟨_,h2,h3,h4,h5,_⟩:=hs;have e1:lp.map (fun t=>t.getD 0 0)=isrt N.flatten:=by
  refine ZiQ ?_ ?_
  ·rw[<- Zf8 N 0];exact h4.map _
  ·refine Ybc.mpr (Ydp (fun {p q} hp hq h=>?_) h5);obtain⟨_,_,_,_,rfl,_⟩:=Zbt (h4.mem_iff.mp hp);obtain⟨_,_,_,_,rfl,_⟩:=Zbt (h4.mem_iff.mp hq);exact Zix h
 have e2:lf.map (fun f=>-(f.getD 0 0))=Zbh ls:=by
  refine Zkw ?_ ?_
  ·have:(prL ls).map (fun f=>-(f.getD 0 0))=ls:=by
    refine Ycg (by simp[prL]) fun i h1 h2=>?_;simp[prL]
   exact (h2.map _).trans (by rw[this])
  ·refine Ybc.mpr (Ydp (fun {p q} hp hq h=>?_) h3);obtain⟨_,_,rfl,_⟩:=Zeg (h2.mem_iff.mp hp);obtain⟨_,_,rfl,_⟩:=Zeg (h2.mem_iff.mp hq);have:=Zix h;show (-(-_:Int)) ≥ -(-_);omega
 unfold rdF;rw[<- e1,<- e2,List.zipWith_map];congr 1;rw[List.zipWith_comm];congr 1
 funext p f
 exact Ycw _ _
def BestG (f:Nat->Option Int) (m:Nat):Option (Int × Nat)->Prop
 | none=>∀ j,j<m->f j=none
 | some (R,n)=>n<m/\f n=some R/\∀ j R',j<m->f j=some R'->R<=R'/\(j<n->R<R')
def fitF (ls:List Int) (L:Nat->List (List Int)) (j:Nat):Option Int:=if ls.length<=(L j).flatten.length then some (rdF ls (L j)) else none
theorem BestG.of {ls:List Int}{L:Nat->List (List Int)}{m n:Nat}{R:Int} (h:BestOf ls ((Ybi m).map L) m (some (R,n))):BestG (fitF ls L) m (some (R,n)):=by
 obtain⟨h1,⟨N,hN,hf,hr⟩,h3⟩:=h;have at_:∀ j,j<m->((Ybi m).map L)[j]?=some (L j):=fun j hj=>by rw[Yas,YeK hj];rfl
 rw[at_ n h1] at hN;cases hN;refine⟨h1,?_,fun j R' hj e=>?_⟩
 ·unfold fitF;unfold Fit at hf;rw[if_pos hf,<- Zgi hr hf]
 ·unfold fitF at e;by_cases hj2:ls.length<=(L j).flatten.length
  ·rw[if_pos hj2] at e;obtain⟨R2,r2,a,b⟩:=h3 j _ hj (at_ j hj) hj2;have:=Zgi r2 hj2;cases e;rw[<- this];exact⟨a,b⟩
  ·rw[if_neg hj2] at e;cases e
end Lv
namespace Lv
open PySem L2
end Lv
namespace Lv
open PySem L2
end Lv
namespace L2
open PySem PySem.Spec PyProof.Rows PySem.SeqAt
section
variable {X:Cx}
end
end L2
namespace Lv
open PySem L2
def Fr (S:List Addr) (H H':Hp):Prop:=∀ b o,H b=some o->b ∉ S->H' b=some o
abbrev Rows:=List (Option (List Int))
def datO:Option (List Int)->PyData
 | none=>.none
 | some xs=>.list (xs.map PyData.int)
def Zny (ds:Rows):PyData:=.list (ds.map datO)
def shp (D:List Rows):List (List Bool):=D.map fun ds=>ds.map Option.isSome
abbrev Cell:=Option (Addr × List Int)
abbrev Reel:=Addr × List Cell
def cA:Cell->List Addr
 | none=>[]
 | some (r,_)=>[r]
def tA (t:Reel):List Addr:=t.1::t.2.flatMap cA
def adr (T:List Reel):List Addr:=T.flatMap tA
def TB (H:Hp) (tr:List Addr) (B:List (List Bool)):Prop:=tr.length=B.length/\∀ (j:Nat) r bs,tr[j]?=some r->B[j]?=some bs->H r=some (.tup (bs.map V.bl))
end Lv
namespace Lv
open PySem L2
def St (S:List Addr) (H:Hp) (Φ:Hp->Prop):Prop:=∀ H',Fr S H H'->Φ H'
structure Bld (S:List Addr) (H:Hp) (us:List V) (rs tr:List Addr) (D:List Rows) (R:List (List Int)):Prop where
 due:St S H fun H'=>RdL H' us (D.map Zny)
 rows:St S H fun H'=>LLs H' rs R
 lay:St S H fun H'=>TB H' tr (shp D)
end Lv
namespace Lv
open PySem L2
end Lv
namespace Lv
open PySem L2
def les (m x:Int):Int:=if x - m > 0 then x - m else 0
def Zl7 (c:List Int) (out:Nat) (m:Int):List Int:=(c.map (les m)).set out m
def ZnZ (a b:List Int):Prop:=a.length=b.length/\∀ j:Nat,a.getD j 0<=b.getD j 0
def Cov (c L:List Int):Prop:=∃ l:List Int,l.Perm (c)/\ZnZ l (L++[0])
end Lv
namespace L2
open PySem PySem.Spec PyProof.Rows PySem.SeqAt
section
variable {X:Cx}
end
end L2
namespace Lv
open PySem L2
def rk (st:List Int):List Int:=st.mergeSort fun a b=>decide (a ≥ b)
def CovL (L r:List Int):Prop:=∀ j,j<L.length->r.getD j 0<=L.getD j 0
instance (L r:List Int):Decidable (CovL L r):=inferInstanceAs (Decidable (∀ j,j<L.length->r.getD j 0<=L.getD j 0))
def big:Int:=1000000000000000000000000000000000000000000000000000000000000
structure Stand (p:Nat) (st:List Int):Prop where
 p2:2<=p
 p7:p<=7
 len:st.length=p+1
 nn:∀ x∈st,0<=x
 le:∀ x∈st,x<=big
 zero:(0:Int)∈st
 pos:∃ x∈st,1<=x
def mxl:List Int->Int
 | []=>0
 | x::r=>if mxl r > x then mxl r else x
structure On (p:Nat) (c:List Int) (n:Nat):Prop where
 len:c.length=p+1
 cov:Cov c (cnt p n)
 nn:∀ x∈c,0<=x
 pos:∃ x∈c,1<=x
def fb (L r:List Int):Nat:=((Ybi L.length).filter fun j=>decide (r.getD j 0 > L.getD j 0)).headD 0
end Lv
namespace Lv
open PySem L2
end Lv
namespace Lv
open PySem L2
end Lv
namespace L2
open PySem PySem.Spec PyProof.Rows
section
variable {X:Cx}
end
end L2
namespace Lv
open PySem L2
theorem Sm.putP {p q:Addr}{H H2:Hp}{o:HO} (s:Sm p H H2) (h:H q=none):Sm p H (upd H2 q o):=fun b u e n=>by
 rw[Zaf (Zae e h)];exact s b u e n
theorem Zh3 {res ls C:List Int}{d:Nat} (h:d<ls.length) (hp:(res++ls).Perm C):((res++[ls.getD d 0])++ls.eraseIdx d).Perm C:=by
 refine YcX ?_ hp;rw[YaG];refine YbL res ?_;have e:ls=ls.take d++ls.getD d 0::ls.drop (d+1):=by
  rw[YaC,Yaf h];show ls=ls.take d++ls[d]::ls.drop (d+1);rw[<- YcO h,YaT]
 have e2:ls.eraseIdx d=ls.take d++ls.drop (d+1):=List.eraseIdx_eq_take_drop_succ ..;rw[e2];have pm:(ls.take d++ls.getD d 0::ls.drop (d+1)).Perm (ls.getD d 0::(ls.take d++ls.drop (d+1))):=YdE;exact (pm.symm.trans (YeG e.symm))
theorem Ziw (l:List Int) (d:Nat):(l.map V.int).eraseIdx d=(l.eraseIdx d).map V.int:=(Zb3 V.int l d).symm
end Lv
namespace L2
open PySem PySem.Spec PyProof.Rows PySem.W
abbrev VB:List Value:=[.type "ValueError",.type "Exception",.type "BaseException",.type "object"]
def Znc (K:Frag) (C:Addr):Bool:=match K.lookup C with
 | some ⟨.type "type",_,.cls cd,sl⟩=>(match cd.mro,sl.toList with
  | .ref D::bm,[_,_,_,_,some (.builtin n),_]=>D == C && (n == "ValueError.__new__" && (!cd.hasDel && (tailIn K VB bm && (nsOkIn K cd.ns && cd.hasDict))))
  | _,_=>false)
 | _=>false
def Zl3 (K:Frag) (C fI:Addr):Bool:=Znc K C && (Zi4 K C && (findIn K (.ref C) "__setattr__" == some (some (.builtin "object.__setattr__")) && (findIn K (.ref C) "at" == some none && (isFn K (.ref fI) && (keepIn K (.ref C) && findIn K (.ref C) "__init__" == some (some (.ref fI)))))))
section
variable {prog:Program}{w:World}{A:Around}{E:Value->Shared->Prop}{s:Shared}{K:Frag}{x C fI:Addr}{v:Value}
abbrev newExc (C t:Addr):Obj:={ cls:=.ref C,data:=.fields #[.ref t,.none,.none,.none,.bool false,.none] }
end
end L2
namespace L2
open PySem PySem.Spec PyProof.Rows PySem.W
section
variable {X:Cx}{o value:Expr}{pos pos':Pos}{ta tv:TE}{C fI:Addr}
end
end L2
namespace Lv
open PySem L2 PySem.W
structure ExcTabI (K:Frag) (reel C fI:Addr) (all:List Addr):Prop where
 ok:Zl3 K C fI=true
 exm:exmOne K (.ref C) (.ref reel)=some true
 exmS:exmOne K (.ref C) (.ref C)=some true
 isR:kitOne K (.ref C) (.ref reel)=some true
 isV:kitOne K (.ref C) (.type "ValueError")=some true
 one:∀ D∈all,kitOne K (.ref C) (.ref D)=some (D == C)
end Lv
namespace Lv
open PySem L2
def PhOk (c:List Int) (out m:Int):Prop:=(0<=out/\out<(c.length:Int))/\(c.getD out.toNat 0<=0/\(1<=m/\m<=mxl c))
instance (c:List Int) (out m:Int):Decidable (PhOk c out m):=by unfold PhOk;infer_instance
end Lv
namespace Lv
open PySem L2
def wk:List Int->List (Int × Int)->Nat->Except Nat (List Int)
 | c,[],_=>.ok c
 | c,(o,m)::r,i=>if PhOk c o m then wk (Zl7 c o.toNat m) r (i+1) else .error i
def fin (c:List Int) (ps:List (Int × Int)):Except Nat (List Int):=match wk c ps 0 with
 | .ok d=>if 1<d.sum then .error ps.length else .ok d
 | .error i=>.error i
structure Way (c0:List Int) (ps:List (Int × Int)) (i:Nat) (c:List Int):Prop where
 wk:wk c0 ps 0=wk c (ps.drop i) i
 len:c.length=c0.length
 nn:∀ x∈c,0<=x
structure Cts (p:Nat) (c:List Int):Prop where
 len:c.length=p+1
 nn:∀ x∈c,0<=x
 le:∀ x∈c,x<=big
 pos:∃ x∈c,1<=x
end Lv
namespace Lv
open PySem L2
end Lv
namespace Lv
open PySem L2
def srt (xs:List Int):List Int:=xs.mergeSort fun a b=>decide (a<=b)
def rl90 (cs:Rows):List (List Int):=cs.filterMap id
def mrg (cs:Rows):Option (List Int):=if rl90 cs=[] then none else some (srt (rl90 cs).flatten)
def tkA (D:List Rows) (m i:Nat):Rows:=D.filterMap fun r=>(r.take m)[i]?
def phR (D:List Rows) (o m:Nat):List Rows:=(D.map (·.drop m)).set o ((Ybi m).map fun i=>mrg (tkA D m i))
def thg (cs:Rows):Int:=((rl90 cs).map fun xs=>(xs.length:Int)).sum
def lns (D:List Rows):List Int:=D.map fun r=>(r.length:Int)
theorem Zll {n:Nat} (h:n<=15001):n<sizeLine:=by rw[sizeLine_eq];omega
def plR:List Rows->List (Int × Int)->List Rows
 | D,[]=>D
 | D,(o,m)::r=>plR (phR D o.toNat m.toNat) r
def rdR:List Rows->List (Int × Int)->List (List Int)
 | _,[]=>[]
 | D,(o,m)::r=>(D.map fun q=>thg (q.take m.toNat))::rdR (phR D o.toNat m.toNat) r
def Pls:List Rows->List (Int × Int)->Prop
 | _,[]=>True
 | D,(o,m)::r=>PhOk (lns D) o m/\Pls (phR D o.toNat m.toNat) r
end Lv
namespace Lv
open PySem L2
def dot:List Int->List Int->Int
 | w::ws,n::ns=>w*n+dot ws ns
 | _,_=>0
def fmJ (p:Int) (L:Nat):Nat:=(((L:Int) - 2) % (p - 1)+2).toNat
def hfF (p:Int):Nat->List Int->Int
 | 0,_=>0
 | k+1,ws=>if ws.length<=1 then 0 else (ws.take (fmJ p ws.length)).sum+hfF p k (srt ((ws.take (fmJ p ws.length)).sum::ws.drop (fmJ p ws.length)))
def hf (p:Int) (ws:List Int):Int:=hfF p ws.length (srt ws)
theorem Zj2 {ws vs:List Int} (h:ws.Perm vs):∀ {ns:List Int},ns.length=ws.length->∃ ms,ms.Perm ns/\dot vs ms=dot ws ns:=by
 induction h with
 | nil=>intro ns h;exact⟨ns,Yco _,rfl⟩
 | cons w _ ih=>
  intro ns h
  cases ns with
  | nil=>simp at h
  | cons n ns=>
   obtain⟨ms,h1,h2⟩:=ih (ns:=ns) (by simpa using h);exact⟨n::ms,h1.cons n,by rw[dot,dot,h2]⟩
 | swap a b l=>
  intro ns h
  match ns,h with
  | n::m::ns,h=>exact⟨m::n::ns,Yc7 _ _ _,by simp only[dot];(clear h;omega)⟩
  | [n],h=>simp at h
  | [],h=>simp at h
 | trans h1 _ ih1 ih2=>
  intro ns h;obtain⟨ms,a1,a2⟩:=ih1 h;obtain⟨ks,b1,b2⟩:=ih2 (ns:=ms) (by rw[a1.length_eq,h,h1.length_eq]);exact⟨ks,b1.trans a1,b2.trans a2⟩
theorem Znf:∀ {ws ns:List Int}{w0 n0 N:Int},ws.length=ns.length->(∀ w∈ws,w0<=w)->n0<=N->N∈ns->∃ ms,(N::ms).Perm (n0::ns)/\w0*N+dot ws ms<=w0*n0+dot ws ns
 | [],[],_,_,_,_,_,_,h=>by simp at h
 | [],_::_,_,_,_,h,_,_,_=>by simp at h
 | _::_,[],_,_,_,h,_,_,_=>by simp at h
 | w::ws,n::ns,w0,n0,N,hl,hw,hn,hm=>by
  rcases Yau.mp hm with rfl | hm
  ·refine⟨n0::ns,Yc7 _ _ _,?_⟩;have h1:=hw w Yai;have h2:w0*(N - n0)<=w*(N - n0):=Ybq h1 (by (clear h1 hl;omega));rw[Ydl,Ydl] at h2;simp only[dot]
   (clear h1 hl hn;omega)
  ·obtain⟨ms,h1,h2⟩:=Znf (ws:=ws) (ns:=ns) (w0:=w0) (n0:=n0) (by simpa using hl) (fun x hx=>hw x (Yam _ hx)) hn hm;refine⟨n::ms,((Yc7 _ _ _).trans (h1.cons n)).trans (Yc7 _ _ _),?_⟩;simp only[dot]
   (clear hn hl;omega)
theorem mxE:∀ (ns:List Int),ns≠[]->∃ N∈ns,∀ n∈ns,n<=N
 | [],h=>absurd rfl h
 | [n],_=>⟨n,Yai,fun x hx=>by rw[YaN.mp hx];exact Ya6 _⟩
 | n::m::ns,_=>by
  obtain⟨N,h1,h2⟩:=mxE (m::ns) (by simp);by_cases z:n<=N
  ·exact⟨N,Yam _ h1,fun x hx=>by
    rcases Yau.mp hx with rfl | hx
    ·exact z
    ·exact h2 x hx⟩
  ·exact⟨n,Yai,fun x hx=>by
    rcases Yau.mp hx with rfl | hx
    ·exact Ya6 _
    ·have:=h2 x hx;omega⟩
theorem ZmD:∀ (ws ns:List Int),ws.length=ns.length->ws.Pairwise (·<=·)->∃ ms,ms.Perm ns/\ms.Pairwise (fun a b=>b<=a)/\dot ws ms<=dot ws ns
 | [],[],_,_=>⟨[],Yco _,YbY,Ya6 _⟩
 | [],_::_,h,_=>by simp at h
 | _::_,[],h,_=>by simp at h
 | w::ws,n::ns,hl,hs=>by
  obtain⟨N,h1,h2⟩:=mxE (n::ns) (by simp);obtain⟨ks,k1,k2⟩:∃ ks,(N::ks).Perm (n::ns)/\w*N+dot ws ks<=w*n+dot ws ns:=by
   rcases Yau.mp h1 with rfl | h1
   ·exact⟨ns,Yco _,Ya6 _⟩
   ·exact Znf (by simpa using hl) (fun x hx=>(YaS.mp hs).1 x hx) (h2 n Yai) h1
  have hkl:ws.length=ks.length:=by have:=k1.length_eq;simp at this hl;(clear k2;omega)
  obtain⟨ms,m1,m2,m3⟩:=ZmD ws ks hkl (YaS.mp hs).2;refine⟨N::ms,(m1.cons N).trans k1,YaS.mpr ⟨fun x hx=>h2 x (k1.subset (Yam _ (m1.subset hx))),m2⟩,?_⟩;simp only[dot]
  (clear hkl hl;omega)
theorem ZfU:∀ {a b c d:List Int},a.length=c.length->dot (a++b) (c++d)=dot a c+dot b d
 | [],b,[],d,_=>by simp[dot]
 | [],_,_::_,_,h=>by simp at h
 | _::_,_,[],_,h=>by simp at h
 | x::a,b,y::c,d,h=>by
  have ih:=ZfU (a:=a) (b:=b) (c:=c) (d:=d) (by simpa using h);simp only[Ybx,dot,ih]
  (clear ih h;omega)
end Lv
namespace Lv
open PySem L2
section
variable {S:List Addr}{H H':Hp}{a w:Addr}
end
def kz (z:Int × Int):List Key:=[Ybp z.1,Ybp z.2]
end Lv
namespace Lv
open PySem L2
section
variable {α:Type}
def ones (RR:List (List (List α))):List (List Int):=RR.map fun R=>R.map fun _=>1
def tl (g:List α->Int) (RR:List (List (List α))):Int:=(RR.map fun R=>sg g R).sum
end
end Lv
namespace Lv
open PySem L2
def phO (p t:Nat):Int:=((p:Int) - t) % ((p:Int)+1)
end Lv
namespace Lv
open PySem L2
def gl (r:List Int):Int:=(r.length:Nat)
def phL (p:Nat):Nat->Nat->List (Int × Int)
 | _,0=>[]
 | t,m+1=>(phO p t,hd p m)::phL p (t+1) m
def Znl (o:Int) (s:List Int):Prop:=∃ a:Nat,o=a/\s[a]?=some 0/\∀ (j:Nat) x,s[j]?=some x->j≠a->1<=x
end Lv
namespace Lv
open PySem L2
def fil1:List Bool->List (List Int)->Rows
 | [],_=>[]
 | false::bs,rows=>none::fil1 bs rows
 | true::bs,rows=>some (rows.headD [])::fil1 bs rows.tail
def filB:List (List Bool)->List (List Int)->List Rows
 | [],_=>[]
 | b::B,rows=>fil1 b (rows.take (b.count true))::filB B (rows.drop (b.count true))
def wS (rows:List (List Int)) (ns:List Int):List Int:=YbU (fun r w=>(r.length:Int)*w) rows ns
structure Pl52 (p n:Nat) (B:List (List Bool)) (rows:List (List Int)):Prop where
 pls:Pls (filB B rows++[[]]) (phL p 0 n)
 left:(plR (filB B rows++[[]]) (phL p 0 n)).flatten=[some (srt rows.flatten)]
 read:((rdR (filB B rows++[[]]) (phL p 0 n)).map List.sum).sum=(wS rows (Znz (num p n) B)).sum
 out:(∀ b∈B,∀ x∈b,x=true)->(∀ r∈rows,r≠[])->∀ (i:Nat) q s,(phL p 0 n)[i]?=some q->(rdR (filB B rows++[[]]) (phL p 0 n))[i]?=some s->Znl q.1 s
end Lv
namespace Lv
open PySem L2
theorem Zki (p n:Nat):((num p n).flatten.length:Int)=tot p n:=by
 unfold tot;rw[<- Zeq];have:∀ N:List (List Int),((N.flatten.length:Nat):Int)=(lens N).sum:=fun N=>by
  induction N with
  | nil=>rfl
  | cons x N ih=>
   unfold lens at *;rw[YaF,Yaj,YaD,Yaz];omega
 exact this _
end Lv
namespace Lv
open PySem L2
def tlv (c:Bool) (p i:Nat):Int:=((SS c p i).flatten.length:Int)
theorem Zft (p i:Nat):tlv false p i=tot p i:=Zki p i
theorem ZbK {p:Nat} (hp:1<=p) (i:Nat):tlv true p i=(casc p i).sum:=by
 show ((casN p i).flatten.length:Int)=_;rw[Zb6,Za3 hp]
theorem ZcB {c:Bool}{p:Nat} (hp:2<=p) {m n:Nat} (h:m<=n):tlv c p m<=tlv c p n:=by
 cases c
 ·rw[Zft,Zft];exact ZjE hp h
 ·rw[ZbK (by (clear h;omega)),ZbK (by (clear h;omega))];exact Zfe h
theorem ZkK {c:Bool}{p:Nat} (hp:2<=p) (h7:p<=7) {i:Nat} (h:tlv c p i<=4000):i<=60:=by
 have h61:4000<tlv c p 61:=by
  cases c
  ·rw[Zft];rcases (show p=2∨p=3∨p=4∨p=5∨p=6∨p=7 by (clear h;omega)) with rfl | rfl | rfl | rfl | rfl | rfl <;> decide +kernel
  ·rw[ZbK (by (clear h h7;omega))];rcases (show p=2∨p=3∨p=4∨p=5∨p=6∨p=7 by (clear h;omega)) with rfl | rfl | rfl | rfl | rfl | rfl <;> decide +kernel
 by_cases z:i<=60
 ·exact z
 ·have:=ZcB (c:=c) hp (m:=61) (n:=i) (by (clear h61 h h7 hp;omega))
  (clear z h7 hp;omega)
def ToldW (c:Bool) (p m:Nat):Prop:=(∀ i,i<m->tlv c p i<=4000)/\4000<tlv c p m
theorem ToldW.one {c:Bool}{p m n:Nat} (a:ToldW c p m) (b:ToldW c p n):m=n:=by
 rcases YdA m n with h | h | h
 ·have:=b.1 m h;have:=a.2;(clear h;omega)
 ·exact h
 ·have:=a.1 n h;have:=b.2;(clear h;omega)
def BestT (c:Bool) (p:Nat) (ls:List Int) (o:Option (Int × Nat)):Prop:=∃ m,ToldW c p m/\BestG (fitF ls (SS c p)) m o
end Lv
namespace Lv
open PySem L2
end Lv
namespace L2
open PySem PySem.Spec PyProof.Rows PySem.SeqAt
section
variable {prog:Program}{w:World}{A:Around}{E:Value->Shared->Prop}{s:Shared}
end
section
variable {X:Cx}{tg:Expr}
end
end L2
namespace L2
open PySem PySem.Spec PyProof.Rows
section
variable {X:Cx}{tg:Expr}
end
end L2
namespace Lv
open PySem L2
inductive Chain (p:Nat):Int->List Int->List (List Int)->Prop
 | one (m x:Int):Chain p m [x] []
 | step (m:Int) (th T rest:List Int) (L:List (List Int)) (h1:th.Perm (T++rest)) (h2:T≠[]) (h3:T.length<=p) (h:Chain p (m+1) (rest++[m]) L):Chain p m th (T::L)
def pw (p D:Nat) (f:Int->Nat) (xs:List Int):Nat:=(xs.map fun x=>p ^ (D - f x)).sum
inductive Built (p r:Nat):List (List Int)->List Int->Prop
 | nil:Built p r [] ((Ybi r).map fun (i:Nat)=>(i:Int))
 | snoc (L:List (List Int)) (th T rest:List Int) (h:Built p r L th) (h1:th.Perm (T++rest)) (h2:T≠[]) (h3:T.length<=p):Built p r (L++[T]) (rest++[((r+L.length:Nat):Int)])
end Lv
namespace Lv
open PySem L2
end Lv
namespace L2
open PySem PySem.Spec PyProof.Rows PySem.SeqAt
end L2
namespace Lv
open PySem L2
def upL (ks:List (List Int)):Prop:=ks.Pairwise (fun p q=>lxB q p=false)
def k0 (k:List Int):Int:=k.getD 0 0
def k1 (k:List Int):Int:=k.getD 1 0
inductive JRun (p:Nat):Nat->Int->List (List Int)->Int->List (List Int)->Prop
 | done (m:Nat) (n:Int) (ks:List (List Int)) (h:ks.length<=1):JRun p m n ks 0 []
 | step (m:Nat) (n:Int) (ks ks':List (List Int)) (r:Int) (T:List Int) (L:List (List Int)) (h2:2<=ks.length)
   (hT:T.Perm ((ks.take m).map k1)) (hT2:T.Pairwise (·<=·)) (hk:ks'.Perm (ks.drop m++[[((ks.take m).map k0).sum,n]])) (hs:upL ks')
   (h:JRun p p (n+1) ks' r L):JRun p m n ks (((ks.take m).map k0).sum+r) (T::L)
def lkI (D:List (Int × Int)) (x:Int):Option Int:=(D.find? fun q=>decide (q.1=x)).map (·.2)
def okT (m:Nat) (D:List (Int × Int)) (T:List Int):Prop:=T.length=m/\(∀ x∈T,(lkI D x).isSome=true)/\T.Pairwise (·<·)/\srt (T.map fun x=>(lkI D x).getD 0)=(srt (D.map (·.2))).take T.length
instance (m:Nat) (D:List (Int × Int)) (T:List Int):Decidable (okT m D T):=by unfold okT;infer_instance
theorem TTs.offJ {H:Hp}{rs:List Addr}{N:List (List Int)}{l:Addr}{xs:List V}{o:HO} (h:TTs H rs N) (e:H l=some (.lst xs)):TTs (upd H l o) rs N:=⟨h.1,fun j r ys a b=>by
 have h1:=h.2 j r ys a b;rw[Zaf (fun z=>by rw[z,e] at h1;cases h1)];exact h1⟩
end Lv
namespace L2
open PySem PySem.Spec PyProof.Rows PySem.SeqAt
end L2
namespace Lv
open PySem L2
theorem Same.sqB {b:Bool}{K:Yac}{H H':Hp}{a:Addr}{xs:List V} (e:Same H H') (h:SqB b K H a xs):SqB b K H' a xs:=by
 cases b with
 | true=>exact e.seq h
 | false=>exact e.tup h
end Lv
namespace L2
open PySem PySem.Spec PyProof.Rows PySem.SeqAt
section
variable {X:Cx}{tg:Expr}
end
end L2
namespace L2
open PySem PySem.Spec PyProof.Rows
section
variable {own:List Str}{js:List Nat}{g:TG}{tt:TT}{te:TE}{σ:L2.St}{H1:Hp}{Q:VK}
theorem Zji {b1 b2:Bool}{K:Yac}{a b:Addr}{xs ys:List V} (zs:List V) (hq1:SqB b1 K H1 a xs) (hq2:SqB b2 K H1 b ys) (hl:ys.length<=xs.length) (hz:zs.length=ys.length) (hlen:ys.length<=20000)
  (hs:∀ (i:Nat) x y z,xs[i]?=some x->ys[i]?=some y->zs[i]?=some z->∀ p H,Same H1 H->H p=some (.tup [x,y])->∀ R:VK,(∀ H',Same H H'->R z H')->g (.ref p) (blkσ own js σ) H fun τ H4=>te τ H4 R)
  (hd:∀ acc H,H1 acc=none->Same H1 H->H acc=some (.lst zs)->Q (.ref acc) H):Zcv own js g Zlc te σ (ItzB b1 b2 K a b) H1 Q:=by
 refine Zjh (xs:=xs) (ys:=ys) hl (fun acc i H=>Same H1 H/\H acc=some (.lst (zs.take i))) (fun acc h0=>⟨Same.new h0,Zab⟩) (fun acc i H h0 _ z=>⟨Lv.Same.sqB z.1 hq1,Lv.Same.sqB z.1 hq2⟩) ?_ ?_
 ·rintro acc i x y p H h0 hx hy ⟨s1,hacc⟩ hp;have hi:=(Yaa.mp hy).1
  have hy':=Yaf (l:=zs) (i:=i) (by (clear hlen hl;omega));have s2:Same H (upd H p (.tup [x,y])):=Same.new hp;refine (cast ?_ (hs i x y _ hx hy hy' p _ (s1.trans s2) Zab (fun y H6=>∃ zs',H6 acc=some (.lst zs')/\zs'.length<sizeLine/\(i+1<=ys.length/\(Same H1 (upd H6 acc (.lst (zs'++[y])))/\upd H6 acc (.lst (zs'++[y])) acc=some (.lst (zs.take (i+1)))))) fun H' s'=>?_))
  ·unfold Zlc;simp only[if_true]
  ·refine⟨_,s' _ _ (s2 _ _ hacc),?_,hi,((s1.trans s2).trans s').put h0,?_⟩
   ·rw[sizeLine_eq,YaA]
    (clear hl;omega)
   ·rw[Zab,Ybn,hy'];simp
 ·rintro acc H h0 ⟨s1,hacc⟩;rw[<- hz,YaP] at hacc;exact hd acc H h0 s1 hacc
end
end L2
namespace Lv
open PySem L2
def ZnN (p L:Nat):Nat:=if L=0 then 0 else (L - 1) / p+1
def Zn2 (p:Nat) (xs:List Int):List (List Int):=(Ybi (ZnN p xs.length)).map fun i=>(xs.drop (i*p)).take p
def Zn1 (ns:List Int):List Int:=ns.map fun n=>min n ((ns.length:Int) - 1)
end Lv
namespace Lv
open PySem L2
def leP:List Int->List Int->Prop
 | [],[]=>True
 | a::as,b::bs=>a<=b/\leP as bs
 | _,_=>False
end Lv
namespace Lv
open PySem L2
end Lv
namespace Lv
open PySem L2
end Lv
namespace Lv
open PySem L2
theorem leP.tr:∀ {a b c:List Int},leP a b->leP b c->leP a c
 | [],[],[],_,_=>trivial
 | [],[],_::_,_,h=>h.elim
 | [],_::_,_,h,_=>h.elim
 | _::_,[],_,h,_=>h.elim
 | _::_,_::_,[],_,h=>h.elim
 | _::_,_::_,_::_,h,g=>⟨YeH h.1 g.1,leP.tr h.2 g.2⟩
theorem Zgf:∀ (n:Nat) (z:Int) (Z:List Int),(z::Z).Pairwise (·<=·)->n<=Z.length->leP ((z::Z).take n) (Z.take n)
 | 0,_,_,_,_=>trivial
 | n+1,z,[],_,h=>by simp at h
 | n+1,z,y::Z,hs,h=>by
  have h1:=YaS.mp hs;exact⟨h1.1 y Yai,Zgf n y Z h1.2 (by simpa using h)⟩
theorem Zlh {A Z:List Int} (s:List.Sublist A Z):Z.Pairwise (·<=·)->leP (Z.take A.length) A:=by
 induction s with
 | slnil=>intro _;trivial
 | cons z s ih=>
  intro hs;exact leP.tr (Zgf _ z _ hs s.length_le) (ih (YaS.mp hs).2)
 | cons_cons z s ih=>
  intro hs;exact⟨Ya6 _,ih (YaS.mp hs).2⟩
theorem ZfP (l:List Int):(isrt l).Pairwise (·<=·):=by
 refine (YbW (fun a b c h1 h2=>?_) (fun a b=>?_) l).imp fun h=>of_decide_eq_true h
 ·have:=of_decide_eq_true h1;have:=of_decide_eq_true h2;exact decide_eq_true (by omega)
 ·by_cases h:a<=b
  ·simp[h]
  ·simp;(clear h;omega)
theorem Zlm {A rest Z:List Int} (h:(A++rest).Perm Z) (hA:A.Pairwise (·<=·)):leP ((isrt Z).take A.length) A:=by
 have hs:List.Sublist A (isrt (A++rest)):=List.sublist_mergeSort (fun a b c h1 h2=>by
  have:=of_decide_eq_true h1;have:=of_decide_eq_true h2;exact decide_eq_true (by omega)) (fun a b=>by
  by_cases h:a<=b
  ·simp[h]
  ·simp;(clear h;omega)) (hA.imp fun h=>decide_eq_true h) (List.sublist_append_left A rest)
 have e:isrt (A++rest)=isrt Z:=ZiQ ((YaZ _ _).trans h) (ZfP _);rw[e] at hs;exact Zlh hs (ZfP Z)
theorem ZdT:∀ (a b:List Int),(YbU (·*·) a b).sum=dot b a
 | [],b=>by cases b <;> simp[dot]
 | _::_,[]=>by simp[dot]
 | x::a,y::b=>by rw[List.zipWith_cons_cons,Yaz,ZdT a b,dot,Ycw]
theorem ZgD:∀ (ls Z:List Int),dot ls (Z.take ls.length)=dot ls Z
 | [],Z=>by simp[dot]
 | _::_,[]=>by simp[dot]
 | l::ls,z::Z=>by rw[YaH,List.take_succ_cons,dot,dot,ZgD ls Z]
theorem Zee (ls:List Int) (N:List (List Int)):rdF ls N=dot (Zbh ls) ((isrt N.flatten).take ls.length):=by
 unfold rdF;have:(Zbh ls).length=ls.length:=(YaZ _ _).length_eq;rw[ZdT,<- this,ZgD]
theorem Zi9:∀ {ls a b:List Int},leP a b->(∀ l∈ls,0<=l)->dot ls a<=dot ls b
 | [],a,b,_,_=>by simp[dot]
 | _::_,[],[],_,_=>by simp[dot]
 | _::_,[],_::_,h,_=>h.elim
 | _::_,_::_,[],h,_=>h.elim
 | l::ls,x::a,y::b,h,h0=>by
  have:=Zi9 (ls:=ls) h.2 fun l hl=>h0 l (Yam _ hl);have:=YcA h.1 (h0 l Yai);rw[dot,dot];omega
theorem Zk2:∀ {a b:List Int},a.length=b.length->dot a.reverse b.reverse=dot a b
 | [],[],_=>rfl
 | [],_::_,h=>by simp at h
 | _::_,[],h=>by simp at h
 | x::a,y::b,h=>by
  have hl:a.length=b.length:=by simpa using h
  rw[YbH,YbH,ZfU (by rw[Ybg,Ybg,hl]),Zk2 hl,dot];simp[dot]
  (clear hl h;omega)
theorem Zl5 {a b:List Int} (h:b.length=a.length):dot a.reverse b=dot a b.reverse:=by
 have:=Zk2 (a:=a) (b:=b.reverse) (by rw[Ybg,h])
 rwa [List.reverse_reverse] at this
theorem ZmF {ls ns rest:List Int}{N:List (List Int)} (hl:ns.length=ls.length) (h0:∀ l∈ls,0<=l) (h:(ns++rest).Perm N.flatten):rdF ls N<=dot ls ns:=by
 have hpr:(Zbh ls).Perm ls:=YaZ _ _;have hup:(Zbh ls).reverse.Pairwise (·<=·):=by
  rw[Yc9];refine (YbW (fun a b c h1 h2=>?_) (fun a b=>?_) ls).imp fun h=>of_decide_eq_true h
  ·have:=of_decide_eq_true h1;have:=of_decide_eq_true h2;exact decide_eq_true (by (clear hl;omega))
  ·by_cases h:b<=a
   ·simp[h]
   ·simp;(clear h hl;omega)
 obtain⟨ks,k1,k2⟩:=Zj2 (((YcU _).trans hpr).symm) hl;obtain⟨ms,m1,m2,m3⟩:=ZmD (Zbh ls).reverse ks (by rw[(YcU _).length_eq,hpr.length_eq,k1.length_eq,hl]) hup;have hms:(ms.reverse).Perm ns:=((YcU _).trans m1).trans k1;have hms2:ms.reverse.Pairwise (·<=·):=by
  rw[Yc9];exact m2
 have hsel:=Zlm ((hms.append_right rest).trans h) hms2;rw[hms.length_eq,hl] at hsel;have e:dot (Zbh ls).reverse ms=dot (Zbh ls) ms.reverse:=by
  have hlen:ms.length=(Zbh ls).length:=by rw[m1.length_eq,k1.length_eq,hl,hpr.length_eq]
  exact Zl5 hlen
 rw[Zee];have:=Zi9 hsel (ls:=Zbh ls) fun l hl=>h0 l (hpr.mem_iff.mp hl)
 (clear hl;omega)
theorem Znk {c:Bool}{p:Nat} (i:Nat):∀ n∈(SS c p i).flatten,0<=n:=fun n hn=>by
 obtain⟨xs,hx,hx2⟩:=Ybh.mp hn;cases c
 ·exact (ZgN p i xs hx n hx2).1
 ·exact (Zbe i xs n hx hx2).1
theorem BestT.le {c:Bool}{p:Nat} (hp:2<=p) {ls ns rest:List Int}{R:Int}{n k:Nat} (h:BestT c p ls (some (R,n))) (h0:∀ l∈ls,0<=l) (hl:ns.length=ls.length) (hs:(ns++rest).Perm (SS c p k).flatten) (hk:tlv c p k<=4000):R<=dot ls ns:=by
 obtain⟨m,a1,a2,a3,a4⟩:=h;have hkm:k<m:=by
  by_cases z:k<m
  ·exact z
  ·have:=ZcB (c:=c) hp (m:=m) (n:=k) (by (clear a2 hk hl hp;omega));have:=a1.2
   (clear z a2 hl hp;omega)
 have hf:ls.length<=(SS c p k).flatten.length:=by
  have:=hs.length_eq;rw[Yaj] at this
  (clear hkm a2 hk hp;omega)
 have:=(a4 k (rdF ls (SS c p k)) hkm (by unfold fitF;rw[if_pos hf])).1
 have:=ZmF hl h0 hs
 (clear hf hkm a2 hk hl hp;omega)
theorem Zdj {t:Int}:∀ c:List Int,(∀ x∈c,x<=t)->c.sum<=c.length*t
 | [],_=>by simp
 | x::c,h=>by
  have:=Zdj c fun z hz=>h z (Yam _ hz);have:=h x Yai;rw[Yaz,YaH,YdL,YbQ,Yd4];omega
end Lv
namespace Lv
open PySem L2
theorem ZjF {xs ys:List Int} (h:xs.Perm ys) (t:Int):sv xs t=sv ys t:=Zgo (h.map _)
theorem Zlg (xs ys:List Int) (t:Int):sv (xs++ys) t=sv xs t+sv ys t:=by unfold sv;rw[YaU,YbJ]
theorem ZhI {t:Int}:∀ {zs:List Int},(∀ x∈zs,x<=t)->sv zs t=zs.length*t - zs.sum
 | [],_=>by simp[sv]
 | z::zs,h=>by
  have e:sv (z::zs) t=pz (t - z)+sv zs t:=rfl;have h1:=h z Yai;rw[e,ZhI fun x hx=>h x (Yam _ hx),Yaz,YaH,Ycp,YbQ,show pz (t - z)=t - z by unfold pz;split <;> (clear e;omega)];simp
  (clear h1 e;omega)
theorem Zgc {t:Int}:∀ {ws:List Int},(∀ x∈ws,t<=x)->sv ws t=0
 | [],_=>rfl
 | z::zs,h=>by
  have e:sv (z::zs) t=pz (t - z)+sv zs t:=rfl;have h1:=h z Yai;rw[e,Zgc fun x hx=>h x (Yam _ hx),show pz (t - z)=0 by unfold pz;split <;> (clear e;omega)];rfl
theorem ZeZ {xs:List Int}{r:Nat}{v:Int} (h:Lst xs r v) (h1:1<=r) (hr:r<=xs.length):v=((isrt xs).take r).sum:=by
 have hp:(isrt xs).Perm xs:=YaZ _ _;have hl:((isrt xs).take r).length=r:=by rw[YaA,hp.length_eq];(clear h1;omega)
 have e:(isrt xs).take r++(isrt xs).drop r=isrt xs:=YaT _ _;have hup:=ZfP xs;rw[<- e] at hup;obtain⟨u1,u2,u3⟩:=YaQ.mp hup;have a:=Lst.sub (ys:=(isrt xs).take r) (v:=v) (by rw[hl];exact h) fun m=>by
  unfold cn;have:((isrt xs).take r).count m<=xs.count m:=by
   rw[<- hp.count_eq,<- e,Ydv,e]
   (clear hl hr h1;omega)
  (clear hl hr h1;omega)
 have hne:(isrt xs).take r≠[]:=fun z=>by rw[z] at hl;simp at hl;(clear a hr;omega)
 obtain⟨ys,t,hys⟩:∃ ys t,(isrt xs).take r=ys++[t]:=⟨_,_,(Ybk hne).symm⟩
 have ht:∀ x∈(isrt xs).take r,x<=t:=fun x hx=>by
  rw[hys] at hx u1;rcases Yap.mp hx with z | z
  ·exact (YaQ.mp u1).2.2 x z t (by simp)
  ·rw[YaN.mp z];exact Ya6 _
 have hd:∀ x∈(isrt xs).drop r,t<=x:=fun x hx=>u3 t (by rw[hys];simp) x hx;have b:=h.le t;rw[<- ZjF hp t,<- e,Zlg,ZhI ht,Zgc hd,hl] at b
 (clear hl hr h1;omega)
theorem Ze7 (l:List Int):(isrt l).length=l.length:=(YaZ _ _:(isrt l).Perm l).length_eq
theorem ZiR (r:Nat) (L:Int):Zbh (Yae r L)=Yae r L:=List.perm_replicate.mp (YaZ _ _)
theorem ZgE (L:Int):∀ xs:List Int,dot (Yae xs.length L) xs=L*xs.sum
 | []=>by simp[dot]
 | x::xs=>by rw[YaH,Ybl,dot,ZgE L xs,Yaz,Yd5]
theorem Zlt {r:Nat}{L:Int}{N:List (List Int)} (hr:r<=N.flatten.length):rdF (Yae r L) N=L*((isrt N.flatten).take r).sum:=by
 have hp:(isrt N.flatten).Perm N.flatten:=YaZ _ _;rw[Zee,ZiR,Ya7];have:=ZgE L ((isrt N.flatten).take r)
 rwa [YaA,hp.length_eq,Yb9 hr] at this
theorem Zi2 {p:Nat} (hp:2<=p) {r:Nat} (h1:1<=r) (L:Int) {j:Nat} (hj:j<=300):fitF (Yae r L) (SS true p) j=(gS (casN p) r j).map (L*·):=by
 have lv:=(Zbp hp).lv;unfold fitF;rw[Ya7];show (if r<=(casN p j).flatten.length then some (rdF (Yae r L) (casN p j)) else none)=_;by_cases h:r<=(casN p j).flatten.length
 ·obtain⟨v,ev,l⟩:=lv.some hj (show (1:Int)<=r by (clear h hj hp;omega)) (by (clear hj h1 hp;omega));rw[if_pos h,ev,Zlt h,ZeZ l h1 h];rfl
 ·rw[if_neg h,lv.none' hj (show (1:Int)<=r by (clear h hj hp;omega)) (by (clear hj h1 hp;omega))];rfl
theorem ZdF:∀ (N:List (List Int)) (y:Int),y∈(Zat N).flatten->(∃ x∈N.flatten,y=x+1)∨∃ Z,N.getLast?=some Z/\y∈Z
 | [],y,h=>by simp[Zat] at h
 | [Z],y,h=>.inr ⟨Z,rfl,by simpa[Zat] using h⟩
 | A::B::r,y,h=>by
  rw[Zat,Ybd,Yap] at h;have inA:y∈up1 A->∃ x∈(A::B::r).flatten,y=x+1:=fun hy=>by
   obtain⟨x,hx,rfl⟩:=Yay.mp hy;exact⟨x,by rw[YaF];exact YaM _ hx,rfl⟩
  rcases h with h | h
  ·obtain⟨l,hl,hy⟩:=Ybh.mp h;obtain⟨m,hm,rfl⟩:=Yay.mp hl;rcases Yap.mp hy with hy | hy
   ·exact .inl (inA hy)
   ·rcases ZdF (B::r) y (Ybh.mpr ⟨m,hm,hy⟩) with ⟨x,hx,e⟩ | ⟨Z,hZ,hy⟩
    ·exact .inl ⟨x,by rw[YaF];exact Yao _ hx,e⟩
    ·exact .inr ⟨Z,by rw[List.getLast?_cons_cons];exact hZ,hy⟩
  ·exact .inl (inA (by simpa using h))
theorem ZmC {N:List (List Int)} (h2:2<=N.length) {y:Int} (h:y∈(Zat (Zat N)).flatten):∃ z∈N.flatten,z+1<=y:=by
 rcases ZdF _ y h with ⟨x,hx,e⟩ | ⟨Z,hZ,hy⟩
 ·obtain⟨z,hz,hle⟩:=ZfH N x hx;exact⟨z,hz,by (clear h2;omega)⟩
 ·match N,h2 with
  | A::B::r,_=>
   rw[Zat,List.getLast?_concat] at hZ;cases hZ;obtain⟨x,hx,rfl⟩:=Yay.mp hy;exact⟨x,by rw[YaF];exact YaM _ hx,Ya6 _⟩
theorem Zjl {p:Nat} (hp:2<=p):∀ (j:Nat) (y:Int),y∈(casN p j).flatten->(j:Int)<=2*y+1
 | 0,y,h=>by have:=Znk (c:=true) (p:=p) 0 y h;(clear hp;omega)
 | 1,y,h=>by have:=Znk (c:=true) (p:=p) 1 y h;(clear hp;omega)
 | j+2,y,h=>by
  obtain⟨z,hz,hle⟩:=ZmC (N:=casN p j) (by rw[ZaS (by omega)];exact hp) h;have:=Zjl hp j z hz
  (clear hp;omega)
theorem Zdi {B:Int}:∀ {zs:List Int},(∀ x∈zs,B<=x)->zs.length*B<=zs.sum
 | [],_=>by simp
 | z::zs,h=>by
  have:=Zdi fun x hx=>h x (Yam _ hx);have:=h z Yai;rw[Yaz,YaH,Ycp,YbQ];simp;omega
theorem ZkC {p:Nat} (hp:2<=p) (h7:p<=7):∃ k:Nat,1<=k/\k<=8/\40<=tlv true p k/\tlv true p (2*k - 1)<=4000:=by
 have e:∀ i,tlv true p i=(casc p i).sum:=ZbK (by (clear h7;omega));rcases (show p=2∨p=3∨p=4∨p=5∨p=6∨p=7 by omega) with rfl | rfl | rfl | rfl | rfl | rfl
 ·exact⟨8,by decide,by decide,by rw[e];decide +kernel,by rw[e];decide +kernel⟩
 ·exact⟨5,by decide,by decide,by rw[e];decide +kernel,by rw[e];decide +kernel⟩
 ·exact⟨4,by decide,by decide,by rw[e];decide +kernel,by rw[e];decide +kernel⟩
 ·exact⟨3,by decide,by decide,by rw[e];decide +kernel,by rw[e];decide +kernel⟩
 ·exact⟨3,by decide,by decide,by rw[e];decide +kernel,by rw[e];decide +kernel⟩
 ·exact⟨3,by decide,by decide,by rw[e];decide +kernel,by rw[e];decide +kernel⟩
theorem ToldW.le61 {c:Bool}{p m:Nat} (hp:2<=p) (h7:p<=7) (h:ToldW c p m):m<=61:=by
 refine YbM fun z=>?_;have:=ZkK (c:=c) hp h7 (h.1 61 (by (clear h7 hp;omega)))
 (clear z h7 hp;omega)
theorem Zk1 {p:Nat} (hp:2<=p) {r j:Nat}{v:Int} (hj:j<=300) (h1:1<=r) (h:gS (casN p) r j=some v):v=((isrt (casN p j).flatten).take r).sum/\r<=(casN p j).flatten.length:=by
 obtain⟨a,l⟩:=(Zbp hp).lv.of hj (show (1:Int)<=r by (clear hj hp;omega)) h;exact⟨ZeZ l h1 (by (clear h1 hj hp;omega)),by (clear h1 hj hp;omega)⟩
theorem ZiB {p:Nat} (hp:2<=p) (h7:p<=7) {r:Nat} (h1:1<=r) (h40:r<=40) {L:Int} (hL:1<=L) {R:Int}{n:Nat}{q:Int × Nat} (a:BestT true p (Yae r L) (some (R,n))) (b:Bst (casN p) 101 r q):R=q.1*L/\n=q.2:=by
 obtain⟨m,a1,a2,a3,a4⟩:=a;have hm:=a1.le61 hp h7;rw[Zi2 hp h1 L (by (clear hL h40 h1 h7 hp;omega))] at a3
 cases ev:gS (casN p) r n with
 | none=>rw[ev] at a3;cases a3
 | some v=>
  rw[ev] at a3;cases a3;have hq101:=b.lt;have hqm:q.2<m:=by
   refine YbM fun z=>?_;obtain⟨k,k1,k8,k40,k4⟩:=ZkC hp h7;have hkm:2*k<=m:=by
    refine YbM fun y=>?_;have:=ZcB (c:=true) hp (m:=m) (n:=2*k - 1) (by (clear k4 k40 k8 k1 z hq101 hm a2 hL h40 h1 h7 hp;omega));have:=a1.2
    (clear y k40 k8 k1 z hq101 hm a2 hL h40 h1 h7 hp;omega)
   obtain⟨vk,ek,_⟩:=(Zbp hp).lv.some (show k<=300 by (clear hkm k4 k40 k1 z hq101 hm a2 hL h40 h1 h7 hp;omega)) (show (1:Int)<=r by (clear hkm k4 k40 k8 k1 z hq101 hm a2 hL h40 h7 hp;omega)) (by have:tlv true p k=((casN p k).flatten.length:Int):=rfl;(clear hkm k4 k8 k1 z hq101 hm a2 hL h1 h7 hp;omega));have h3:=b.first k vk (by (clear k4 k40 k8 k1 hq101 hm hL h40 h1 h7 hp;omega)) ek
   obtain⟨e1,l1⟩:=Zk1 hp (by (clear h3 hkm k4 k40 k1 z hq101 hm a2 hL h40 h1 h7 hp;omega)) h1 ek;obtain⟨e2,l2⟩:=Zk1 hp (by (clear l1 e1 h3 hkm k4 k40 k8 k1 z hm a2 hL h40 h1 h7 hp;omega)) h1 b.eq;have t1:=Zdj (t:=(k:Int)) ((isrt (casN p k).flatten).take r) fun x hx=>by
    have:=(YaZ _ _).mem_iff.mp (Ybo hx);obtain⟨xs,hxs,hx2⟩:=Ybh.mp this;exact (Zbe k xs x hxs hx2).2
   have t2:=Zdi (B:=(k:Int)) (zs:=(isrt (casN p q.2).flatten).take r) fun x hx=>by
    have:=(YaZ _ _).mem_iff.mp (Ybo hx);have:=Zjl hp q.2 x this
    (clear t1 l2 e2 l1 e1 h3 k4 k40 k8 k1 hq101 hm a2 hL h40 h1 h7 hp;omega)
   rw[YaA,Ze7,Yb9 l1] at t1;rw[YaA,Ze7,Yb9 l2] at t2
   (clear l2 l1 hkm k4 k40 k8 k1 z hq101 hm a2 hL h40 h1 h7 hp;omega)
  have hfq:fitF (Yae r L) (SS true p) q.2=some (L*q.1):=by rw[Zi2 hp h1 L (by (clear hqm hm a2 hL h40 h1 h7 hp;omega)),b.eq];rfl
  have c1:=a4 q.2 _ hqm hfq;dsimp only at c1;have c2:=b.le n v (by (clear c1 hqm hq101 hL h40 h1 h7 hp;omega)) ev;have c3:v=q.1:=by
   refine Ydc ?_ c2;exact Int.le_of_mul_le_mul_left c1.1 (by (clear c2 c1 hqm hq101 hm a2 h40 h1 h7 hp;omega))
  subst c3;refine⟨Ycw _ _,?_⟩;rcases YdA n q.2 with h | h | h
  ·have:=b.first n _ h ev;(clear h c2 c1 hqm hq101 hm a2 hL h40 h1 h7 hp;omega)
  ·exact h
  ·have:=c1.2 h;(clear this c2 hqm hq101 hm a2 hL h40 h1 h7 hp;omega)
theorem ZdN (l:List Int):(Zbh l).Pairwise (fun a b=>b<=a):=by
 refine (YbW (fun a b c h1 h2=>?_) (fun a b=>?_) l).imp fun h=>of_decide_eq_true h
 ·have:=of_decide_eq_true h1;have:=of_decide_eq_true h2;exact decide_eq_true (by omega)
 ·by_cases h:b<=a
  ·simp[h]
  ·simp;(clear h;omega)
theorem ZiS {l m:List Int} (h:m.Perm l) (hs:m.Pairwise (fun a b=>b<=a)):m=Zbh l:=by
 refine YcH (le:=fun a b=>b<=a) (fun a b _ _ h1 h2=>Ydc h2 h1) hs (ZdN l) (h.trans (YaZ l _).symm)
theorem Zhh {ls:List Int} (h0:∀ l∈ls,0<=l) (z:Nat):Zbh (ls++Yae z 0)=Zbh ls++Yae z 0:=by
 have hp:(Zbh ls).Perm ls:=YaZ _ _;refine (ZiS (hp.append_right _) ?_).symm;rw[YaQ];refine⟨ZdN ls,?_,fun a ha b hb=>?_⟩
 ·rw[Yeg];exact .inr (Ya6 _)
 ·rw[(Yb3.mp hb).2];exact h0 a (hp.mem_iff.mp ha)
theorem ZgC:∀ (z:Nat) (xs:List Int),dot (Yae z 0) xs=0
 | 0,xs=>by simp[dot]
 | z+1,[]=>by simp[Ybl,dot]
 | z+1,x::xs=>by rw[Ybl,dot,ZgC z xs];simp
theorem ZjP {ls:List Int} (h0:∀ l∈ls,0<=l) {z:Nat}{N:List (List Int)} (hf:ls.length+z<=N.flatten.length):rdF (ls++Yae z 0) N=rdF ls N:=by
 have hp:(Zbh ls).Perm ls:=YaZ _ _;have hq:(isrt N.flatten).Perm N.flatten:=YaZ _ _;rw[Zee,Zee,Zhh h0,Yaj,Ya7,List.take_add];rw[ZfU (by rw[hp.length_eq,YaA,hq.length_eq];omega),ZgC]
 (clear hf;omega)
theorem BestT.zeros {p:Nat}{ls:List Int} (h0:∀ l∈ls,0<=l) {z:Nat}{R R':Int}{n n':Nat} (a:BestT true p ls (some (R,n))) (b:BestT true p (ls++Yae z 0) (some (R',n'))) (hz:(ls.length:Int)+z<=tlv true p n):R'=R:=by
 obtain⟨m,a1,a2,a3,a4⟩:=a;obtain⟨m',b1,b2,b3,b4⟩:=b;cases a1.one b1;have key:∀ j,fitF (ls++Yae z 0) (SS true p) j=if ls.length+z<=(SS true p j).flatten.length then some (rdF ls (SS true p j)) else none:=fun j=>by
  unfold fitF;rw[Yaj,Ya7];by_cases h:ls.length+z<=(SS true p j).flatten.length
  ·rw[if_pos h,if_pos h,ZjP h0 h]
  ·rw[if_neg h,if_neg h]
 have hl:tlv true p n=((SS true p n).flatten.length:Int):=rfl;have hR:R=rdF ls (SS true p n):=by
  unfold fitF at a3;rw[if_pos (by (clear b2 a2;omega))] at a3;exact (Yaw a3).symm
 have c1:=(b4 n R a2 (by rw[key,if_pos (by (clear hR b2 a2;omega)),hR])).1
 rw[key] at b3;split at b3
 ·rename_i hn;have hb:fitF ls (SS true p) n'=some R':=by
   unfold fitF;rw[if_pos (by (clear c1 hR hl b2 a2 hz;omega))];exact b3
  have:=(a4 n' R' b2 hb).1
  (clear hn hR hl b2 a2 hz;omega)
 ·cases b3
theorem Bst.laid {p:Nat} (hp:2<=p) {r n:Nat}{q:Int × Nat}{as rest:List Int} (b:Bst (casN p) 101 r q) (h1:1<=r) (hl:as.length=r) (hs:(as++rest).Perm (casN p n).flatten) (hn:n<101):q.1<=as.sum:=by
 have hlen:=hs.length_eq;rw[Yaj] at hlen;obtain⟨v,ev,l⟩:=(Zbp hp).lv.some (show n<=300 by (clear hlen hl h1 hp;omega)) (show (1:Int)<=r by (clear hlen hn hl hp;omega)) (by (clear hn h1 hp;omega));have h2:=b.le n v hn ev;have h3:=Lst.sub (ys:=as) (v:=v) (by rw[hl];exact l) fun m=>by
  unfold cn;have:as.count m<=(casN p n).flatten.count m:=by rw[<- hs.count_eq,Ydv];(clear h2 hlen hn hl h1 hp;omega)
  (clear h2 hlen hn hl h1 hp;omega)
 (clear hlen hn hl h1 hp;omega)
end Lv
namespace Lv
open PySem L2
theorem ZcL {p:Nat}{ls:List Int}{R:Int}{n m:Nat} (a:BestOf ls (ZbJ p m) m (some (R,n))) (b:∀ i,i<m->(casN p i).flatten.length<=4000) (c:4000<(casN p m).flatten.length):BestT true p ls (some (R,n)) :=
 ⟨m,⟨fun i hi=>by have:=b i hi;show ((casN p i).flatten.length:Int)<=4000;(clear hi c;omega),by show 4000<((casN p m).flatten.length:Int);omega⟩,BestG.of a⟩
theorem ZgA {H:Hp}{qs:List Addr}{L:List (Int × Int)}{xs:List Int} (h:TTs H qs (L.map pr2)) (s:SprL L (cn xs)) (hne:xs≠[]):∃ q0 m c,atI (qs.map V.ref) 0=some (.ref q0)/\H q0=some (.tup [.int m,.int c])/\Zc9 xs m:=by
 cases L with
 | nil=>
  obtain⟨m,hm⟩:=YcN _ hne;have:=(Za2 s m).mpr hm;simp at this
 | cons q M=>
  have hl:0<qs.length:=by rw[h.1];simp
  refine⟨qs[0],q.1,q.2,ZeD (j:=0) (by rw[Yas,Yaf hl];rfl),?_,ZeN s⟩;exact h.2 0 _ _ (Yaf hl) rfl
theorem Zk4 {p:Nat} (hp:2<=p) (n:Nat):(casN p n).flatten≠[]:=(Zbp hp).lv.ne n
theorem ZjO {p n:Nat} (hp:2<=p) {a b:Int} (h:Zc9 (casN p (n+2)).flatten a) (k:Zc9 (casN p n).flatten b):b+1<=a:=by
 obtain⟨z,hz,hle⟩:=ZmC (N:=casN p n) (by rw[ZaS (by omega)];exact hp) h.1;have:=k.2 z hz
 (clear hp;omega)
end Lv
namespace Lv
open PySem L2
end Lv
namespace Lv
open PySem L2
def ZnQ (r:List (List Int)):List Int:=r.getLastD []
def wr (L:List (List (List Int))):List Int:=(L.map ZnQ).flatten
end Lv
namespace Lv
open PySem L2
end Lv
namespace Fs66
open PySem L2 Lv
def top (i:Nat):Stmt:=PySem.Challenge.pw_fewreels_k66_whole_no_laying_reads_less.main.body.getD i (.Pass ⟨0,0,0,0⟩)
abbrev Zdn:Stmt:=top 6
abbrev Zg0:Stmt:=top 11
abbrev Zdr:Stmt:=top 12
abbrev Zdt:Stmt:=top 13
abbrev sTot:Stmt:=top 16
abbrev Zck:Stmt:=top 17
abbrev Zdv:Stmt:=top 18
abbrev Zbd:Stmt:=top 19
abbrev Zg1:Stmt:=top 20
abbrev Zci:Stmt:=top 21
abbrev Zcj:Stmt:=top 23
abbrev Zdu:Stmt:=top 24
abbrev Zdo:Stmt:=top 25
abbrev Zcm:Stmt:=top 26
abbrev Zch:Stmt:=top 27
abbrev sBo:Stmt:=top 29
abbrev ZbL:Stmt:=top 31
abbrev Zbw:Stmt:=top 32
abbrev Zcl:Stmt:=top 33
abbrev Zdp:Stmt:=top 36
abbrev Zcg:Stmt:=top 37
abbrev Zcf:Stmt:=top 38
abbrev sChk:Stmt:=top 39
abbrev Zg2:Stmt:=top 40
abbrev Zg4:Stmt:=top 41
abbrev Zg3:Stmt:=top 42
abbrev sBK:Stmt:=top 43
abbrev Zdq:Stmt:=top 44
abbrev sPot:Stmt:=top 46
abbrev sNx:Stmt:=top 47
abbrev Zdw:Stmt:=top 48
abbrev Zbx:Stmt:=top 49
abbrev Zby:Stmt:=top 50
abbrev Zds:Stmt:=top 51
abbrev Zce:Stmt:=top 52
abbrev ZbM:Stmt:=top 53
abbrev sLaw:Stmt:=top 54
end Fs66
namespace Fs66
open PySem L2 Lv
section
variable {P:Program}{w:World}{K:Yac}{mg:Str->Option Value}{base:Heap}
theorem scNextK:FnScope ["counts","sums","count"] ["counts"] (Zac Zdp):=⟨rfl,rfl,rfl,by decide +kernel,rfl,by decide +kernel,by decide +kernel⟩
theorem Zj9 {f:Addr}{fd:FuncData} (F:Fun K "next_cascade_counts" "next_cascade_counts" Zdp f fd) (T:Txt mg):FnOk P w K mg base CX0 1 f fd ["counts"] (Zcd K):=by
 refine F.ok scNextK (fun vs H Q E h=>?_) (fun cdv A outer s H vs Q E hr h=>?_)
 ·obtain⟨a,c,rfl,_⟩:=h;rfl
 ·obtain⟨a,c,rfl,hA,h7,k⟩:=h;refine⟨_,Zah (Zaq (i:=1) scNextK.nd rfl (YaK rfl) (ZaU Zad))
   (Zah (ZaY Ya0 rfl (ZdA (pv 0)) (Zak (i:=2) scNextK.nd rfl (YaK rfl))
    (Zam (ZaO (ZeW Ybm YbP YbO Za6 (pv 1) (Zaa (Zgp (ZjT (pv 1) (fun _=>rfl)) (Zau ZaZ (pv 2) (ZaV Za0 (pv 1) (Zei ZbV Zag) (fun _ _=>rfl))) (pv 2)) Zad)))))
   (Zam (Zaw (ZaQ ZaE rfl T.tuple ZbT (Zaa (Zh4 (pv 1) (ZbO (Zei ZbV Zag))) Zad))))),?_⟩
  refine⟨YaV _,fun l e1=>?_⟩;refine⟨_,rfl,a,rfl,⟨_,(Same.new e1).tup hA⟩,Zet (xs:=c.map V.int) (fun i σ H2=>∃ o:Option V,σ=[some (.ref a),some (.ref l),o]/\H2 l=some (.lst ((pre 0 (c.take i)).map V.int))/\Same H H2)
   ⟨none,rfl,by rw[Zab];rfl,Same.new e1⟩ (fun i σ H2 _ ⟨o,_,_,s2⟩=>s2.tup hA) ?_ ?_⟩
  ·rintro i x σ H2 hx ⟨o,rfl,hl,s2⟩;obtain⟨z,hz,rfl⟩:=Zbo hx;obtain⟨hi,rfl⟩:=Yaa.mp hz;refine⟨_,rfl,.inl ⟨rfl,_,SqL.of hl⟩,?_⟩;have hlen:(pre 0 (c.take i)).length=i:=by rw[ZfD,YaA];(clear h7;omega)
   refine⟨_,rfl,_,.inl ⟨_,SqL.of hl,rfl⟩,?_⟩;have fin:∀ v:Int,v=(c.take i).sum+c[i]->∃ l' xs v',V.ref l=.ref l'/\[V.int v]=[v']/\H2 l'=some (.lst xs)/\xs.length<sizeLine/\(fun _ H'=>∃ o:Option V,[some (V.ref a),some (.ref l),some (.int c[i])]=[some (.ref a),some (.ref l),o]/\H' l=some (.lst ((pre 0 (c.take (i+1))).map V.int))/\Same H H') V.non (upd H2 l' (.lst (xs++[v']))):=by
    rintro v rfl;refine⟨l,_,_,rfl,rfl,hl,Zas (by simp[hlen];(clear hlen;omega)),_,rfl,?_,s2.put e1⟩;rw[Zab,Zgm hi,YaU];rfl
   cases i with
   | zero=>
    refine iteF ⟨_,rfl,?_⟩;exact fin _ (by simp)
   | succ j=>
    have hne:c.take (j+1)≠[]:=by intro z;rw[z] at hlen;simp[pre] at hlen
    have hem:(!((pre 0 (c.take (j+1))).map V.int).isEmpty)=true:=by
     cases e:(pre 0 (c.take (j+1))) with
     | nil=>rw[e] at hlen;simp at hlen
     | cons x y=>rfl
    rw[hem];refine iteT ⟨_,rfl,_,rfl,1,rfl,l,_,-1,.int (c.take (j+1)).sum,rfl,rfl,SqL.of hl,?_,_,_,rfl,rfl,?_⟩
    ·unfold atI ixN;rw[Yad,hlen,if_neg (by decide),if_pos (by (clear hlen h7;omega))];show ((pre 0 (c.take (j+1))).map V.int)[(-1+((j+1:Nat):Int)).toNat]?=_;have:=ZjV (s:=0) hne;rw[hlen] at this;rw[Yas,show (-1+((j+1:Nat):Int)).toNat=j+1 - 1 by (clear hlen h7;omega),this];simp
    ·exact fin _ (by (clear hlen h7;omega))
  ·rintro σ H2 ⟨o,rfl,hl,s2⟩;rw[Yad,YaP] at hl;refine⟨_,rfl,1,rfl,_,rfl,rfl,l,_,rfl,SqL.of hl,fun q hq=>⟨q,_,rfl,.inl ⟨SqL.of Zab,fun t ht=>?_⟩⟩⟩;have s3:=s2.trans (Same.new (o:=.lst (((pre 0 c).map V.int).reverse)) hq);refine k t _ (s3.free ht) ?_ (s3.trans (Same.new ht));rw[Zab,ZaR,YdF]
end
end Fs66
namespace Fs66
open PySem L2 Lv
section
variable {P:Program}{w:World}{K:Yac}{mg:Str->Option Value}{base:Heap}
theorem Znv:FnScope ["p","n"] ["p","n"] (Zac sChk):=⟨rfl,rfl,rfl,by decide +kernel,rfl,by decide +kernel,by decide +kernel⟩
theorem ZmV {f fA fB:Addr}{fd dA dB:FuncData}{tM:Tok} (F:Fun K "check_cascade" "check_cascade" sChk f fd) (T:Txt mg) (hM:mg "LAST_CASCADE"=some (.int 100 tM)) (CA:Cal P w K mg base 2 "check_ways" ["p"] ZeO fA dA) (CB:Cal P w K mg base 2 "check_level" ["n","last"] Zd4 fB dB):FnOk P w K mg base CX0 3 f fd ["p","n"] ZjJ:=by
 refine F.ok Znv (fun vs H Q E h=>?_) (fun cdv A outer s H vs Q E hr h=>?_)
 ·obtain⟨p,n,rfl,_⟩:=h;rfl
 ·obtain⟨p,n,rfl,h1,h2,h3,h4,k⟩:=h;refine⟨_,Zah (ZaO (Zan CA hr rfl (Zaa (pv 0) Zad))) (Zam (ZaO (Zan CB hr rfl (Zaa (pv 1) (Zaa (Zcp rfl hM) Zad))))),?_⟩;exact⟨_,rfl,p,rfl,h1,h2,_,rfl,n,100,rfl,h3,h4,k⟩
theorem scCasc:FnScope ["p","n","counts","level"] ["p","n"] (Zac Zg2):=⟨rfl,rfl,rfl,by decide +kernel,rfl,by decide +kernel,by decide +kernel⟩
theorem ZlM {f fA fC fD:Addr}{fd dA dC dD:FuncData} (F:Fun K "cascade_counts" "cascade_counts" Zg2 f fd) (T:Txt mg) (CA:Cal P w K mg base 3 "check_cascade" ["p","n"] ZjJ fA dA) (CC:Cal P w K mg base 1 "first_counts" ["p"] Zfz fC dC) (CD:Cal P w K mg base 1 "next_cascade_counts" ["counts"] (Zcd K) fD dD) :
  FnOk P w K mg base CX0 4 f fd ["p","n"] ZcQ:=by
 refine F.ok scCasc (fun vs H Q E h=>?_) (fun cdv A outer s H vs Q E hr h=>?_)
 ·obtain⟨p,n,rfl,_⟩:=h;rfl
 ·obtain⟨p,n,rfl,h1,h2,h3,k⟩:=h;have hr1:Room 1 _:=hr.mono (by decide);refine⟨_,Zah (ZaO (Zan CA hr rfl (Zaa (pv 0) (Zaa (pv 1) Zad))))
   (Zah (Zaq (i:=2) scCasc.nd rfl (YaK rfl) (Zan CC hr1 rfl (Zaa (pv 0) Zad)))
   (Zah (ZaY Ya0 rfl (ZaP rfl T.range (Zaa (pv 1) Zad)) (Zak (i:=3) scCasc.nd rfl (YaK rfl))
    (Zam (Zaq (i:=2) scCasc.nd rfl (YaK rfl) (Zan CD hr1 rfl (Zaa (pv 2) Zad)))))
   (Zam (Zaw (pv 2))))),?_⟩
  refine⟨_,rfl,_,rfl,p,n,rfl,by (clear h3 h2;omega),by (clear h3 h1;omega),by (clear h3 h2 h1;omega),by (clear h2 h1;omega),?_⟩;refine⟨_,rfl,p,rfl,h1,h2,fun l H1 hl0 hl1 s1=>?_⟩;refine⟨_,rfl,n,rfl,by (clear h3 h2 h1;omega),by (clear h2 h1;omega),Za7 (fun i σ H2=>∃ (l:Addr) (o:Option V),σ=[some (.int p),some (.int n),some (.ref l),o]/\H l=none/\H2 l=some (.tup ((casc p i).map V.int))/\Same H H2)
   ⟨l,none,rfl,hl0,hl1,s1⟩ ?_ ?_⟩
  ·rintro i σ H2 hi ⟨l,o,rfl,hl0,hl2,s2⟩;have hlen:=ZcG (p:=p) (by (clear hi h3 h2;omega)) i;refine⟨_,rfl,l,casc p i,rfl,SqT.of hl2,by (clear hi h3 h1;omega),fun l3 H3 h30 h3 s3=>?_⟩;exact⟨l3,_,rfl,s2.free h30,h3,s2.trans s3⟩
  ·rintro σ H2 ⟨l,o,rfl,hl0,hl2,s2⟩;refine⟨_,rfl,k l H2 hl0 ?_ s2⟩;simpa using hl2
theorem scPot:FnScope ["script","k","cell"] ["script","k"] (Zac sPot):=⟨rfl,rfl,rfl,by decide +kernel,rfl,by decide +kernel,by decide +kernel⟩
theorem ZmU {f:Addr}{fd:FuncData} (F:Fun K "_law_pot" "_law_pot" sPot f fd) (T:Txt mg):FnOk P w K mg base CX0 1 f fd ["script","k"] (ZhO K):=by
 refine F.ok scPot (fun vs H Q E h=>?_) (fun cdv A outer s H vs Q E hr h=>?_)
 ·obtain⟨a,ns,i,rfl,_⟩:=h;rfl
 ·obtain⟨a,ns,i,rfl,hS,i0,i1,k⟩:=h;refine⟨_,Zah (Zaq (i:=2) scPot.nd rfl (YaK rfl) Zag)
   (Zah (ZeU (ZaG Zh7 (pv 1) (Zar ZaC rfl T.len YbZ (Zaa (pv 0) Zad)) (ZaI _)) (Zam (Zaq (i:=2) scPot.nd rfl (YaK rfl) (ZaV Za0 (pv 0) (pv 1) (fun _ _=>rfl)))) Zbn)
   (Zam (Zaw (ZaU (Zaa (Zar (Zff rfl) rfl T.max Zng (Zaa Zag (Zaa (Zau ZdB (pv 2) (Zau Zgr Zag Zag)) Zad))) (Zaa (Zau ZdD (pv 2) Zag) (Zaa (pv 1) Zad))))))),?_⟩
  refine cut2 (fun σ' H'=>∃ c:Int,σ'=[some (.ref a),some (.int i),some (.int c)]/\H'=H) (fun R2 hR2=>?_) ?_
  ·refine⟨_,rfl,_,rfl,a,_,rfl,.inl hS,_,_,rfl,rfl,_,rfl,?_⟩;refine ite2 (fun hc=>?_) (fun hc=>hR2 _ _ ⟨_,rfl,rfl⟩);have hc':i<(ns.length:Int):=by have:=of_decide_eq_true hc;rwa [Yad] at this
   exact⟨_,rfl,_,rfl,a,_,i,_,rfl,rfl,hS,Zl9 i0 hc',hR2 _ _ ⟨_,rfl,rfl⟩⟩
  ·rintro σ' H' ⟨c,rfl,rfl⟩;refine⟨_,rfl,10,18,rfl,rfl,⟨by decide,by decide,by decide⟩,_,_,rfl,rfl,_,_,rfl,?_⟩;refine⟨_,rfl,_,_,rfl,rfl,(by show (0:Int)<1000000000000000003;decide),_,rfl,(by show 3<=sizeLine;decide),fun l hl=>?_⟩;exact k l _ hl ⟨_,_,_,Zab⟩ (Same.new hl)
theorem scNx:FnScope ["pot","many","digit","prime","mixed"] ["pot","many"] (Zac sNx):=⟨rfl,rfl,rfl,by decide +kernel,rfl,by decide +kernel,by decide +kernel⟩
theorem ix7 {d:Int} (h0:0<=d) (h1:d<7):∃ v:Int,atI [V.int 2147483647,.int 2147483629,.int 2147483587,.int 2147483579,.int 2147483563,.int 2147483549,.int 2147483543] d=some (.int v)/\0<v/\v<=2147483647:=by
 have:d=0∨d=1∨d=2∨d=3∨d=4∨d=5∨d=6:=by omega
 rcases this with rfl | rfl | rfl | rfl | rfl | rfl | rfl
 all_goals exact⟨_,rfl,by decide,by decide⟩
theorem ZnJ {f:Addr}{fd:FuncData} (F:Fun K "_law_next" "_law_next" sNx f fd) (T:Txt mg):FnOk P w K mg base CX0 1 f fd ["pot","many"] ZcN:=by
 refine F.ok scNx (fun vs H Q E h=>?_) (fun cdv A outer s H vs Q E hr h=>?_)
 ·obtain⟨p,m,rfl,_⟩:=h;rfl
 ·obtain⟨p,m,rfl,⟨a,b,c,hp⟩,h0,h1,k⟩:=h;refine⟨_,Zah (ZeU (ZaG Zh8 (ZaV Za0 (pv 0) Zag (fun _ _=>rfl)) Zag (ZaI _))
    (Zah (Zaq (i:=2) scNx.nd rfl (YaK rfl) (Zau ZdD (ZaV Za0 (pv 0) Zag (fun _ _=>rfl)) (pv 1)))
    (Zah (Zdz (Zau Zj6 (ZaV Za0 (pv 0) Zag (fun _ _=>rfl)) (pv 1)) (Zh1 (pv 0) Zag Zed))
    (Zam (Zaw (pv 2))))) Zbn)
   (Zah (Zdz (Zau ZaZ (ZaV Za0 (pv 0) Zag (fun _ _=>rfl)) Zag) (Zh1 (pv 0) Zag Zed))
   (Zah (Zaq (i:=3) scNx.nd rfl (YaK rfl) (ZaV Za0 (ZaU (Zaa Zag (Zaa Zag (Zaa Zag (Zaa Zag (Zaa Zag (Zaa Zag (Zaa Zag Zad)))))))) (Zau ZdD (ZaV Za0 (pv 0) Zag (fun _ _=>rfl)) Zag) (fun _ _=>rfl)))
   (Zah (Zaq (i:=4) scNx.nd rfl (YaK rfl) (Zau ZdD (Zau ZaZ (Zau ZaZ (Zau ZdC (ZaV Za0 (pv 0) Zag (fun _ _=>rfl)) Zag) (Zau ZdC Zag (ZaV Za0 (pv 0) Zag (fun _ _=>rfl)))) Zag) (pv 3)))
   (Zam (Zaw (Zau ZdD (Zau ZlI (Zau ZdD (Zau Zgr (pv 4) Zag) Zag) Zag) (pv 1))))))),?_⟩
  refine⟨_,rfl,p,_,0,.int a,rfl,rfl,SqL.of hp,rfl,_,_,rfl,rfl,_,rfl,?_⟩;refine ite2 (fun _=>?_) (fun _=>?_)
  ·refine⟨_,rfl,p,_,0,.int a,rfl,rfl,SqL.of hp,rfl,_,rfl,a,m,rfl,rfl,h0,?_⟩;refine⟨_,rfl,p,_,0,.int a,rfl,rfl,SqL.of hp,rfl,_,rfl,a,m,rfl,rfl,⟨h0,h1⟩,_,rfl,p,_,0,0,rfl,rfl,hp,rfl,_,rfl,?_⟩;exact k _ _ (Ydd _ (by (clear h1;omega))) (YcQ _ h0) ⟨_,_,_,Zab⟩ Sm.put
  ·refine⟨_,rfl,p,_,2,.int c,rfl,rfl,SqL.of hp,rfl,c,1,rfl,rfl,_,rfl,p,_,2,2,rfl,rfl,hp,rfl,?_⟩;refine⟨(by show 7<=sizeLine;decide),fun q hq=>?_⟩;have hp1:(upd (upd H p (.lst ([V.int a,.int b,.int c].set 2 (.int (c+1))))) q (.lst [V.int 2147483647,.int 2147483629,.int 2147483587,.int 2147483579,.int 2147483563,.int 2147483549,.int 2147483543])) p=some (.lst [.int a,.int b,.int (c+1)]):=by
    rw[Zaf (Zae Zab hq),Zab];rfl
   have sm:Sm p H (upd (upd H p (.lst ([V.int a,.int b,.int c].set 2 (.int (c+1))))) q (.lst [V.int 2147483647,.int 2147483629,.int 2147483587,.int 2147483579,.int 2147483563,.int 2147483549,.int 2147483543])):=Sm.put.trans (Sm.new hq);have hq1:(upd (upd H p (.lst ([V.int a,.int b,.int c].set 2 (.int (c+1))))) q (.lst [V.int 2147483647,.int 2147483629,.int 2147483587,.int 2147483579,.int 2147483563,.int 2147483549,.int 2147483543])) q=some (.lst [V.int 2147483647,.int 2147483629,.int 2147483587,.int 2147483579,.int 2147483563,.int 2147483549,.int 2147483543]):=Zab;generalize (upd (upd H p (.lst ([V.int a,.int b,.int c].set 2 (.int (c+1))))) q (.lst [V.int 2147483647,.int 2147483629,.int 2147483587,.int 2147483579,.int 2147483563,.int 2147483549,.int 2147483543]))=H1 at hp1 sm hq1 ⊢;refine⟨_,rfl,p,_,2,.int (c+1),rfl,rfl,SqL.of hp1,rfl,_,_,rfl,rfl,(by show (0:Int)<7;decide),?_⟩;obtain⟨v,ev,v0,v1⟩:=ix7 (Ydd (c+1) (show (7:Int)≠0 by decide)) (YcQ (c+1) (show (0:Int)<7 by decide));refine⟨q,_,_,_,rfl,rfl,SqL.of hq1,ev,?_⟩;refine⟨_,rfl,p,_,1,.int b,rfl,rfl,SqL.of hp1,rfl,b,69621,rfl,rfl,.inr ⟨by decide,by decide⟩,?_⟩;refine⟨_,rfl,p,_,2,.int (c+1),rfl,rfl,SqL.of hp1,rfl,7919,_,rfl,rfl,.inl ⟨by decide,by decide⟩,_,_,rfl,rfl,_,_,rfl,rfl,_,rfl,_,v,rfl,rfl,v0,?_⟩;have m0:=Ydd (b*69621+7919*(c+1)+12345) (show v≠0 by (clear v1 h1 h0;omega));have m1:=YcQ (b*69621+7919*(c+1)+12345) v0;refine⟨_,rfl,_,5,rfl,rfl,⟨by decide,by decide,?_⟩,_,_,rfl,rfl,(by show (0:Int)<2305843009213693951;decide),_,_,rfl,rfl,⟨by decide,by decide⟩,_,rfl,_,m,rfl,rfl,h0,?_⟩
   ·generalize (b*69621+7919*(c+1)+12345) % v=y at m0 m1
    (clear v0 h1 h0;omega)
   ·exact k _ _ (Ydd _ (by (clear m1 m0 v1 v0 h1;omega))) (YcQ _ h0) ⟨_,_,_,hp1⟩ sm
end
end Fs66
namespace Fs66
open PySem L2 Lv
section
variable {P:Program}{w:World}{K:Yac}{mg:Str->Option Value}{base:Heap}
theorem Zlo:FnScope ["p","lengths"] ["p","lengths"] (Zac Zdq):=⟨rfl,rfl,rfl,by decide +kernel,rfl,by decide +kernel,by decide +kernel⟩
theorem SqB.sameC {b:Bool}{H H':Hp}{a:Addr}{xs:List V} (e:Same H H') (h:SqB b K H a xs):SqB b K H' a xs:=by
 cases b
 ·exact e.tup h
 ·exact e.seq h
theorem Zka {f f1 f2 f3 f4:Addr}{fd d1 d2 d3 d4:FuncData} (F:Fun K "long_cascade" "long_cascade" Zdq f fd) (T:Txt mg) (CW:Cal P w K mg base 2 "check_ways" ["p"] ZeO f1 d1) (CN:Cal P w K mg base 1 "next_cascade_numbers" ["numbers"] Zbv f2 d2) (CT:Cal P w K mg base 2 "numbers_told" ["p","following"] (Zfx f2) f3 d3) (CB:Cal P w K mg base 3 "best_by" ["levels","lengths"] (Zd8 K) f4 d4):FnOk P w K mg base CX0 4 f fd ["p","lengths"] (Zd2 K):=by
 refine F.ok Zlo (fun vs H Q E h=>?_) (fun cdv A outer s H vs Q E hr h=>?_)
 ·obtain⟨p,ll,b,ls,rfl,_⟩:=h;rfl
 ·obtain⟨p,ll,b,ls,rfl,h2,h7,hL,hl5,hb,k⟩:=h;have hr2:Room 2 _:=hr.mono (by decide);refine⟨_,Zah (ZaO (Zan CW hr2 rfl (Zaa (pv 0) Zad)))
   (Zam (Zaw (ZcF ZkM (Zan CB hr rfl (Zaa (Zan CT hr2 rfl (Zaa (pv 0) (Zaa (Zgq CN rfl) Zad))) (Zaa (pv 1) Zad))) Zeh (ZbO Zag)))),?_⟩
  refine⟨_,rfl,p,rfl,by (clear hl5 h7;omega),by (clear hl5 h2;omega),?_⟩;refine⟨_,rfl,p,rfl,h2,h7,fun l as m H1 nl hl hLv hall hmore s1=>?_⟩;obtain⟨hm1,hm5⟩:=ZhD h2 h7 hmore;have hN:∀ N∈ZbJ p m,N.length<=7/\N.flatten.length<=100000/\∀ xs∈N,∀ z∈xs,Ya2 z<=8000:=fun N hm=>by
   unfold ZbJ at hm;obtain⟨i,hi,rfl⟩:=Yay.mp hm;have hi:=Ycr.mp hi;have ht:=hall i hi;have hg:=(Zcu h2 i).2
   have hfl:=Zb6 (casN p i);rw[Za3 (by (clear hfl hg ht hi hm5 hm1 hmore hl5 h7;omega))] at hfl;refine⟨by rw[ZaS (by (clear hfl hg ht hi hm5 hm1 hmore hl5 h7;omega))];exact h7,by (clear hfl hg hi hm5 hm1 hmore hl5 h7 h2;omega),fun xs hx z hz=>?_⟩;have:=Zbe i xs z hx hz;exact ZaW (by (clear hfl hg ht hi hm5 hm1 hmore hl5 h7 h2;omega)) (by (clear hi hm5 hm1 hmore hl5 h7 h2;omega))
  refine⟨_,rfl,l,ll,b,as,ZbJ p m,ls,rfl,hl,hLv,SqB.sameC s1 hL,hN,hb,fun o v H2 hO hV s2=>?_⟩;rw[ZeL] at hO
  match o,hO,hV with
  | none,hO,hV=>
   exfalso;have e:(ZbJ p m)[m - 1]?=some (casN p (m - 1)):=by unfold ZbJ;rw[Yas,YeK (by (clear hm5 hmore hl5 h7 h2;omega))];rfl
   exact hO (m - 1) _ (by (clear hm5 hmore hl5 h7 h2;omega)) e (by unfold Fit;(clear hm1 hmore h7 h2;omega))
  | some (R,n),hO,⟨t,pl,hv,ht⟩=>
   subst hv;refine⟨2,rfl,t,_,rfl,SqT.of ht,(by show ¬ (HT.sIx 3 0 none=0/\HT.sIx 3 3 (some 2)=3);decide),fun t2 nt2=>?_⟩;exact k t2 R n m _ ((s1.trans s2).free nt2) Zab hO hall hmore ((s1.trans s2).trans (Same.new nt2))
end
end Fs66
namespace Fs66
open PySem L2 Lv
section
variable {P:Program}{w:World}{K:Yac}{mg:Str->Option Value}{base:Heap}
theorem ZjM:FnScope ["p"] ["p"] (Zac Zcj):=⟨rfl,rfl,rfl,by decide +kernel,rfl,by decide +kernel,by decide +kernel⟩
theorem Zii {f:Addr}{fd:FuncData} (F:Fun K "first_spreads" "first_spreads" Zcj f fd) (T:Txt mg):FnOk P w K mg base CX0 1 f fd ["p"] ZcC:=by
 refine okW F ZjM (fun vs H Q E h=>?_) (fun cdv A outer s H vs Q E hr h=>?_)
 ·obtain⟨p,rfl,_⟩:=h;rfl
 ·obtain⟨p,rfl,h1,h2,k⟩:=h;refine⟨_,ZaD (Zht (Zmc ZdE (Zhu (Zf5 rfl (Zjz ZkI ZkI) Zhv))
   (we (Zcq (own:=["reel"]) (js:=[]) (CompOk.bare (by decide +kernel)) rfl (ZaP rfl T.range (Zaa (Zau ZdB (pv 0) Zag) Zad)) ZbB
    (fun _ _ _ _ _=>Zak (i:=0) (by show (["reel"]:List Str).Nodup;decide +kernel) rfl (YaK rfl) (.inr rfl)) (fun _ _ _ _ _=>Zba) (fun _ _ _ _ _=>Zek))))),?_⟩
  intro d hd;refine⟨Zab,[(Ybp 0,.int 1)],rfl,by decide,(by show 1<=sizeLine;decide),fun l hl=>?_⟩;rw[Zla] at hl ⊢;have r0:Rep (Zcx [] [(Ybp 0,.int 1)]) (cn [0]):=(Rep.nil.put (m:=0) (c:=1) (by decide)).congr fun m=>by
   rw[ZfZ,Zfb];split <;> rfl
  generalize Zcx [] [(Ybp 0,V.int 1)]=kv at r0 hl ⊢;have s1:Same H (upd H d (.dK kv)):=Same.new hd;have e1:upd H d (.dK kv) d=some (.dK kv):=Zab;generalize upd H d (.dK kv)=H1 at s1 e1 hl ⊢;have s2:Same H1 (upd H1 l (.lst [.ref d])):=Same.new hl;have e2:upd H1 l (.lst [.ref d]) l=some (.lst [.ref d]):=Zab;generalize upd H1 l (.lst [.ref d])=H2 at s2 e2 ⊢;refine⟨_,rfl,_,_,rfl,rfl,(p:Int) - 1,rfl,by (clear h2 h1;omega),by (clear h1;omega),?_⟩;have en:((p:Int) - 1).toNat=p - 1:=by (clear h2 h1;omega)
  rw[en];refine ZdP (fun acc i H3=>∃ qs:List Addr,Same H2 H3/\H3 acc=some (.lst (qs.map V.ref))/\DDs H3 qs (Yae i [])) (fun acc h0=>⟨[],Same.new h0,Zab,DDs.nil⟩) ?_ ?_
  ·rintro acc i H3 h0 hi ⟨qs,s3,hacc,hq⟩;intro q hq0;have hne:q≠acc:=fun z=>by rw[z,hacc] at hq0;cases hq0
   refine⟨_,(Same.new hq0) acc _ hacc,Zas (by have:=hq.1;simp at this ⊢;(clear hne en h1;omega)),hi,qs++[q],?_,?_,?_⟩
   ·exact (s3.put (q:=q) (s3.free hq0)).put h0
   ·rw[Zab];simp
   ·rw[YeD];have hq':DDs (upd (upd H3 q (.dK [])) acc (.lst (qs.map V.ref++[V.ref q]))) qs (Yae i []):=⟨hq.1,fun j r xs a b=>by
     obtain⟨kvs,e,rr⟩:=hq.2 j r xs a b;have n1:r≠q:=Zae e hq0;have n2:r≠acc:=ZlQ e hacc (fun z=>nomatch z);exact⟨kvs,by rw[Zaf n2,Zaf n1];exact e,rr⟩⟩
    exact hq'.snoc (kvs:=[]) (by rw[Zaf hne,Zab]) (Rep.nil.congr fun m=>by rw[Zfb])
  ·rintro acc H3 h0 ⟨qs,s3,hacc,hq⟩;have hql:=hq.1;rw[Ya7] at hql;refine⟨l,acc,_,_,rfl,rfl,s3 l _ e2,hacc,?_,fun r hr=>?_⟩
   ·exact Ya8 (Zas (by simp;(clear en h1;omega)))
   have s4:Same H3 (upd H3 r (.lst ([V.ref d]++qs.map V.ref))):=Same.new hr;refine k r (d::qs) _ (s1.free (s2.free (s3.free hr))) (by rw[Zab];rfl) ?_ (((s1.trans s2).trans s3).trans s4);exact (hq.same s4).cons (s4 _ _ (s3 _ _ (s2 _ _ e1))) r0
theorem Zni:bootBuiltins "dict"=some (.type "dict"):=by decide +kernel
theorem scBothS:FnScope ["one","other","both","number","many"] ["one","other"] (Zac Zdu):=⟨rfl,rfl,rfl,by decide +kernel,rfl,by decide +kernel,by decide +kernel⟩
theorem Zkf {f:Addr}{fd:FuncData} (F:Fun K "both_spreads" "both_spreads" Zdu f fd) (T:Txt mg) (Td:mg "dict"=none):FnOk P w K mg base CX0 1 f fd ["one","other"] Zd7:=by
 refine F.ok scBothS (fun vs H Q E h=>?_) (fun cdv A outer s H vs Q E hr h=>?_)
 ·obtain⟨a,b,k1,k2,f,g,rfl,_⟩:=h;rfl
 ·obtain⟨a,b,k1,k2,f,g,rfl,ha,hb,r1,r2,f0,g0,fb,gb,k⟩:=h;have hu:=ZnW hr;refine⟨_,Zah (Zaq (i:=2) scBothS.nd rfl (YaK rfl) (ZaQ Zf0 rfl Td Zni (Zaa (pv 0) Zad)))
   (Zah (ZmJ (ZaY Ya0 rfl (Zgn (Zej (pv 1))) (ZbF rfl (Zap (Zak (i:=3) scBothS.nd rfl (YaK rfl)) (Zap (Zak (i:=4) scBothS.nd rfl (YaK rfl)) ZaH)))
    (Zam (Zlx hu (pv 2) (pv 3) (Zau ZaZ (Zj4 hu (pv 2) (pv 3) Zag ⟨rfl,rfl,rfl,rfl⟩) (pv 4)) rfl))))
   (Zam (Zaw (pv 2)))),?_⟩
  refine⟨_,rfl,a,k1,rfl,.inl ha,fun d hd=>?_⟩;have nbd:b≠d:=Zae hb hd;refine .inl ⟨b,k2,by rw[Zaf nbd];exact hb,fun o=>?_⟩;refine⟨_,rfl,b,k2,rfl,.inr ⟨o,Zab⟩,fun v hv=>⟨v,b,o,k2,rfl,Zab,by rw[Zaf (Zae Zab hv)];exact Zab,?_⟩⟩;have nvb:v≠b:=fun z=>by rw[z,Zab] at hv;cases hv
  have hvH:H v=none:=by
   have:=hv;rw[Zaf nvb] at this;exact (Same.new hd).free this
  have nvd:v≠d:=fun z=>by rw[z,Zaf (Yba nbd),Zab] at hv;cases hv
  refine ZiZ (kvs:=k2) (fun i σ H2=>∃ (kvs:List (Key × V)) (o3 o4:Option V),σ=[some (.ref a),some (.ref b),some (.ref d),o3,o4]/\H2 b=some (.frz o (.dK k2))/\H2 d=some (.dK kvs)/\(∀ c u,H c=some u->c≠b->H2 c=some u) /\
   Rep kvs (fun m=>f m+tkn g ((k2.take i).map (·.1)) m)) ?_ (fun i σ H2 _ z=>by obtain⟨_,_,_,_,e,_⟩:=z;exact e) ?_ ?_
  ·refine⟨k1,none,none,rfl,?_,?_,fun c u hc nc=>?_,r1.congr fun m=>?_⟩
   ·rw[Zaf (Yba nvb),Zab]
   ·rw[Zaf (Yba nvd),Zaf (Yba nbd),Zab]
   ·rw[Zaf (Zae hc hvH),Zaf nc,Zaf (Zae hc hd)];exact hc
   ·rw[Ybv,Ycl,ZhE,YcR]
  ·rintro i kk vv p σ H2 hi ⟨kvs,o3,o4,rfl,eb,ed,sm,rr⟩ hp;obtain⟨m,rfl,rfl,hz⟩:=r2.at (YaE hi);have npd:d≠p:=Zae ed hp;have hnot:=ZiI r2.2.1 hi;refine⟨p,_,rfl,SqT.of Zab,rfl,_,_,rfl,_,_,rfl,rfl,?_⟩;refine⟨_,rfl,d,rfl,.inl ⟨kvs,.inl (by rw[Zaf npd];exact ed)⟩,_,rfl,_,DGet.k (k:=Ybp m) (by rw[Zaf npd];exact ed),_,rfl,?_⟩;rw[rr.get m,ZdV hnot,YcR];refine⟨_,_,rfl,rfl,_,rfl,_,rfl,d,_,rfl,DPut.k (k:=Ybp m) (by rw[Zaf npd];exact ed) ?_,?_⟩
   ·have:=rr.len (B:=400) fun j hj=>by
     by_cases e:f j=0
     ·exact gb j fun z=>hj (by rw[e,Zf9 z];rfl)
     ·exact fb j e
    exact Zas (by (clear hnot npd hz nvd nvb nbd hu;omega))
   ·refine⟨_,_,_,rfl,?_,Zab,fun c u hc nc=>?_,(rr.put (m:=m) (c:=f m+g m) ?_).congr fun j=>?_⟩
    ·rw[Zaf nbd,Zaf (Zae eb hp)];exact eb
    ·rw[Zaf (Zae hc hd),Zaf (Zae (sm c u hc nc) hp)];exact sm c u hc nc
    ·have:=f0 m;have:=g0 m;(clear hnot npd nvd nvb nbd hu;omega)
    ·rw[Ze4 hi,Zga hnot];by_cases e:j=m
     ·rw[if_pos e,if_pos e,e]
     ·rw[if_neg e,if_neg e]
  ·rintro σ H2 ⟨kvs,o3,o4,rfl,eb,ed,sm,rr⟩;refine⟨eb,_,rfl,?_⟩;refine k d kvs _ hd (by rw[Zaf (Yba nbd)];exact ed) (rr.congr fun m=>?_) fun c u hc=>?_
   ·rw[YaP,ZhF r2]
   ·by_cases e:c=b
    ·subst e;rw[Zab,<- hb,hc]
    ·rw[Zaf e];exact sm c u hc e
theorem scOverS:FnScope ["spreads","spread","on_reel"] ["spreads"] (Zac Zdo):=⟨rfl,rfl,rfl,by decide +kernel,rfl,by decide +kernel,by decide +kernel⟩
theorem Zj8 {f f1:Addr}{fd d1:FuncData} (F:Fun K "spread_over" "spread_over" Zdo f fd) (T:Txt mg) (CB:Cal P w K mg base 1 "both_spreads" ["one","other"] Zd7 f1 d1):FnOk P w K mg base CX0 2 f fd ["spreads"] Zd1:=by
 refine okW F scOverS (fun vs H Q E h=>?_) (fun cdv A outer s H vs Q E hr h=>?_)
 ·obtain⟨a,rs,N,rfl,_⟩:=h;rfl
 ·obtain⟨a,rs,N,rfl,hA,hD,hN7,hB,k⟩:=h;refine⟨_,Zai (Zf3 (i:=1) scOverS.nd rfl (YaK rfl) (we Zek))
   (Zai (ws (ZaY Ya0 rfl (ZhZ (pv 0)) (Zak (i:=2) scOverS.nd rfl (YaK rfl)) (Zam (Zaq (i:=1) scOverS.nd rfl (YaK rfl) (Zan CB hr rfl (Zaa (pv 1) (Zaa (pv 2) Zad)))))))
   (ZaD (Zht (we (ZaQ ZaE rfl T.tuple ZbT (Zaa (Zar (Zhp rfl) rfl T.sorted ZeC (Zaa (Zej (pv 1)) Zad)) Zad)))))),?_⟩
  intro d hd;have s1:Same H (upd H d (.dK [])):=Same.new hd;have e1:upd H d (.dK []) d=some (.dK []):=Zab;generalize upd H d (.dK [])=H1 at s1 e1 ⊢;refine⟨_,rfl,a,rfl,⟨_,SqL.of (s1 _ _ hA)⟩,Zgy (xs:=rs.map V.ref) (fun i σ H2=>∃ (d:Addr) (kvs:List (Key × V)) (o2:Option V),σ=[some (.ref a),some (.ref d),o2]/\H2 d=some (.dK kvs)/\Rep kvs (cn (N.take i).flatten)/\Same H H2)
   ⟨d,[],none,rfl,e1,Rep.nil.congr fun m=>by rw[Ybv,List.flatten_nil,Zfb],s1⟩ (fun i σ H2 _ z=>by obtain⟨_,_,_,_,_,_,sz⟩:=z;exact SqL.of (sz _ _ hA)) ?_ ?_⟩
  ·rintro i x σ H2 hx ⟨d,kvs,o2,rfl,e2,rp,s2⟩;obtain⟨r,hr',rfl⟩:=Zbf hx;obtain⟨xs,k2,hxs,hk2,rp2⟩:=(hD.same s2).at hr';refine⟨_,rfl,_,rfl,d,r,kvs,k2,_,_,rfl,e2,hk2,rp,rp2,Zc3 _,Zc3 _,?_,?_,fun l kv H6 hl6 e6 rp6 s6=>?_⟩
   ·exact fun m hm=>Zl8 (N:=N.take i) (fun ys hy=>hB ys (Ybo hy)) m hm
   ·exact fun m hm=>hB xs (YaE hxs) m (cn_ne.mp hm)
   ·refine⟨l,kv,_,rfl,e6,rp6.congr fun m=>?_,s2.trans s6⟩;rw[Ybn,hxs,Ybd,Zfc];simp
  ·rintro σ H2 ⟨d,kvs,o2,rfl,e2,rp,s2⟩;rw[Yad,hD.1,YaP] at rp;refine⟨_,rfl,d,kvs,rfl,.inl e2,fun v hv=>⟨v,d,kvs.map Lv.dec,rfl,Zab,.inl ?_,fun l qs ms H3 hl hq hp hs e3 ht s3=>?_⟩⟩
   ·rw[Zaf (Zae e2 hv),e2];exact congrArg (fun z=>some (HO.dK z)) rp.dec
   ·have s4:Same H2 H3:=(Same.new hv).trans s3;refine⟨l,_,rfl,.inl ⟨SqL.of e3,fun l2 hl2=>?_⟩⟩;have s5:=s4.trans (Same.new (o:=.tup (qs.map V.ref)) hl2);refine k l2 qs ms _ (s2.free (s4.free hl2)) Zab (TTs.same ht (Same.new hl2)) (Zmv rp hp hs) (s2.trans s5)
theorem scAfterS:FnScope ["p","n","following","spreads","level"] ["p","n","following"] (Zac Zcm):=⟨rfl,rfl,rfl,by decide +kernel,rfl,by decide +kernel,by decide +kernel⟩
theorem Zil {f f1 f2 f3:Addr}{fd d1 d2 d3:FuncData}{y:Str}{S:Nat->Nat->List (List Int)}{nx:List (List Int)->List (List Int)}{top:Nat} (htop:top<=300) (S0:∀ p,S p 0=num0 p) (S1:∀ p n,S p (n+1)=nx (S p n)) (SB:∀ p n:Nat,2<=p->Bd n (S p n)) (SL:∀ p n:Nat,2<=p->(S p n).length=p)
  (F:Fun K "spread_after" "spread_after" Zcm f fd) (T:Txt mg) (CF:Cal P w K mg base 1 "first_spreads" ["p"] ZcC f1 d1) (CN:Cal P w K mg base 2 y ["spreads"] (Zcc nx) f2 d2) (CO:Cal P w K mg base 2 "spread_over" ["spreads"] Zd1 f3 d3):FnOk P w K mg base CX0 3 f fd ["p","n","following"] (Zd9 f2 S):=by
 refine F.ok scAfterS (fun vs H Q E h=>?_) (fun cdv A outer s H vs Q E hr h=>?_)
 ·obtain⟨p,n,rfl,_⟩:=h;rfl
 ·obtain⟨p,n,rfl,h1,h2,h3,k⟩:=h;have hr1:Room 1 _:=hr.mono (by decide);refine⟨_,Zah (Zaq (i:=3) scAfterS.nd rfl (YaK rfl) (Zan CF hr1 rfl (Zaa (pv 0) Zad)))
   (Zah (ZaY Ya0 rfl (ZaP rfl T.range (Zaa (pv 1) Zad)) (Zak (i:=4) scAfterS.nd rfl (YaK rfl)) (Zam (Zaq (i:=3) scAfterS.nd rfl (YaK rfl) (Zel 2 CN hr (Zaa (pv 3) Zad)))))
   (Zam (Zaw (Zan CO hr rfl (Zaa (pv 3) Zad))))),?_⟩
  refine⟨_,rfl,p,rfl,h1,h2,fun l qs H1 hl0 hl1 hq1 s1=>?_⟩;refine⟨_,rfl,n,rfl,by (clear h3 h2 h1 htop;omega),by (clear h2 h1 htop;omega),Za7 (fun i σ H2=>∃ (l:Addr) (qs:List Addr) (o:Option V),σ=[some (.int p),some (.int n),some (.ref f2),some (.ref l),o]/\H l=none/\H2 l=some (.lst (qs.map V.ref))/\DDs H2 qs (S p i)/\Same H H2)
   ⟨l,qs,none,rfl,hl0,hl1,by rw[S0];exact hq1,s1⟩ ?_ ?_⟩
  ·rintro i σ H2 hi ⟨l,qs,o,rfl,hl0,hl2,hq,s2⟩;have hlen:=SL p i h1;refine⟨rfl,_,rfl,l,qs,S p i,rfl,hl2,hq,by (clear hi h3 h2 htop;omega),by (clear hi h3 h1 htop;omega),(SB p i h1).mono (by (clear hlen h2 h1 htop;omega)),fun l3 qs3 H3 h30 h3 hq3 s3=>?_⟩;exact⟨l3,qs3,_,rfl,s2.free h30,h3,by rw[S1];exact hq3,s2.trans s3⟩
  ·rintro σ H2 ⟨l,qs,o,rfl,hl0,hl2,hq,s2⟩;have en:((n:Int)).toNat=n:=by (clear h3 h2 h1 htop;omega)
   rw[en] at hq;have hlen:=SL p n h1;refine⟨_,rfl,l,qs,S p n,rfl,hl2,hq,by (clear en h3 h1 htop;omega),(SB p n h1).mono (by (clear hlen en h2 h1 htop;omega)),fun l3 qs3 L H3 h30 h3 ht sp s3=>?_⟩;exact k l3 qs3 L H3 (s2.free h30) h3 ht sp (s2.trans s3)
end
end Fs66
namespace Fs66
open PySem L2 Lv
section
variable {P:Program}{w:World}{K:Yac}{mg:Str->Option Value}{base:Heap}
theorem scLeastS:FnScope ["spread","rows","reading","left","number","many"] ["spread","rows"] (Zac Zch):=⟨rfl,rfl,rfl,by decide +kernel,rfl,by decide +kernel,by decide +kernel⟩
theorem Zlz {H:Hp}{qs:List Addr}{L:List (Int × Int)} (ht:TTs H qs (L.map pr2)) {i:Nat}{x:V} (hx:(qs.map V.ref)[i]?=some x):∃ (q:Addr) (m c:Int),x=.ref q/\L[i]?=some (m,c)/\H q=some (.tup [.int m,.int c])/\i<qs.length:=by
 obtain⟨q,hq,rfl⟩:=Zbf hx;have hi:=(Yaa.mp hq).1
 have hi2:i<L.length:=by have:=ht.1;rw[Yad] at this;omega
 have e:L[i]?=some L[i]:=Yaf hi2;exact⟨q,_,_,rfl,e,ht.2 i q (pr2 L[i]) hq (by rw[Yas,e];rfl),hi⟩
theorem Zig {f:Addr}{fd:FuncData} (F:Fun K "least_of_spread" "least_of_spread" Zch f fd) (T:Txt mg):FnOk P w K mg base CX0 1 f fd ["spread","rows"] Zd5:=by
 refine okW F scLeastS (fun vs H Q E h=>?_) (fun cdv A outer s H vs Q E hr h=>?_)
 ·obtain⟨l,qs,M,r,rfl,_⟩:=h;rfl
 ·obtain⟨l,qs,M,r,rfl,hl,ht,hb,k⟩:=h;refine⟨_,(Zai (ws (Zaq (i:=2) scLeastS.nd rfl (YaK rfl) Zag))
   (Zai (ws (Zaq (i:=3) scLeastS.nd rfl (YaK rfl) (pv 1)))
   (Zai (ws (ZaY Ya0 rfl (ZdA (pv 0)) (ZbF rfl (Zap (Zak (i:=4) scLeastS.nd rfl (YaK rfl)) (Zap (Zak (i:=5) scLeastS.nd rfl (YaK rfl)) ZaH)))
   (WSs.out (Zai (ws (ZkP (i:=2) scLeastS.nd rfl (YaK rfl) (Zau ZdC (pv 4) (Zar (Zbr rfl) rfl T.min Zjq (Zaa (pv 5) (Zaa (pv 3) Zad)))) Zm6))
    (ZaD (ws (ZkP (i:=3) scLeastS.nd rfl (YaK rfl) (Zar (Zbr rfl) rfl T.min Zjq (Zaa (pv 5) (Zaa (pv 3) Zad))) Zm5)))))))
   (ZaD (ws (Zaw (Zgp (ZaG Zh8 (pv 3) Zag (ZaI _)) ZcS (pv 2)))))))),?_⟩
  refine⟨_,rfl,?_⟩;refine⟨_,rfl,l,rfl,⟨_,SqT.of hl⟩,?_⟩;have hql:qs.length=M.length:=by have:=ht.1;rwa [Yad] at this
  refine Zet (xs:=qs.map V.ref) (fun i σ H2=>∃ (o4 o5:Option V),σ=[some (.ref l),some (.int r),some (.int (lsF (M.take i) (0,r)).1),some (.int (lsF (M.take i) (0,r)).2),o4,o5]/\Same H H2)
   ⟨_,_,rfl,Same.refl _⟩ (fun i σ H2 _ z=>by obtain⟨_,_,_,sz⟩:=z;exact SqT.of (sz _ _ hl)) ?_ ?_
  ·rintro i x σ H2 hx ⟨o4,o5,rfl,s2⟩;obtain⟨q,m,c,rfl,hMi,hq,hi⟩:=Zlz ht hx;have hmb:=hb _ (YaE hMi);refine⟨q,_,rfl,SqT.of (s2 _ _ hq),rfl,_,_,rfl,_,_,rfl,rfl,?_⟩;refine⟨_,rfl,_,rfl,_,rfl,_,rfl,_,_,rfl,_,_,rfl,rfl,.inl ⟨by (clear hi hql;omega),by (clear hi hql;omega)⟩,_,_,rfl,rfl,?_⟩;refine⟨_,rfl,_,rfl,_,rfl,_,_,rfl,_,_,rfl,rfl,?_⟩;refine⟨some (.int m),some (.int c),?_,s2⟩;rw[Zkq hMi];rfl
  ·rintro σ H2 ⟨o4,o5,rfl,s2⟩;rw[Yad,hql,YaP];refine⟨_,rfl,_,_,rfl,rfl,_,rfl,ite2 (fun hc=>?_) fun hc=>?_⟩
   ·have:=k H2 s2
    rwa [if_pos (of_decide_eq_true hc)] at this
   ·have:=k H2 s2;rw[if_neg (fun z=>hc (decide_eq_true z))] at this;exact⟨_,rfl,this⟩
def BoV (H:Hp) (v:V):Option (Int × Nat)->Prop
 | none=>v=.non
 | some q=>∃ l,v=.ref l/\H l=some (.tup [.int q.1,.int q.2])
theorem BoV.same {H H':Hp}{v:V}{st:Option (Int × Nat)} (h:BoV H v st) (s:Same H H'):BoV H' v st:=by
 cases st with
 | none=>exact h
 | some q=>obtain⟨l,e,hl⟩:=h;exact⟨l,e,s _ _ hl⟩
def cBo (S:Nat->Nat->List (List Int)) (p:Nat) (rows:Int) (n:Nat):Int:=rows*((sprC (S p n).flatten).headD (0,0)).1
def gBo (S:Nat->Nat->List (List Int)) (p:Nat) (rows:Int) (n:Nat):Option Int:=Ze2 (S p n).flatten rows
def spBo (fn:Addr) (S:Nat->Nat->List (List Int)):Sp:=fun vs H Q _=>∃ (p last:Nat) (rows:Int),vs=[.int p,.int rows,.int last,.ref fn]/\2<=p/\p<=7/\last<=300/\0<=rows/\∀ v H',BoV H' v (bo (gBo S p rows) (cBo S p rows) (last+1) 0 none)->Same H H'->Q v H'
theorem scBo:FnScope ["p","rows","last","following","best","spreads","n","spread","least","reading"] ["p","rows","last","following"] (Zac sBo):=⟨rfl,rfl,rfl,by decide +kernel,rfl,by decide +kernel,by decide +kernel⟩
theorem ZnK {f f1 f2 f3 f4:Addr}{fd d1 d2 d3 d4:FuncData}{y:Str}{S:Nat->Nat->List (List Int)}{nx:List (List Int)->List (List Int)} (S0:∀ p,S p 0=num0 p) (S1:∀ p n,S p (n+1)=nx (S p n)) (SB:∀ p n:Nat,2<=p->Bd n (S p n)) (SL:∀ p n:Nat,2<=p->(S p n).length=p) (SN:∀ p n:Nat,2<=p->(S p n).flatten≠[])
  (F:Fun K "best_over" "best_over" sBo f fd) (T:Txt mg) (CF:Cal P w K mg base 1 "first_spreads" ["p"] ZcC f1 d1) (CN:Cal P w K mg base 2 y ["spreads"] (Zcc nx) f2 d2) (CO:Cal P w K mg base 2 "spread_over" ["spreads"] Zd1 f3 d3) (CL:Cal P w K mg base 1 "least_of_spread" ["spread","rows"] Zd5 f4 d4):FnOk P w K mg base CX0 3 f fd ["p","rows","last","following"] (spBo f2 S):=by
 refine okW F scBo (fun vs H Q E h=>?_) (fun cdv A outer s H vs Q E hr h=>?_)
 ·obtain⟨p,last,rows,rfl,_⟩:=h;rfl
 ·obtain⟨p,last,rows,rfl,h1,h2,h3,h0,k⟩:=h;have hr1:Room 1 _:=hr.mono (by decide);refine⟨_,(Zai (ws (Zaq (i:=4) scBo.nd rfl (YaK rfl) ZcS))
   (Zai (ws (Zaq (i:=5) scBo.nd rfl (YaK rfl) (Zan CF hr1 rfl (Zaa (pv 0) Zad))))
   (Zai (ws (ZaY Ya0 rfl (ZaP rfl T.range (Zaa (Zau ZaZ (pv 2) Zag) Zad)) (Zak (i:=6) scBo.nd rfl (YaK rfl))
   (WSs.out (Zai (ws (Zaq (i:=7) scBo.nd rfl (YaK rfl) (Zan CO hr rfl (Zaa (pv 5) Zad))))
    (Zai (ws (Zaq (i:=8) scBo.nd rfl (YaK rfl) (ZaV Za9 (ZaV Za9 (pv 7) Zag (fun _ _=>rfl)) Zag (fun _ _=>rfl))))
    (Zai (Zfo (PW.pt (ZhX (ZaG Zh6 (pv 4) ZcS (ZaI _)) (ZfC (ZaG ZlH (Zau ZdC (pv 1) (pv 8)) (ZaV Za9 (pv 4) Zag (fun _ _=>rfl)) (ZaI _)))))
    (ZaD (ws (Zaw (pv 4))))
    ZbG)
    (Zai (ws (Zaq (i:=9) scBo.nd rfl (YaK rfl) (Zan CL hr1 rfl (Zaa (pv 7) (Zaa (pv 1) Zad)))))
    (Zai (Zfo (PW.pt (ZhX (ZaG Zh6 (pv 9) ZcS (ZaI _)) (ZfC (PW.pt (ZhW (ZaG ZmS (pv 4) ZcS (ZaI _)) (ZeT (ZaG Zh7 (pv 9) (ZaV Za9 (pv 4) Zag (fun _ _=>rfl)) (ZaI _))))))))
    (ZaD (ws (Zaq (i:=4) scBo.nd rfl (YaK rfl) (Zbj (Zaa (pv 9) (Zaa (pv 6) Zad))))))
    ZbG)
    (ZaD (ws (Zaq (i:=5) scBo.nd rfl (YaK rfl) (Zel 3 CN hr (Zaa (pv 5) Zad)))))))))))))
   (ZaD (ws (Zaw (pv 4))))))),?_⟩
  refine⟨_,rfl,p,rfl,h1,h2,fun l0 q0 H1 hl0 hl1 hq1 s1=>?_⟩;refine⟨_,rfl,_,_,rfl,rfl,last+1,rfl,by (clear h0 h3 h2 h1;omega),by (clear h0 h2 h1;omega),Za7 (fun i σ H2=>∃ (l:Addr) (qs:List Addr) (bv:V) (st:Option (Int × Nat)) (o6 o7 o8 o9:Option V),σ=[some (.int p),some (.int rows),some (.int last),some (.ref f2),some bv,some (.ref l),o6,o7,o8,o9]/\H2 l=some (.lst (qs.map V.ref))/\DDs H2 qs (S p i)/\BoV H2 bv st/\bo (gBo S p rows) (cBo S p rows) (last+1 - i) i st=bo (gBo S p rows) (cBo S p rows) (last+1) 0 none/\Same H H2)
   ⟨l0,q0,.non,none,none,none,none,none,rfl,hl1,by rw[S0];exact hq1,rfl,rfl,s1⟩ ?_ ?_⟩
  ·rintro i σ H2 hi ⟨l,qs,bv,st,o6,o7,o8,o9,rfl,hl2,hq,hb,hbo,s2⟩;have hlen:=SL p i h1;have hB:=SB p i h1;refine⟨_,rfl,l,qs,S p i,rfl,hl2,hq,by (clear hi h0 h3 h1;omega),hB.mono (by (clear hlen h0 h2 h1;omega)),fun ls qs3 L H3 h30 h3 ht sp s3=>?_⟩;have hi3:i<=last:=by (clear hlen h0 h2 h1;omega)
   have hb4:∀ m∈(S p i).flatten,0<=m/\m<=400:=fun m hm=>by
    obtain⟨xs,hx,hmx⟩:=Ybh.mp hm;have:=hB xs hx m hmx
    (clear hi3 hlen h0 h2 h1;omega)
   have eL:=Zli hb4 sp;obtain⟨q,M,rfl⟩:∃ q M,L=q::M:=by
    cases L with
    | cons q M=>exact⟨q,M,rfl⟩
    | nil=>
     exfalso;obtain⟨m,hm⟩:=YcN _ (SN p i h1);have:=(Za2 sp m).mpr hm;simp at this
   have hql:=ht.1;rw[Yad,YaH] at hql;obtain⟨a0,ha0⟩:∃ a0,qs3[0]?=some a0:=⟨qs3[0]'(by (clear hi3 hlen hi h0 h2 h1;omega)),Yaf (by (clear hi3 hlen hi h0 h2 h1;omega))⟩
   have hq0:H3 a0=some (.tup [.int q.1,.int q.2]):=ht.2 0 a0 [q.1,q.2] ha0 rfl;have at0:atI (qs3.map V.ref) 0=some (.ref a0):=by
    have:=ZeD (xs:=qs3.map V.ref) (j:=0) (v:=.ref a0) (by rw[Yas,ha0];rfl);exact this
   have hqb:=hb4 q.1 ((Za2 sp q.1).mp (Yay.mpr ⟨q,Yai,rfl⟩));have ec:cBo S p rows i=rows*q.1:=by unfold cBo;rw[<- eL];rfl
   have hb3:=hb.same s3;have ek:last+1 - i=(last - i)+1:=by (clear ec hqb hql hi3 hlen h0 h2 h1;omega)
   rw[ek] at hbo
   replace hbo:(if Zfh (cBo S p rows) i st=true then st else bo (gBo S p rows) (cBo S p rows) (last - i) (i+1) (Zb9 (gBo S p rows) i st))=bo (gBo S p rows) (cBo S p rows) (last+1) 0 none:=hbo
   refine⟨_,rfl,ls,_,0,.ref a0,rfl,rfl,SqT.of h3,at0,a0,_,0,.int q.1,rfl,rfl,SqT.of hq0,rfl,?_⟩;dsimp only;refine cutG (fun σ' H'=>σ'=[some (.int p),some (.int rows),some (.int last),some (.ref f2),some bv,some (.ref l),some (.int (0+(i:Int))),some (.ref ls),some (.int q.1),o9]/\H'=H3/\¬ Zfh (cBo S p rows) i st=true) (fun R hR=>?_) ?_
   ·cases st with
    | none=>
     cases (show bv=.non from hb);exact⟨_,rfl,rfl,_,rfl,iteF (iteF (hR _ _ ⟨rfl,rfl,fun z=>nomatch z⟩))⟩
    | some qq=>
     obtain⟨lb,rfl,hlb⟩:=hb3;refine⟨_,rfl,rfl,_,rfl,iteT ⟨_,rfl,_,rfl,_,_,rfl,rfl,.inr ⟨by (clear ek ec hql hi3 hlen hi h0 h2 h1;omega),by (clear ek ec hql hi3 hlen hi h0 h2 h1;omega)⟩,_,rfl,lb,_,0,.int qq.1,rfl,rfl,SqT.of hlb,rfl,_,_,rfl,rfl,_,rfl,ite2 (fun hc=>?_) (fun hc=>?_)⟩⟩
     ·have hs:Zfh (cBo S p rows) i (some qq)=true:=by
       show decide (cBo S p rows i ≥ qq.1)=true;rw[ec];exact hc
      rw[if_pos hs] at hbo;refine⟨_,rfl,k _ H3 ?_ (s2.trans s3)⟩;rw[<- hbo];exact⟨lb,rfl,hlb⟩
     ·refine hR _ _ ⟨rfl,rfl,fun z=>hc ?_⟩;have:decide (cBo S p rows i ≥ qq.1)=true:=z;rw[ec] at this;exact this
   ·rintro σ' H' ⟨rfl,rfl,hns⟩;rw[if_neg hns] at hbo;refine⟨_,rfl,_,rfl,ls,qs3,q::M,rows,rfl,h3,ht,fun y hy=>?_,fun H4 s4=>?_⟩
    ·have:=hb4 y.1 ((Za2 sp y.1).mp (Yay.mpr ⟨y,hy,rfl⟩))
     (clear hns ek ec hqb hql hi3 hlen hi h0 h2 h1;omega)
    have hb5:=hb3.same s4;have eg:gBo S p rows i=if (lsF (q::M) (0,rows)).2 > 0 then none else some (lsF (q::M) (0,rows)).1:=by unfold gBo Ze2;rw[<- eL]
    generalize lsF (q::M) (0,rows)=z at eg ⊢;dsimp only;refine cutG (fun σ' H'=>∃ bv' o9',σ'=[some (.int p),some (.int rows),some (.int last),some (.ref f2),some bv',some (.ref l),some (.int (0+(i:Int))),some (.ref ls),some (.int q.1),o9']/\BoV H' bv' (Zb9 (gBo S p rows) i st)/\Same H4 H') (fun R hR=>?_) ?_
    ·by_cases hz:z.2 > 0
     ·rw[if_pos hz] at eg ⊢;refine⟨_,rfl,rfl,_,rfl,iteF (iteF (hR _ _ ⟨bv,_,rfl,?_,Same.refl _⟩))⟩;unfold Zb9;rw[eg];exact hb5
     ·rw[if_neg hz] at eg ⊢;refine⟨_,rfl,rfl,_,rfl,iteT ?_⟩
      cases st with
      | none=>
       cases (show bv=.non from hb);refine⟨_,rfl,rfl,_,rfl,iteT (iteT ⟨_,rfl,_,rfl,(by show 2<=sizeLine;decide),fun t nt=>hR _ _ ⟨.ref t,_,rfl,?_,Same.new nt⟩⟩)⟩;unfold Zb9;rw[eg];exact⟨t,rfl,by rw[Zab,YcP]⟩
      | some qq=>
       obtain⟨lb,rfl,hlb⟩:=hb5;refine⟨_,rfl,rfl,_,rfl,iteF ⟨_,rfl,_,rfl,lb,_,0,.int qq.1,rfl,rfl,SqT.of hlb,rfl,_,_,rfl,rfl,_,rfl,ite2 (fun hc=>?_) (fun hc=>?_)⟩⟩
       ·have hc':z.1<qq.1:=of_decide_eq_true hc;refine⟨_,rfl,_,rfl,(by show 2<=sizeLine;decide),fun t nt=>hR _ _ ⟨.ref t,_,rfl,?_,Same.new nt⟩⟩;unfold Zb9;rw[eg];show BoV _ _ (if z.1<qq.1 then some (z.1,i) else some qq);rw[if_pos hc'];exact⟨t,rfl,by rw[Zab,YcP]⟩
       ·have hc':¬ z.1<qq.1:=fun y=>hc (decide_eq_true y);refine hR _ _ ⟨.ref lb,_,rfl,?_,Same.refl _⟩;unfold Zb9;rw[eg];show BoV _ _ (if z.1<qq.1 then some (z.1,i) else some qq);rw[if_neg hc'];exact⟨lb,rfl,hlb⟩
    ·rintro σ' H5 ⟨bv',o9',rfl,hbv,s5⟩;have s25:=(s3.trans s4).trans s5;refine⟨rfl,_,rfl,l,qs,S p i,rfl,s25 _ _ hl2,hq.same s25,by (clear hns ek ec hqb hql hi3 hi h0 h2;omega),by (clear hns ek ec hqb hql hi3 hi h0 h1;omega),hB.mono (by (clear hns ek ec hqb hql hi3 hlen h0 h2 h1;omega)),fun l6 q6 H6 _ h6 hq6 s6=>?_⟩;refine⟨l6,q6,bv',_,_,_,_,_,rfl,h6,by rw[S1];exact hq6,hbv.same s6,?_,(s2.trans s25).trans s6⟩;rw[<- hbo,show last+1 - (i+1)=last - i by (clear hns ek ec hqb hql hi3 hlen hi h0 h2 h1;omega)]
  ·rintro σ H2 ⟨l,qs,bv,st,o6,o7,o8,o9,rfl,hl2,hq,hb,hbo,s2⟩;have en:((last:Int)+1).toNat=last+1:=by (clear h0 h3 h2 h1;omega)
   rw[en,Nat.sub_self] at hbo;refine⟨_,rfl,k bv H2 ?_ s2⟩;rw[<- hbo];exact hb
end
end Fs66
namespace Fs66
open PySem L2 Lv
section
variable {P:Program}{w:World}{K:Yac}{mg:Str->Option Value}{base:Heap}
def spBK:Sp:=fun vs H Q _=>∃ (p:Nat) (r:Int),vs=[.int p,.int r]/\2<=p/\p<=7/\1<=r/\r<=1000000000001/\∀ l q H',Bst (casN p) 101 r q->H' l=some (.tup [.int q.1,.int q.2])->Same H H'->Q (.ref l) H'
theorem scBK:FnScope ["p","rows"] ["p","rows"] (Zac sBK):=⟨rfl,rfl,rfl,by decide +kernel,rfl,by decide +kernel,by decide +kernel⟩
theorem ZnL {f f1 f2 f3:Addr}{fd d1 d2 d3:FuncData}{tL:Tok} (F:Fun K "best_cascade" "best_cascade" sBK f fd) (hLC:mg "LAST_CASCADE"=some (.int 100 tL)) (CW:Cal P w K mg base 2 "check_ways" ["p"] ZeO f1 d1) (CN:Cal P w K mg base 2 "next_cascade_spreads" ["spreads"] (Zcc Zat) f2 d2) (CB:Cal P w K mg base 3 "best_over" ["p","rows","last","following"] (spBo f2 casN) f3 d3):FnOk P w K mg base CX0 4 f fd ["p","rows"] spBK:=by
 refine F.ok scBK (fun vs H Q E h=>?_) (fun cdv A outer s H vs Q E hr h=>?_)
 ·obtain⟨p,r,rfl,_⟩:=h;rfl
 ·obtain⟨p,r,rfl,h1,h2,h3,h4,k⟩:=h;have hr2:Room 2 _:=hr.mono (by decide);refine⟨_,(Zah (ZaO (Zan CW hr2 rfl (Zaa (pv 0) Zad)))
   (Zam (Zaw (Zan CB hr rfl (Zaa (pv 0) (Zaa (pv 1) (Zaa (Zcp rfl hLC) (Zaa (Zgq CN rfl) Zad)))))))),?_⟩
  refine⟨_,rfl,(p:Int),rfl,by (clear h4 h3 h2;omega),by (clear h4 h3 h1;omega),?_⟩;refine⟨_,rfl,_,rfl,⟨p,100,r,rfl,h1,h2,by (clear h4 h3 h2 h1;omega),by (clear h4 h2 h1;omega),fun v H1 hv s1=>?_⟩⟩;obtain⟨q,eq,b⟩:=(Zbp h1).best (r:=r) (N:=101) (n:=60) (by (clear h4 h3 h2 h1;omega)) h3 (by (clear h4 h3 h2 h1;omega)) (by have:=Zl2 h1 h2;(clear h3 h2 h1;omega));have hv':BoV H1 v (bo (gS (casN p) r) (cS (casN p) r) 101 0 none):=hv;rw[eq] at hv';obtain⟨l,rfl,hl⟩:=hv';exact k l q H1 b hl s1
end
end Fs66
namespace Fs66
open PySem L2 Lv
section
variable {P:Program}{w:World}{K:Yac}{mg:Str->Option Value}{base:Heap}
theorem Zmz:FnScope ["p","n"] ["p","n"] (Zac Zg3):=⟨rfl,rfl,rfl,by decide +kernel,rfl,by decide +kernel,by decide +kernel⟩
theorem ZlN {f f1 f3 f4:Addr}{fd d1 d3 d4:FuncData} (F:Fun K "cascade_spread" "cascade_spread" Zg3 f fd) (T:Txt mg) (CH:Cal P w K mg base 3 "check_cascade" ["p","n"] ZjJ f1 d1) (CN:Cal P w K mg base 2 "next_cascade_spreads" ["spreads"] (Zcc Zat) f3 d3) (CA:Cal P w K mg base 3 "spread_after" ["p","n","following"] (Zd9 f3 casN) f4 d4):FnOk P w K mg base CX0 4 f fd ["p","n"] (ZhN casN 100):=by
 refine F.ok Zmz (fun vs H Q E h=>?_) (fun cdv A outer s H vs Q E hr h=>?_)
 ·obtain⟨p,n,rfl,_⟩:=h;rfl
 ·obtain⟨p,n,rfl,h1,h2,h3,k⟩:=h;refine⟨_,Zah (ZaO (Zan CH hr rfl (Zaa (pv 0) (Zaa (pv 1) Zad))))
   (Zam (Zaw (Zan CA hr rfl (Zaa (pv 0) (Zaa (pv 1) (Zaa (Zgq CN rfl) Zad)))))),?_⟩
  refine⟨_,rfl,_,rfl,(p:Int),(n:Int),rfl,by (clear h3 h2;omega),by (clear h3 h1;omega),by (clear h3 h2 h1;omega),by (clear h2 h1;omega),?_⟩;exact⟨_,rfl,_,rfl,p,n,rfl,h1,h2,by (clear h2 h1;omega),k⟩
end
end Fs66
namespace Fs66
open PySem L2 Lv
section
variable {P:Program}{w:World}{K:Yac}{mg:Str->Option Value}{base:Heap}
theorem scAbove:FnScope ["counts","found","more","count"] ["counts"] (Zac Zdw):=⟨rfl,rfl,rfl,by decide +kernel,rfl,by decide +kernel,by decide +kernel⟩
theorem Zkh {f:Addr}{fd:FuncData} (F:Fun K "_law_above" "_law_above" Zdw f fd) (T:Txt mg):FnOk P w K mg base CX0 1 f fd ["counts"] (Zcd K):=by
 refine F.ok scAbove (fun vs H Q E h=>?_) (fun cdv A outer s H vs Q E hr h=>?_)
 ·obtain⟨a,c,rfl,_⟩:=h;rfl
 ·obtain⟨a,c,rfl,hA,h7,k⟩:=h;refine⟨_,Zah (Zaq (i:=1) scAbove.nd rfl (YaK rfl) (ZaU Zad))
   (Zah (Zaq (i:=2) scAbove.nd rfl (YaK rfl) Zag)
   (Zah (ZaY Ya0 rfl (ZdA (pv 0)) (Zak (i:=3) scAbove.nd rfl (YaK rfl))
    (Zah (Zaq (i:=2) scAbove.nd rfl (YaK rfl) (Zau ZaZ (pv 2) (pv 3)))
    (Zam (ZaO (ZeW Ybm PySem.F.slot_list_insert PySem.F.type_list_insert Zit (pv 1) (Zaa Zag (Zaa (pv 2) Zad)))))))
   (Zam (Zaw (ZaQ ZaE rfl T.tuple ZbT (Zaa (pv 1) Zad)))))),?_⟩
  refine⟨YaV _,fun l e1=>?_⟩;refine⟨_,rfl,a,rfl,⟨_,(Same.new e1).tup hA⟩,Zet (xs:=c.map V.int) (fun i σ H2=>∃ o:Option V,σ=[some (.ref a),some (.ref l),some (.int (c.take i).sum),o]/\H2 l=some (.lst ((ZaR (c.take i)).map V.int))/\Same H H2)
   ⟨none,rfl,by rw[Zab];rfl,Same.new e1⟩ (fun i σ H2 _ ⟨o,_,_,s2⟩=>s2.tup hA) ?_ ?_⟩
  ·rintro i x σ H2 hx ⟨o,rfl,hl,s2⟩;obtain⟨z,hz,rfl⟩:=Zbo hx;obtain⟨hi,rfl⟩:=Yaa.mp hz;have hlen:(ZaR (c.take i)).length=i:=by rw[ZcT,YaA];(clear h7;omega)
   have es:(c.take (i+1)).sum=(c.take i).sum+c[i]:=by rw[YaJ hi,YbJ];simp
   refine⟨_,rfl,_,rfl,_,_,rfl,rfl,?_⟩;refine⟨_,rfl,.inl ⟨rfl,_,SqL.of hl⟩,_,rfl,l,_,0,_,rfl,rfl,hl,by decide,by decide,Zas (by simp[hlen];(clear es hlen;omega)),some (.int c[i]),?_,?_,s2.put e1⟩
   ·rw[es];rfl
   ·have e:ZaR (c.take (i+1))=((c.take i).sum+c[i])::ZaR (c.take i):=by
     rw[ZaR,Zgm hi,Ycj];rfl
    rw[Zab,e];simp
  ·rintro σ H2 ⟨o,rfl,hl,s2⟩;rw[Yad,YaP] at hl;refine⟨_,rfl,l,_,rfl,.inl ⟨SqL.of hl,fun t ht=>?_⟩⟩;exact k t _ (s2.free ht) Zab (s2.trans (Same.new ht))
theorem scLCounts:FnScope ["p","n","counts","level"] ["p","n"] (Zac Zbx):=⟨rfl,rfl,rfl,by decide +kernel,rfl,by decide +kernel,by decide +kernel⟩
theorem Zhb {f fD:Addr}{fd dD:FuncData} (F:Fun K "_law_counts" "_law_counts" Zbx f fd) (T:Txt mg) (CD:Cal P w K mg base 1 "_law_above" ["counts"] (Zcd K) fD dD) :
  FnOk P w K mg base CX0 2 f fd ["p","n"] ZcQ:=by
 refine F.ok scLCounts (fun vs H Q E h=>?_) (fun cdv A outer s H vs Q E hr h=>?_)
 ·obtain⟨p,n,rfl,_⟩:=h;rfl
 ·obtain⟨p,n,rfl,h1,h2,h3,k⟩:=h;refine⟨_,Zah (Zaq (i:=2) scLCounts.nd rfl (YaK rfl) (Zau Zh9 (Zbj (Zaa Zag Zad)) (Zau ZlF (Zbj (Zaa Zag Zad)) (Zau ZdB (pv 0) Zag))))
   (Zah (ZaY Ya0 rfl (ZaP rfl T.range (Zaa (pv 1) Zad)) (Zak (i:=3) scLCounts.nd rfl (YaK rfl))
    (Zam (Zaq (i:=2) scLCounts.nd rfl (YaK rfl) (Zan CD hr rfl (Zaa (pv 2) Zad)))))
   (Zam (Zaw (pv 2)))),?_⟩
  refine cut1 (fun σ' H'=>∃ l:Addr,σ'=[some (.int p),some (.int n),some (.ref l),none]/\H l=none/\H' l=some (.tup ((Zbk p).map V.int))/\Same H H') (fun R hR=>?_) ?_
  ·refine⟨(by show 1<=sizeLine;decide),fun p1 e1=>⟨(by show 1<=sizeLine;decide),fun p2 e2=>⟨_,rfl,_,_,rfl,rfl,?_⟩⟩⟩;have z1:(upd (upd H p1 (.tup [.int 1])) p2 (.tup [.int 0])) p1=some (.tup [.int 1]):=(Same.new e2) p1 _ Zab;have s2:Same H (upd (upd H p1 (.tup [.int 1])) p2 (.tup [.int 0])):=(Same.new e1).trans (Same.new e2);have z2:(upd (upd H p1 (.tup [.int 1])) p2 (.tup [.int 0])) p2=some (.tup [.int 0]):=Zab;generalize (upd (upd H p1 (.tup [.int 1])) p2 (.tup [.int 0]))=H2 at z1 z2 s2 ⊢;have fin:∀ (q:Addr) (H3:Hp),H3 q=some (.tup (Yae (p - 1) (V.int 0)))->Same H2 H3->∃ a b xs ys,V.ref p1=.ref a/\V.ref q=.ref b/\SqT K H3 a xs/\SqT K H3 b ys/\xs≠[]/\xs.length+ys.length<=sizeLine /\
     (ys=[]->(fun x H4=>Zbc 2 x [some (V.int p),some (.int n),none,none] H4 (fun σ' H'=>R { nx:=fun _ H'=>Q .non H',rt:=Q } σ' H')) (.ref a) H3)/\(ys≠[]->∀ r,H3 r=none->(fun x H4=>Zbc 2 x [some (V.int p),some (.int n),none,none] H4 (fun σ' H'=>R { nx:=fun _ H'=>Q .non H',rt:=Q } σ' H')) (.ref r) (upd H3 r (.tup (xs++ys)))):=by
    intro q H3 hq s3;refine⟨p1,q,_,_,rfl,rfl,SqT.of (s3 p1 _ z1),SqT.of hq,by simp,?_,fun z=>?_,fun _ r hr0=>?_⟩
    ·exact Ya8 (Zas (by rw[Ya7];show 1+(p - 1)<=1000;(clear h3 h1;omega)))
    ·have:=congrArg YdR z;rw[Ya7] at this;simp at this
     (clear h3 h2;omega)
    ·refine hR _ _ ⟨r,rfl,(s2.trans s3).free hr0,?_,(s2.trans s3).trans (Same.new hr0)⟩;rw[Zab];simp[Zbk]
   have ez:(Yae ((p:Int) - 1).toNat [V.int 0]).flatten=Yae (p - 1) (V.int 0):=by
    rw[show ((p:Int) - 1).toNat=p - 1 by (clear h3 h2 h1;omega)];exact Ybz
   refine⟨p2,(p:Int) - 1,_,rfl,rfl,SqT.of z2,by simp,by (clear h3 h2;omega),by (clear h3 h1;omega),?_,fun z=>?_,fun z p3 e3=>?_⟩
   ·show 1*((p:Int) - 1).toNat<=1000
    (clear h3 h1;omega)
   ·refine fin p2 _ ?_ (Same.refl _);rw[z2,show p - 1=1 by (clear h3 h2 h1;omega)];rfl
   ·rw[ez];exact fin p3 _ Zab (Same.new e3)
  ·rintro σ' H' ⟨l,rfl,hl0,hl1,s1⟩;refine⟨_,rfl,n,rfl,by (clear h3 h2 h1;omega),by (clear h2 h1;omega),Za7 (fun i σ H2=>∃ (l:Addr) (o:Option V),σ=[some (.int p),some (.int n),some (.ref l),o]/\H l=none/\H2 l=some (.tup ((casc p i).map V.int))/\Same H H2)
    ⟨l,none,rfl,hl0,hl1,s1⟩ ?_ ?_⟩
   ·rintro i σ H2 hi ⟨l,o,rfl,hl0,hl2,s2⟩;have hlen:=ZcG (p:=p) (by (clear hi h3 h2;omega)) i;refine⟨_,rfl,l,casc p i,rfl,SqT.of hl2,by (clear hi h3 h1;omega),fun l3 H3 h30 h3 s3=>?_⟩;exact⟨l3,_,rfl,s2.free h30,h3,s2.trans s3⟩
   ·rintro σ H2 ⟨l,o,rfl,hl0,hl2,s2⟩;refine⟨_,rfl,k l H2 hl0 ?_ s2⟩;simpa using hl2
end
end Fs66
namespace Fs66
open PySem L2 Lv
section
variable {P:Program}{w:World}{K:Yac}{mg:Str->Option Value}{base:Heap}
theorem Zln:FnScope ["thing"] ["thing"] (Zac Zdn):=⟨rfl,rfl,rfl,by decide +kernel,rfl,by decide +kernel,by decide +kernel⟩
theorem Zj7 {f:Addr}{fd:FuncData} (F:Fun K "is_whole" "is_whole" Zdn f fd) (T:Txt mg):FnOk P w K mg base CX0 1 f fd ["thing"] ZdY:=by
 refine F.ok Zln (fun vs H Q E h=>?_) (fun cdv A outer s H vs Q E hr h=>?_)
 ·obtain⟨i,rfl,_⟩:=h;rfl
 ·obtain⟨i,rfl,k⟩:=h;refine⟨_,Zam (Zaw (ZmN (Zar Zc6 rfl T.isinstance Zcy (Zaa (pv 0) (Zaa (ZmK rfl T.int ZnY) Zad)))
   (ZkS (ZmL (Zar Zc6 rfl T.isinstance Zcy (Zaa (pv 0) (Zaa (ZmK rfl T.bool Znj) Zad))))))),?_⟩
  refine⟨_,rfl,.int i,"int",_,true,rfl,.int i,ZfM,true,rfl,iteT ?_⟩;exact⟨_,rfl,.int i,"bool",_,false,rfl,.int i,Ze3,false,rfl,k⟩
theorem Zmy:FnScope ["p"] ["p"] (Zac Zg0):=⟨rfl,rfl,rfl,by decide +kernel,rfl,by decide +kernel,by decide +kernel⟩
theorem ZlJ {f fW:Addr}{fd dW:FuncData}{t2 t7:Tok} (F:Fun K "check_ways" "check_ways" Zg0 f fd) (T:Txt mg) (hL:mg "LEAST_WAYS"=some (.int 2 t2)) (hM:mg "MOST_WAYS"=some (.int 7 t7)) (CW:Cal P w K mg base 1 "is_whole" ["thing"] ZdY fW dW) :
  FnOk P w K mg base CX0 2 f fd ["p"] ZeO:=by
 refine F.ok Zmy (fun vs H Q E h=>?_) (fun cdv A outer s H vs Q E hr h=>?_)
 ·obtain⟨i,rfl,_⟩:=h;rfl
 ·obtain⟨i,rfl,h1,h2,k⟩:=h;refine⟨_,Zam (ZeU (PW.pt (ZhW (Zdy (Zgj (Zan CW hr rfl (Zaa (pv 0) Zad))))
   (ZeT (Zdy (Zgk Zg9 Zg9 (Zcp rfl hL) (pv 0) (Zcp rfl hM)))))) ZaX Zbn),?_⟩
  refine⟨_,rfl,i,rfl,true,rfl,iteF ?_⟩;refine⟨_,rfl,2,i,rfl,rfl,_,rfl,?_⟩;rw[decide_eq_true h1];refine iteT ⟨i,7,rfl,rfl,_,rfl,?_⟩;rw[decide_eq_true h2];exact iteF k
theorem Zlp:FnScope ["n","last"] ["n","last"] (Zac Zdr):=⟨rfl,rfl,rfl,by decide +kernel,rfl,by decide +kernel,by decide +kernel⟩
theorem Zkb {f fW da:Addr}{fd dW:FuncData} (F:FunD K "check_level" "check_level" Zdr f da fd) (T:Txt mg) (CW:Cal P w K mg base 1 "is_whole" ["thing"] ZdY fW dW) :
  FnOk P w K mg base CX0 2 f fd ["n","last"] Zd4:=by
 refine F.ok Zlp (fun vs H Q E h=>?_) (fun cdv A outer s H vs Q E hr h=>?_)
 ·obtain⟨i,m,rfl,_⟩:=h;rfl
 ·obtain⟨i,m,rfl,h1,h2,k⟩:=h;refine⟨_,Zam (ZeU (PW.pt (ZhW (Zdy (Zgj (Zan CW hr rfl (Zaa (pv 0) Zad))))
   (ZeT (Zdy (Zgk Zg9 Zg9 Zag (pv 0) (pv 1)))))) ZaX Zbn),?_⟩
  refine⟨_,rfl,i,rfl,true,rfl,iteF ?_⟩;refine⟨_,rfl,0,i,rfl,rfl,_,rfl,?_⟩;rw[decide_eq_true h1];refine iteT ⟨_,rfl,i,m,rfl,rfl,_,rfl,?_⟩;rw[decide_eq_true h2];exact iteF k
theorem Zlq:FnScope ["p"] ["p"] (Zac Zdt):=⟨rfl,rfl,rfl,by decide +kernel,rfl,by decide +kernel,by decide +kernel⟩
theorem Zke {f:Addr}{fd:FuncData} (F:Fun K "first_counts" "first_counts" Zdt f fd) (T:Txt mg):FnOk P w K mg base CX0 1 f fd ["p"] Zfz:=by
 refine F.ok Zlq (fun vs H Q E h=>?_) (fun cdv A outer s H vs Q E hr h=>?_)
 ·obtain⟨p,rfl,_⟩:=h;rfl
 ·obtain⟨p,rfl,h1,h2,k⟩:=h;refine⟨_,Zam (Zaw (ZaQ ZaE rfl T.tuple ZbT (Zaa (Zau ZdE (ZaU (Zaa Zag Zad)) (Zau ZeX (ZaU (Zaa Zag Zad)) (Zau ZdB (pv 0) Zag))) Zad))),?_⟩;refine⟨(by show 1<=sizeLine;decide),fun p1 e1=>⟨(by show 1<=sizeLine;decide),fun p2 e2=>⟨_,rfl,_,_,rfl,rfl,?_⟩⟩⟩;have z2:(upd (upd H p1 (.lst [.int 1])) p2 (.lst [.int 0])) p1=some (.lst [.int 1]):=by rw[Zaf (Zae Zab e2)];exact Zab
  refine⟨p2,(p:Int) - 1,_,rfl,rfl,Zab,by (clear h2 h1;omega),by (clear h1;omega),?_,fun p3 e3=>?_⟩
  ·exact Ya8 (Zas (by show 1*((p:Int) - 1).toNat<=1000;(clear h1;omega)))
  have z3:=(Same.new (o:=.lst (Yae ((p:Int) - 1).toNat [V.int 0]).flatten) e3) p1 _ z2;have ez:(Yae ((p:Int) - 1).toNat [V.int 0]).flatten=Yae (p - 1) (V.int 0):=by
   rw[show ((p:Int) - 1).toNat=p - 1 by (clear h2 h1;omega)];exact Ybz
  rw[ez] at z3 ⊢;refine⟨p1,p3,_,_,rfl,rfl,z3,Zab,?_,fun p4 e4=>?_⟩
  ·exact Ya8 (Zas (by rw[Ya7];show 1+(p - 1)<=1000;(clear h1;omega)))
  refine⟨p4,_,rfl,.inl ⟨SqL.of Zab,fun l hl=>?_⟩⟩;have s4:=(((Same.new (o:=.lst [.int 1]) e1).trans (Same.new (o:=.lst [.int 0]) e2)).trans (Same.new (o:=.lst (Yae (p - 1) (V.int 0))) e3)).trans (Same.new (o:=.lst ([.int 1]++Yae (p - 1) (V.int 0))) e4);refine k l _ (s4.free hl) ?_ (s4.trans (Same.new hl));rw[Zab];simp[Zbk]
theorem Znu:FnScope ["total"] ["total"] (Zac sTot):=⟨rfl,rfl,rfl,by decide +kernel,rfl,by decide +kernel,by decide +kernel⟩
theorem ZmT {f:Addr}{fd:FuncData}{tM:Tok} (F:Fun K "check_total" "check_total" sTot f fd) (T:Txt mg) (hM:mg "MOST_PLACES"=some (.int 4000 tM)):FnOk P w K mg base CX0 1 f fd ["total"] Zlj:=by
 refine F.ok Znu (fun vs H Q E h=>?_) (fun cdv A outer s H vs Q E hr h=>?_)
 ·obtain⟨i,rfl,_⟩:=h;rfl
 ·obtain⟨i,rfl,h4,k⟩:=h;refine⟨_,Zam (ZeU (ZaG Zh8 (pv 0) (Zcp rfl hM) (ZaI _)) ZaX Zbn),?_⟩;refine⟨_,rfl,_,_,rfl,rfl,_,rfl,?_⟩;rw[decide_eq_false (by omega)];exact iteF k
theorem ZjN:FnScope ["p"] ["p"] (Zac Zck):=⟨rfl,rfl,rfl,by decide +kernel,rfl,by decide +kernel,by decide +kernel⟩
theorem Zij {f:Addr}{fd:FuncData} (F:Fun K "first_numbers" "first_numbers" Zck f fd) (T:Txt mg):FnOk P w K mg base CX0 1 f fd ["p"] ZcD:=by
 refine F.ok ZjN (fun vs H Q E h=>?_) (fun cdv A outer s H vs Q E hr h=>?_)
 ·obtain⟨p,rfl,_⟩:=h;rfl
 ·obtain⟨p,rfl,h1,h2,k⟩:=h;refine⟨_,Zam (Zaw (ZaQ ZaE rfl T.tuple ZbT (Zaa (Zau ZdE (ZaU (Zaa (Zbj (Zaa Zag Zad)) Zad)) (Zau ZeX (ZaU (Zaa (Zbj Zad) Zad)) (Zau ZdB (pv 0) Zag))) Zad))),?_⟩;refine⟨(by show 1<=sizeLine;decide),fun q0 e0=>⟨(by show 1<=sizeLine;decide),fun p1 e1=>⟨YaV _,fun q1 f1=>⟨(by show 1<=sizeLine;decide),fun p2 e2=>⟨_,rfl,_,_,rfl,rfl,?_⟩⟩⟩⟩⟩;have t0:Same H (upd H q0 (.tup [.int 0])):=Same.new e0;have t1:=t0.trans (Same.new (o:=.lst [.ref q0]) e1);have t2:=t1.trans (Same.new (o:=.tup []) f1);have t3:=t2.trans (Same.new (o:=.lst [.ref q1]) e2);have a0:(upd (upd (upd (upd H q0 (.tup [.int 0])) p1 (.lst [.ref q0])) q1 (.tup [])) p2 (.lst [.ref q1])) q0=some (.tup [.int 0]):=((Same.new e1).trans ((Same.new f1).trans (Same.new e2))) q0 _ Zab;have a1:(upd (upd (upd (upd H q0 (.tup [.int 0])) p1 (.lst [.ref q0])) q1 (.tup [])) p2 (.lst [.ref q1])) p1=some (.lst [.ref q0]):=((Same.new f1).trans (Same.new e2)) p1 _ Zab;have a2:(upd (upd (upd (upd H q0 (.tup [.int 0])) p1 (.lst [.ref q0])) q1 (.tup [])) p2 (.lst [.ref q1])) q1=some (.tup []):=(Same.new e2) q1 _ Zab;have a3:(upd (upd (upd (upd H q0 (.tup [.int 0])) p1 (.lst [.ref q0])) q1 (.tup [])) p2 (.lst [.ref q1])) p2=some (.lst [.ref q1]):=Zab;generalize (upd (upd (upd (upd H q0 (.tup [.int 0])) p1 (.lst [.ref q0])) q1 (.tup [])) p2 (.lst [.ref q1]))=H1 at t3 a0 a1 a2 a3 ⊢;refine⟨p2,(p:Int) - 1,_,rfl,rfl,a3,by (clear h2 h1;omega),by (clear h1;omega),?_,fun p3 e3=>?_⟩
  ·exact Ya8 (Zas (by show 1*((p:Int) - 1).toNat<=1000;(clear h1;omega)))
  have ez:(Yae ((p:Int) - 1).toNat [V.ref q1]).flatten=Yae (p - 1) (V.ref q1):=by
   rw[show ((p:Int) - 1).toNat=p - 1 by (clear h2 h1;omega)];exact Ybz
  rw[ez];have s3:=Same.new (o:=.lst (Yae (p - 1) (V.ref q1))) e3;refine⟨p1,p3,_,_,rfl,rfl,s3 p1 _ a1,Zab,?_,fun p4 e4=>⟨p4,_,rfl,.inl ⟨SqL.of Zab,fun l hl=>?_⟩⟩⟩
  ·exact Ya8 (Zas (by rw[Ya7];show 1+(p - 1)<=1000;(clear h1;omega)))
  have s4:=s3.trans (Same.new (o:=.lst ([.ref q0]++Yae (p - 1) (V.ref q1))) e4);have s5:=s4.trans (Same.new (o:=.tup ([.ref q0]++Yae (p - 1) (V.ref q1))) hl);have hl0:H l=none:=(t3.trans s4).free hl;refine k l (q0::Yae (p - 1) q1) _ hl0 (by rw[Zab];simp) ⟨by simp[num0],fun j r xs ha hb=>?_⟩ (t3.trans s5)
  cases j with
  | zero=>
   have:r=q0:=by simpa using ha.symm
   have:xs=[0]:=by simpa[num0] using hb.symm
   subst r xs;exact s5 q0 _ a0
  | succ j=>
   have:r=q1:=ZhU (j:=j) (by simpa using ha);have:xs=[]:=ZhU (j:=j) (by simpa[num0] using hb);subst r xs;exact s5 q1 _ a2
theorem scNextKN:FnScope ["numbers","read","reels","on_reel"] ["numbers"] (Zac Zcg):=⟨rfl,rfl,rfl,by decide +kernel,rfl,by decide +kernel,by decide +kernel⟩
theorem Zie {f:Addr}{fd:FuncData} (F:Fun K "next_cascade_numbers" "next_cascade_numbers" Zcg f fd) (T:Txt mg):FnOk P w K mg base CX0 1 f fd ["numbers"] Zbv:=by
 refine F.ok scNextKN (fun vs H Q E h=>?_) (fun cdv A outer s H vs Q E hr h=>?_)
 ·obtain⟨a,rs,N,rfl,_⟩:=h;rfl
 ·obtain⟨a,rs,N,rfl,hA,hT,n2,n7,hs,k⟩:=h;refine⟨_,Zah (Zaq (i:=1) scNextKN.nd rfl (YaK rfl) (Zbj Zad))
   (Zah (Zaq (i:=2) scNextKN.nd rfl (YaK rfl) (ZaU Zad))
   (Zah (ZaY Ya0 rfl (ZdA (ZcF ZkM (pv 0) Zeh (ZbO (Zei ZbV Zag)))) (Zak (i:=3) scNextKN.nd rfl (YaK rfl))
    (Zah (Zaq (i:=1) scNextKN.nd rfl (YaK rfl) (Zau Zia (pv 1) (ZaQ ZaE rfl T.tuple ZbT (Zaa (Zcq (own:=["number"]) (js:=[]) (CompOk.bare (by decide +kernel)) rfl (ZdA (pv 3)) ZbB
     (fun _ _ _ _ _=>Zak (i:=0) (by show (["number"]:List Str).Nodup;decide +kernel) rfl (YaK rfl) (.inr rfl)) (fun _ _ _ _ _=>Zba) (fun _ _ _ _ _=>Zau ZaZ (pv 0) Zag)) Zad))))
    (Zam (ZaO (ZeW Ybm YbP YbO Za6 (pv 2) (Zaa (pv 1) Zad))))))
   (Zam (Zaw (ZaQ ZaE rfl T.tuple ZbT (Zaa (Zau ZdE (ZaU (Zaa (Zau Zia (pv 1) (ZaV Za9 (pv 0) (Zei ZbV Zag) (fun _ _=>rfl))) Zad)) (Zh4 (pv 2) (ZbO (Zei ZbV Zag)))) Zad)))))),?_⟩
  obtain⟨rs',z,I,Z,rfl,rfl,hT',hz⟩:=Lv.TTs.cut hT (by (clear hs n7;omega));have hIl:I.length<=6:=by simp at n7;(clear hs n2;omega)
  have hrl:rs'.length=I.length:=hT'.1;refine⟨YaV _,fun t0 e0=>⟨YaV _,fun rl e1=>?_⟩⟩;have s1:=(Same.new (o:=.tup []) e0).trans (Same.new (o:=.lst []) e1);have hrlH:H rl=none:=(Same.new (o:=.tup []) e0).free e1;have ht0:(upd (upd H t0 (.tup [])) rl (.lst [])) t0=some (.tup []):=(Same.new e1) t0 _ Zab;have hrl1:(upd (upd H t0 (.tup [])) rl (.lst [])) rl=some (.lst []):=Zab;generalize (upd (upd H t0 (.tup [])) rl (.lst []))=H1 at s1 ht0 hrl1 ⊢;refine⟨_,rfl,1,rfl,-1,rfl,a,_,rfl,SqT.of (s1 a _ hA),?_,fun p1 e2=>⟨p1,rfl,⟨_,SqT.of Zab⟩,?_⟩⟩
  ·rintro⟨_,zz⟩;rw[show ((rs'++[z]).map V.ref).length=rs'.length+1 by simp,Zgh] at zz
   (clear hrl hIl hs n7 n2;omega)
  have ec:cutV ((rs'++[z]).map V.ref) none (some (-1))=rs'.map V.ref:=by
   rw[YaU];exact Zfa _ _
  rw[ec];have s2:=s1.trans (Same.new (o:=.tup (rs'.map V.ref)) e2);have hp1:(upd H1 p1 (.tup (rs'.map V.ref))) p1=some (.tup (rs'.map V.ref)):=Zab;have ht2:=(Same.new (o:=.tup (rs'.map V.ref)) e2) t0 _ ht0;have hrl2:=(Same.new (o:=.tup (rs'.map V.ref)) e2) rl _ hrl1;generalize (upd H1 p1 (.tup (rs'.map V.ref)))=H2 at s2 hp1 ht2 hrl2 ⊢;have hlow:∀ i,(finN (I.take i)).length<=4000:=fun i=>by
   have:=Zeu hs i;by_cases hi:i<=I.length
   ·rwa [YdD hi] at this
   ·have h2:=Zeu hs I.length;rw[YdD (Yag _),YaP] at h2;rw[Ybr (by (clear h2 this hrl hIl hs n7 n2;omega))];exact h2
  refine Zet (xs:=rs'.map V.ref) (fun i σ H3=>∃ (rd:Addr) (qs:List Addr) (o:Option V),σ=[some (.ref a),some (.ref rd),some (.ref rl),o]/\H3 rd=some (.tup ((finN (I.take i)).map V.int))/\H3 rl=some (.lst (qs.map V.ref))/\TTs H3 qs (goN [] (I.take i))/\H3 p1=some (.tup (rs'.map V.ref))/\Same H H3)
   ⟨t0,[],none,rfl,ht2,hrl2,⟨rfl,fun j r xs ha=>by simp at ha⟩,hp1,s2⟩ (fun i σ H3 _ ⟨_,_,_,_,_,_,_,h,_⟩=>SqT.of h) ?_ ?_
  ·rintro i x σ H3 hx ⟨rd,qs,o,rfl,hrd,hrl3,hq3,hp3,s3⟩;rw[Yas] at hx;obtain⟨q,hq,rfl⟩:=Option.map_eq_some_iff.mp hx;have hi:i<I.length:=by have:=(Yaa.mp hq).1;(clear hIl hs n7 n2;omega)
   have hqI:=s3 q _ (hT'.2 i q _ hq (Yaf hi));refine⟨_,rfl,_,rfl,q,rfl,⟨_,SqT.of hqI⟩,?_⟩;have hAl:I[i].length<=4000:=by
    have h1:=hlow (i+1);rw[YaJ hi,Za8,Yaj] at h1;simp[up1] at h1
    (clear hrl hIl hs n7 n2;omega)
   refine ZgG (xs:=I[i].map V.int) (fun acc j H4=>Same H3 H4/\H4 acc=some (.lst ((up1 (I[i].take j)).map V.int))) (fun acc h0=>⟨Same.new h0,Zab⟩) (fun acc j H4 h0 _ p=>p.1.tup (SqT.of hqI)) ?_ ?_
   ·rintro acc j y H4 h0 hy ⟨s4,hacc⟩;obtain⟨v,hv,rfl⟩:=Zbo hy;have hj:=(Yaa.mp hv).1
    refine⟨_,rfl,_,_,rfl,rfl,_,hacc,?_,by rw[Yad];exact hj,s4.put h0,?_⟩
    ·rw[sizeLine_eq];simp[up1]
     (clear hj hrl hIl hs n7 n2;omega)
    ·rw[Zab,Ybn,hv];simp[up1]
   ·rintro acc H4 h0 ⟨s4,hacc⟩;rw[Yad,YaP] at hacc;refine⟨acc,_,rfl,.inl ⟨SqL.of hacc,fun tu htu=>?_⟩⟩;have s5:=s4.trans (Same.new (o:=.tup ((up1 I[i]).map V.int)) htu);refine ZgL (s5 rd _ hrd) Zab ?_ fun r H6 hr6 s6=>?_
    ·have:=hlow i;rw[sizeLine_eq];simp[up1]
     (clear hrl hIl hs n7 n2;omega)
    have s36:=s5.trans s6;have hrl6:=s36 rl _ hrl3;refine⟨_,rfl,.inl ⟨rfl,_,SqL.of hrl6⟩,_,rfl,rl,_,_,rfl,rfl,hrl6,?_,?_⟩
    ·have:=hq3.1;rw[Zbi,YaA] at this;exact Zas (by rw[Yad];(clear hAl hrl hs n7 n2;omega))
    have hrne:r≠rl:=by intro zz;subst zz;rw[hrl6] at hr6;cases hr6
    have hr7:(upd H6 rl (.lst (qs.map V.ref++[.ref r]))) r=some (.tup ((finN (I.take (i+1))).map V.int)):=by
     rw[Zaf hrne,hr6,YaJ hi,Za8]
    refine⟨r,qs++[r],_,rfl,hr7,by rw[Zab];simp,?_,?_,(s3.trans s36).put hrlH⟩
    ·have ht:=(hq3.same s36).lst (ys:=qs.map V.ref++[.ref r]) hrl6;rw[YaJ hi,Zes,Yb6];refine ht.snoc ?_;rw[hr7,YaJ hi,Za8]
    ·rw[Zaf (by intro zz;subst zz;rw[hrl3] at hp3;cases hp3)];exact s36 p1 _ hp3
  ·rintro σ H3 ⟨rd,qs,o,rfl,hrd,hrl3,hq3,hp3,s3⟩;rw[Yad,hrl,YaP] at hrd hq3;have hz3:=s3 z _ hz;have htot:=Zeu hs (I.length+1);have hZ:(finN I).length+Z.length<=4000:=by
    rw[Ybr (by simp),Za8,Yaj] at htot;simpa[up1] using htot
   refine⟨_,rfl,_,rfl,1,rfl,a,_,-1,.ref z,rfl,rfl,SqT.of (s3 a _ hA),?_,?_⟩
   ·rw[YaU];exact ZgO _ _
   refine ZgL hrd hz3 (by rw[sizeLine_eq];(clear htot hrl hIl hs n7 n2;omega)) fun r H4 hr4 s4=>?_;refine⟨(by show 1<=sizeLine;decide),fun p2 e3=>?_⟩;have s5:=s4.trans (Same.new (o:=.lst [.ref r]) e3);refine⟨_,rfl,1,rfl,-1,rfl,rfl,rl,_,rfl,SqL.of (s5 rl _ hrl3),fun p3 e4=>?_⟩;have s6:=s5.trans (Same.new (o:=.lst (qs.map V.ref).reverse) e4);refine⟨p2,p3,_,_,rfl,rfl,(Same.new e4) p2 _ Zab,Zab,?_,fun p4 e5=>⟨p4,_,rfl,.inl ⟨SqL.of Zab,fun l hl=>?_⟩⟩⟩
   ·have:=hq3.1;rw[Zbi] at this;exact Ya8 (Zas (by simp;(clear hZ htot hrl hs n7 n2;omega)))
   have s7:=(s6.trans (Same.new (o:=.lst ([.ref r]++(qs.map V.ref).reverse)) e5)).trans (Same.new (o:=.tup ([.ref r]++(qs.map V.ref).reverse)) hl);refine k l (r::qs.reverse) _ ((s3.trans (s6.trans (Same.new (o:=.lst ([.ref r]++(qs.map V.ref).reverse)) e5))).free hl) (by rw[Zab];simp) ?_ (s3.trans s7);rw[Zb2];have sr:Same H4 (upd (upd (upd (upd H4 p2 (.lst [.ref r])) p3 (.lst (qs.map V.ref).reverse)) p4 (.lst ([.ref r]++(qs.map V.ref).reverse))) l (.tup ([.ref r]++(qs.map V.ref).reverse))):=(((Same.new e3).trans (Same.new e4)).trans (Same.new e5)).trans (Same.new hl);exact Lv.TTs.cons (sr r _ hr4) ((Lv.TTs.rev hq3).same s7)
theorem scAfter:FnScope ["p","n","following","numbers","level"] ["p","n","following"] (Zac Zdv):=⟨rfl,rfl,rfl,by decide +kernel,rfl,by decide +kernel,by decide +kernel⟩
theorem Zkg {f fA fB:Addr}{fd dA dB:FuncData} (F:Fun K "numbers_after" "numbers_after" Zdv f fd) (T:Txt mg) (CB:Cal P w K mg base 1 "first_numbers" ["p"] ZcD fB dB) (CA:Cal P w K mg base 1 "next_cascade_numbers" ["numbers"] Zbv fA dA):FnOk P w K mg base CX0 2 f fd ["p","n","following"] (Zea fA):=by
 refine F.ok scAfter (fun vs H Q E h=>?_) (fun cdv A outer s H vs Q E hr h=>?_)
 ·obtain⟨p,n,rfl,_⟩:=h;rfl
 ·obtain⟨p,n,rfl,h1,h2,h3,h4,k⟩:=h;refine⟨_,Zah (Zaq (i:=3) scAfter.nd rfl (YaK rfl) (Zan CB hr rfl (Zaa (pv 0) Zad)))
   (Zah (ZaY Ya0 rfl (ZaP rfl T.range (Zaa (pv 1) Zad)) (Zak (i:=4) scAfter.nd rfl (YaK rfl)) (Zam (Zaq (i:=3) scAfter.nd rfl (YaK rfl) (Zel 2 CA hr (Zaa (pv 3) Zad)))))
   (Zam (Zaw (pv 3)))),?_⟩
  refine⟨_,rfl,p,rfl,h1,h2,fun l qs H1 hl0 hl1 hq1 s1=>?_⟩;refine⟨_,rfl,n,rfl,by (clear h4 h3 h2 h1;omega),by (clear h4 h2 h1;omega),Za7 (fun i σ H2=>∃ (l:Addr) (qs:List Addr) (o:Option V),σ=[some (.int p),some (.int n),some (.ref fA),some (.ref l),o]/\H l=none/\H2 l=some (.tup (qs.map V.ref))/\TTs H2 qs (casN p i)/\Same H H2)
   ⟨l,qs,none,rfl,hl0,hl1,hq1,s1⟩ ?_ ?_⟩
  ·rintro i σ H2 hi ⟨l,qs,o,rfl,hl0,hl2,hq,s2⟩;have hlen:=ZaS (p:=p) (by (clear hi h4 h3 h2;omega)) i;have hm:=Zfe (p:=p) (show i<=n by (clear hlen h4 h3 h2 h1;omega));refine⟨rfl,_,rfl,l,qs,casN p i,rfl,hl2,hq,by (clear hm hi h4 h3 h2;omega),by (clear hm hi h4 h3 h1;omega),?_,fun l3 qs3 H3 h30 h3 hq3 s3=>?_⟩
   ·rw[Za3 (by (clear hm hlen hi h4 h3 h2;omega))]
    (clear hlen hi h3 h2 h1;omega)
   ·exact⟨l3,qs3,_,rfl,s2.free h30,h3,hq3,s2.trans s3⟩
  ·rintro σ H2 ⟨l,qs,o,rfl,hl0,hl2,hq,s2⟩;refine⟨_,rfl,k l qs H2 hl0 hl2 ?_ s2⟩;simpa using hq
end
end Fs66
namespace Fs66
open PySem L2 Lv
section
variable {P:Program}{w:World}{K:Yac}{mg:Str->Option Value}{base:Heap}
theorem ZmA:FnScope ["p","n"] ["p","n"] (Zac Zg4):=⟨rfl,rfl,rfl,by decide +kernel,rfl,by decide +kernel,by decide +kernel⟩
theorem ZlL {f fA fB fC fD:Addr}{fd dA dB dC dD:FuncData} (F:Fun K "cascade_numbers" "cascade_numbers" Zg4 f fd) (T:Txt mg) (CT:Cal P w K mg base 1 "check_total" ["total"] Zlj fA dA) (CC:Cal P w K mg base 4 "cascade_counts" ["p","n"] ZcQ fB dB) (CA:Cal P w K mg base 2 "numbers_after" ["p","n","following"] (Zea fC) fD dD) (CN:Cal P w K mg base 1 "next_cascade_numbers" ["numbers"] Zbv fC dC):FnOk P w K mg base CX0 5 f fd ["p","n"] ZhP:=by
 refine F.ok ZmA (fun vs H Q E h=>?_) (fun cdv A outer s H vs Q E hr h=>?_)
 ·obtain⟨p,n,rfl,_⟩:=h;rfl
 ·obtain⟨p,n,rfl,h1,h2,h3,h4,k⟩:=h;have hr1:Room 1 _:=hr.mono (by decide);have hr2:Room 2 _:=hr.mono (by decide);refine⟨_,Zah (ZaO (Zan CT hr1 rfl (Zaa (Zar (Zc4 rfl) rfl T.sum Zf2 (Zaa (Zan CC hr rfl (Zaa (pv 0) (Zaa (pv 1) Zad))) Zad)) Zad)))
   (Zam (Zaw (Zan CA hr2 rfl (Zaa (pv 0) (Zaa (pv 1) (Zaa (Zgq CN rfl) Zad)))))),?_⟩
  refine⟨_,rfl,_,rfl,p,n,rfl,h1,h2,h3,fun l H1 hl0 hl1 s1=>⟨l,_,rfl,SqT.of hl1,_,rfl,h4,?_⟩⟩;exact⟨_,rfl,_,rfl,p,n,rfl,h1,h2,h3,h4,fun l qs H2 hl0 hl hq s2=>k l qs H2 (s1.free hl0) hl hq (s1.trans s2)⟩
end
end Fs66
namespace L2
open PySem PySem.Spec PyProof.Rows
end L2
namespace PySem.AutoSeq1
open PySem PySem.Spec PyProof.Rows
set_option maxRecDepth 8000 in
theorem list_extend_list_tupleS (l:Addr) (items:Array Value) (n:Nat) (b:Addr) (items2:Array Value) (n2:Nat) (sl:Array (Option Value)) (hs0:¬(!items.isEmpty && YbA (items.size+items2.size))=true) (hs1:items.size<=sizeLine) (hs2:items.size+items2.size<=sizeLine+1) :
  Meets (Builtin.«list.extend» ⟨[.ref l,.ref b],[]⟩) (fun _ R s=>s.heap.get? l=some { cls:=.type "list",dict:=none,data:=.seq items n,slots:=#[] }/\s.heap.get? b=some { cls:=.type "tuple",dict:=none,data:=.seq items2 n2,slots:=sl }/\R (.ok (.ret Ych)) { s with heap:=s.heap.update l (YbI fun x=>x++items2),toks:=s.toks }) :=
 .of_wp fun prog w A R s h=>by
  obtain⟨hp,g,d,tk,os⟩:=s;obtain⟨hl,hb,h⟩:=h;have f1:=idx_int;have f2:=sub_tuple_tuple;have f3:=sub_list_list;have f4:=sub_tuple_list;have f5:=sub_list_tuple;have hz':(items++items2).size<=sizeLine+1:=by rw[Array.size_append];exact hs2
  wp_walk using (wpAny_updateSeq hl rfl (hz:=hs1) (_hz':=hz')),wpAny_loadPart' hl,wpAny_loadPart' hb;exact⟨_,rfl,h⟩
end PySem.AutoSeq1
namespace L2
open PySem PySem.Spec PyProof.Rows
section
variable {X:Cx}
def ZjS:V->List V->Hp->VK->Prop:=fun x vs H Q=>∃ l b xs zs,x=.ref l/\vs=[.ref b]/\H l=some (.lst xs)/\(H b=some (.lst zs)∨H b=some (.tup zs))/\xs.length+zs.length<=sizeLine/\Q .non (upd H l (.lst (xs++zs)))
theorem Zhe:MtM X "list.extend" ZjS:=by
 intro pins s σ H x vs v us Q I rx rv h;obtain⟨l,b,xs,zs,rfl,rfl,hH,hB | hB,hz,q⟩:=h
 ·exact Ziu pins s σ H _ _ v us Q I rx rv ⟨l,b,xs,zs,rfl,rfl,hH,hB,hz,q⟩
 cases rx;obtain⟨u,rfl,ru⟩:=rv.one;cases ru;obtain⟨z,its,n,r,hl,e⟩:=I.lstM hH;obtain⟨hl2,its2,r2,o2,e2,c2,d2,n2,k2⟩:=(show ObjOk X.prog X.w H s.heap b (.tup zs) from I.hok b _ hB)
 have l2:=r2.length;obtain⟨cls2,dict2,data2,sl2⟩:=o2;cases c2;cases d2;cases k2;have hsz:its.toArray.size+its2.toArray.size<=sizeLine:=by rw[Yal,Yal];(clear hl2 z;omega)
 have hlong:¬ (!its.toArray.isEmpty && YbA (its.toArray.size+its2.toArray.size))=true:=by
  rw[Zeo hsz,Bool.and_false];exact YaO
 refine call_meets F.slot_list_extend ⟨_,e,rfl⟩ F.entry_list_extend (F.args_list_extend_2 _ _)
  (AutoSeq1.list_extend_list_tupleS l its.toArray n b its2.toArray n2 sl2 hlong (by rw[Yal];(clear hlong hsz l2 hl2 z;omega)) (by (clear hlong l2 hl2 hl z hz;omega))) ⟨e,e2,?_⟩
 refine⟨.non,_,I.lset (its':=its++its2) hH e (by simp) (r.append r2) ?_,rfl,q⟩;rw[Yaj]
 (clear hlong hsz l2 hl2 hl z;omega)
end
end L2
namespace Fs66
open PySem L2 Lv
section
variable {P:Program}{w:World}{K:Yac}{mg:Str->Option Value}{base:Heap}
theorem scDrawn66:FnScope ["pot","numbers","many","left","found","turn"] ["pot","numbers","many"] (Zac Zby):=⟨rfl,rfl,rfl,by decide +kernel,rfl,by decide +kernel,by decide +kernel⟩
def ZcP:Sp:=fun vs H Q _=>∃ (pl nl:Addr) (ns:List Int) (m:Nat),vs=[.ref pl,.ref nl,.int m]/\Pool3 H pl/\H nl=some (.lst (ns.map V.int))/\nl≠pl/\m<=ns.length/\ns.length<=4000/\∀ (l:Addr) (as rest:List Int) H',H l=none->H' l=some (.lst (as.map V.int))->as.length=m->(as++rest).Perm ns->Pool3 H' pl->Sm pl H H'->Q (.ref l) H'
theorem Zhc {f f1:Addr}{fd d1:FuncData} (F:Fun K "_law_drawn" "_law_drawn" Zby f fd) (T:Txt mg) (CX:Cal P w K mg base 1 "_law_next" ["pot","many"] ZcN f1 d1):FnOk P w K mg base CX0 2 f fd ["pot","numbers","many"] ZcP:=by
 refine okW F scDrawn66 (fun vs H Q E h=>?_) (fun cdv A outer s H vs Q E hr h=>?_)
 ·obtain⟨pl,nl,ns,m,rfl,_⟩:=h;rfl
 ·obtain⟨pl,nl,ns,m,rfl,hP,hN,hnp,hm,h4,k⟩:=h;have hr1:Room 1 _:=hr;refine⟨_,(Zai (ws (Zaq (i:=3) scDrawn66.nd rfl (YaK rfl) (ZaQ Zfg rfl T.list Znh (Zaa (pv 1) Zad))))
   (Zai (ws (Zaq (i:=4) scDrawn66.nd rfl (YaK rfl) (ZaU Zad)))
   (Zai (ws (ZaY Ya0 rfl (ZaP rfl T.range (Zaa (pv 2) Zad)) (Zak (i:=5) scDrawn66.nd rfl (YaK rfl))
   (WSs.out (ZaD (ws (ZaO (ZeW Ybm YbP YbO Za6 (pv 4) (Zaa (ZeW Ybm PySem.F.slot_list_pop PySem.F.type_list_pop Zkn (pv 3) (Zaa (Zan CX hr1 rfl (Zaa (pv 0) (Zaa (Zar ZaC rfl T.len YbZ (Zaa (pv 3) Zad)) Zad))) Zad)) Zad))))))))
   (ZaD (ws (Zaw (pv 4))))))),?_⟩
  have hz:20000<sizeLine:=by decide
  refine⟨_,rfl,nl,_,rfl,.inl (SqL.of hN),fun lf nlf=>?_⟩;have s1:=Same.new (o:=.lst (ns.map V.int)) nlf;have e1:upd H lf (.lst (ns.map V.int)) lf=some (.lst (ns.map V.int)):=Zab;have hP1:=hP.same s1;have lfp:lf≠pl:=hP.ne nlf;generalize upd H lf (.lst (ns.map V.int))=H1 at s1 e1 hP1 ⊢;refine⟨YaV _,fun fl nfl=>?_⟩;have s2:=Same.new (o:=.lst []) nfl;have e2:upd H1 fl (.lst []) fl=some (.lst (([]:List Int).map V.int)):=Zab;have hP2:=hP1.same s2;have flp:fl≠pl:=hP1.ne nfl;have hne:lf≠fl:=Zae e1 nfl;have e12:=s2 _ _ e1;have s12:=s1.trans s2;have fl0:H fl=none:=s1.free nfl;generalize upd H1 fl (.lst [])=H2 at s2 e2 hP2 e12 s12 ⊢;refine⟨_,rfl,_,rfl,by show -(2 ^ 62)<=(m:Int);(clear hne flp lfp hz h4 hm hnp;omega),by show (m:Int)<2 ^ 62;(clear hne flp lfp hz hnp;omega),?_⟩;rw[Ybf];refine Za7 (fun i σ Hx=>∃ (res ls:List Int) (o5:Option V),σ=[some (.ref pl),some (.ref nl),some (.int m),some (.ref lf),some (.ref fl),o5]/\res.length=i/\ls.length+i=ns.length/\(res++ls).Perm ns/\Hx fl=some (.lst (res.map V.int))/\Hx lf=some (.lst (ls.map V.int))/\Pool3 Hx pl/\Sm pl H Hx)
   ⟨[],ns,none,rfl,rfl,by simp,Yco _,e2,e12,hP2,Sm.of s12⟩ ?_ ?_
  ·rintro i σ Hx hi ⟨res,ls,o5,rfl,hrl,hll,hpm,hfl,hlx,hPx,smx⟩;refine⟨_,rfl,.inl ⟨rfl,_,SqL.of hfl⟩,_,rfl,.inl ⟨rfl,_,SqL.of hlx⟩,_,rfl,_,rfl,lf,_,rfl,.inl (SqL.of hlx),pl,_,rfl,hPx,by rw[Yad];(clear hrl hne flp lfp hz h4 hnp;omega),by rw[Yad];exact ZaW (by (clear hll hrl hi hne flp lfp hz h4 hm hnp;omega)) (by (clear hrl hi hne flp lfp hz hm hnp;omega)),fun d H5 d0 d1 hP5 sm5=>?_⟩;rw[Yad] at d1;have hl5:=sm5 lf _ hlx lfp;have hf5:=sm5 fl _ hfl flp;refine⟨lf,_,d,d.toNat,.int (ls.getD d.toNat 0),rfl,rfl,hl5,by (clear d1 hll hrl hi hne flp lfp hz h4 hm hnp;omega),by (clear d0 hrl hi hne flp lfp hz hm hnp;omega),seqIndex_of d0 (by rw[Yad];(clear d0 hll hrl hi hne flp lfp hz h4 hm hnp;omega)),?_,?_⟩
   ·rw[Yas,YaC,Yaf (by (clear d0 hrl hne flp lfp hz h4 hnp;omega))];rfl
   rw[Ziw];refine⟨fl,_,_,rfl,rfl,by rw[Zaf (Yba hne)];exact hf5,Zll (by rw[Yad];(clear d1 d0 hll hne flp lfp hz hnp;omega)),?_⟩;refine⟨res++[ls.getD d.toNat 0],ls.eraseIdx d.toNat,_,rfl,by simp[hrl],?_,Zh3 (by (clear d0 hrl hne flp lfp hz h4 hnp;omega)) hpm,?_,?_,?_,?_⟩
   ·rw[List.length_eraseIdx_of_lt (by (clear d0 hrl hne flp lfp hz h4 hnp;omega))];(clear d1 d0 hrl hne flp lfp hz h4 hnp;omega)
   ·rw[Zab];simp
   ·rw[Zaf hne,Zab]
   ·obtain⟨u,v,w,e⟩:=hP5;exact⟨u,v,w,by rw[Zaf (Yba flp),Zaf (Yba lfp)];exact e⟩
   ·exact ((smx.trans sm5).putP nlf).putP fl0
  ·rintro σ Hx ⟨res,ls,o5,rfl,hrl,hll,hpm,hfl,hlx,hPx,smx⟩;exact⟨_,rfl,k fl res ls Hx fl0 hfl hrl hpm hPx smx⟩
theorem scLev66:FnScope ["pot","p","top"] ["pot","p"] (Zac Zds):=⟨rfl,rfl,rfl,by decide +kernel,rfl,by decide +kernel,by decide +kernel⟩
def Zfy:Sp:=fun vs H Q _=>∃ (pl:Addr) (p:Nat),vs=[.ref pl,.int p]/\2<=p/\p<=7/\Pool3 H pl/\∀ (n:Nat) H',n<=60->tlv true p n<=400->Pool3 H' pl->Sm pl H H'->Q (.int n) H'
theorem Zkc {f f1 f2:Addr}{fd d1 d2:FuncData} (F:Fun K "_law_level" "_law_level" Zds f fd) (T:Txt mg) (CC:Cal P w K mg base 2 "_law_counts" ["p","n"] ZcQ f1 d1) (CX:Cal P w K mg base 1 "_law_next" ["pot","many"] ZcN f2 d2):FnOk P w K mg base CX0 3 f fd ["pot","p"] Zfy:=by
 refine okW F scLev66 (fun vs H Q E h=>?_) (fun cdv A outer s H vs Q E hr h=>?_)
 ·obtain⟨pl,p,rfl,_⟩:=h;rfl
 ·obtain⟨pl,p,rfl,p2,p7,hP,k⟩:=h;have hr2:Room 2 _:=hr;have hr1:Room 1 _:=hr.mono (by decide);refine⟨_,(Zai (ws (Zaq (i:=2) scLev66.nd rfl (YaK rfl) Zag))
   (Zai (ws (Zgl Ya0 (ZaG Zg9 (Zar (Zc4 rfl) rfl T.sum Zf2 (Zaa (Zan CC hr2 rfl (Zaa (pv 1) (Zaa (Zau ZaZ (pv 2) Zag) Zad))) Zad)) Zag (ZaI _))
   (WSs.out (ZaD (ws (Zaq (i:=2) scLev66.nd rfl (YaK rfl) (Zau ZaZ (pv 2) Zag)))))))
   (ZaD (ws (Zaw (Zan CX hr1 rfl (Zaa (pv 0) (Zaa (Zau ZaZ (pv 2) Zag) Zad)))))))),?_⟩
  have ez:∀ i:Nat,(casc p i).sum=tlv true p i:=fun i=>(ZbK (by (clear p7;omega)) i).symm;refine⟨fun m σ Hx=>∃ n:Nat,m=61 - n/\n<=60/\tlv true p n<=400/\σ=[some (.ref pl),some (.int p),some (.int n)]/\Same H Hx,⟨_,0,rfl,by (clear p7 p2;omega),by rw[<- ez];unfold casc Zbk;simp,rfl,Same.refl _⟩,?_⟩;rintro m σ Hx ⟨n,rfl,hn,hb,rfl,sx⟩;refine⟨_,rfl,_,rfl,_,_,rfl,rfl,p,n+1,rfl,p2,p7,by (clear hb p7 p2;omega),fun l1 H1 nl1 hl1 s1=>⟨l1,_,rfl,SqT.of hl1,_,_,rfl,rfl,_,rfl,?_⟩⟩;rw[ez];refine ite2 (fun hgo=>?_) (fun hst=>?_)
  ·have hgo:tlv true p (n+1)<=400:=of_decide_eq_true hgo;have:=ZkK p2 p7 (c:=true) (i:=n+1) (by (clear hb hn p7 p2;omega));exact⟨fun σ' H'=>∃ m',m'<61 - n/\∃ n:Nat,m'=61 - n/\n<=60/\tlv true p n<=400/\σ'=[some (.ref pl),some (.int p),some (.int n)]/\Same H H',fun _ _ h=>h,_,rfl,_,_,rfl,rfl,61 - (n+1),by (clear this hgo hb p7 p2;omega),n+1,rfl,by (clear hgo hb hn p7 p2;omega),hgo,rfl,sx.trans s1⟩
  ·refine⟨_,rfl,_,rfl,_,_,rfl,rfl,pl,(n:Int)+1,rfl,hP.same (sx.trans s1),by (clear hst hb hn p7 p2;omega),ZaW (by (clear hst hb hn p7 p2;omega)) (by (clear hst hb p7 p2;omega)),fun d H3 d0 d1 hP3 sm3=>?_⟩;obtain⟨d,rfl⟩:∃ i:Nat,d=(i:Int):=⟨d.toNat,by (clear d1 hst hb hn p7 p2;omega)⟩
   refine k d H3 (by (clear d0 hst hb p7 p2;omega)) ?_ hP3 ((Sm.of (sx.trans s1)).trans sm3);have:=ZcB (c:=true) p2 (m:=d) (n:=n) (by (clear d0 hst hb hn p7 p2;omega))
   (clear d1 d0 hst hn p7 p2;omega)
theorem ZjK:FnScope ["p","n"] ["p","n"] (Zac Zce):=⟨rfl,rfl,rfl,by decide +kernel,rfl,by decide +kernel,by decide +kernel⟩
def ZdZ:Sp:=fun vs H Q _=>∃ p n:Nat,vs=[.int p,.int n]/\2<=p/\p<=7/\n<=40/\∀ H',Same H H'->Q (.bl true) H'
theorem Zib {f f1:Addr}{fd d1:FuncData} (F:Fun K "_law_rises" "_law_rises" Zce f fd) (CS:Cal P w K mg base 4 "cascade_spread" ["p","n"] (ZhN casN 100) f1 d1):FnOk P w K mg base CX0 5 f fd ["p","n"] ZdZ:=by
 refine okW F ZjK (fun vs H Q E h=>?_) (fun cdv A outer s H vs Q E hr h=>?_)
 ·obtain⟨p,n,rfl,_⟩:=h;rfl
 ·obtain⟨p,n,rfl,p2,p7,hn,k⟩:=h;have hr4:Room 4 _:=hr;refine⟨_,(ZaD (ws (Zaw (ZfF ZlH (ZaV Za9 (ZaV Za9 (Zan CS hr4 rfl (Zaa (pv 0) (Zaa (Zau ZaZ (pv 1) Zag) Zad))) Zag (fun _ _=>rfl)) Zag (fun _ _=>rfl)) (Zau ZaZ (ZaV Za9 (ZaV Za9 (Zan CS hr4 rfl (Zaa (pv 0) (Zaa (pv 1) Zad))) Zag (fun _ _=>rfl)) Zag (fun _ _=>rfl)) Zag) (ZaI _))))),?_⟩;refine⟨_,rfl,_,rfl,_,_,rfl,rfl,p,n+2,rfl,p2,p7,by (clear p7 p2;omega),fun l1 q1 L1 H1 nl1 hl1 hT1 hS1 s1=>?_⟩;obtain⟨u1,a1,c1,i1,e1,b1⟩:=ZgA hT1 hS1 (Zk4 p2 _);refine⟨l1,_,0,_,rfl,rfl,SqT.of hl1,i1,u1,_,0,_,rfl,rfl,SqT.of e1,rfl,_,rfl,_,rfl,p,n,rfl,p2,p7,by (clear p7 p2;omega),fun l2 q2 L2 H2 nl2 hl2 hT2 hS2 s2=>?_⟩;obtain⟨u2,a2,c2,i2,e2,b2⟩:=ZgA hT2 hS2 (Zk4 p2 _);refine⟨l2,_,0,_,rfl,rfl,SqT.of hl2,i2,u2,_,0,_,rfl,rfl,SqT.of e2,rfl,_,_,rfl,rfl,_,_,rfl,rfl,?_⟩;have:=ZjO p2 b1 b2;dsimp only;rw[decide_eq_true this];exact k H2 (s1.trans s2)
theorem scLike66:FnScope ["p","rows","length","reading","level"] ["p","rows","length"] (Zac ZbM):=⟨rfl,rfl,rfl,by decide +kernel,rfl,by decide +kernel,by decide +kernel⟩
def Zd3:Sp:=fun vs H Q _=>∃ (p r:Nat) (len:Int),vs=[.int p,.int r,.int len]/\2<=p/\p<=7/\1<=r/\r<=40/\0<=len/\len<=1000000/\∀ H',Same H H'->Q (.bl true) H'
theorem Zif {f f1 f2:Addr}{fd d1 d2:FuncData} (F:Fun K "_law_alike" "_law_alike" ZbM f fd) (CB:Cal P w K mg base 4 "best_cascade" ["p","rows"] spBK f1 d1) (CL:Cal P w K mg base 4 "long_cascade" ["p","lengths"] (Zd2 K) f2 d2):FnOk P w K mg base CX0 5 f fd ["p","rows","length"] Zd3:=by
 refine okW F scLike66 (fun vs H Q E h=>?_) (fun cdv A outer s H vs Q E hr h=>?_)
 ·obtain⟨p,r,len,rfl,_⟩:=h;rfl
 ·obtain⟨p,r,len,rfl,p2,p7,r1,r40,l0,l6,k⟩:=h;have hr4:Room 4 _:=hr;have hu0:(A.deeper (PyProof.Rows.envOfC "_law_alike" (Zac ZbM) s.heap.objs.size f cdv)).units<cLine:=by have:=hr.un;(clear l6 l0 r40 r1 p7 p2;omega)
  refine⟨_,(Zai (ws (Zdz (Zan CB hr4 rfl (Zaa (pv 0) (Zaa (pv 1) Zad))) (ZbF rfl (Zap (Zak (i:=3) scLike66.nd rfl (YaK rfl)) (Zap (Zak (i:=4) scLike66.nd rfl (YaK rfl)) ZaH)))))
   (Zai (Zfo (PW.pt (ZhX (ZaG Zh8 (pv 2) Zag (ZaI _)) (ZfC (ZaG (ZmR hu0) (Zan CL hr4 rfl (Zaa (pv 0) (Zaa (Zau ZeX (ZaU (Zaa (pv 2) Zad)) (pv 1)) Zad))) (Zbj (Zaa (Zau ZdC (pv 3) (pv 2)) (Zaa (pv 4) Zad))) (ZaI _)))))
   (wss ZaX)
   ZbG)
   (ZaD (ws (Zaw (ZnF (ZfF Zh8 (ZaV Za9 (Zan CB hr4 rfl (Zaa (pv 0) (Zaa (Zau ZaZ (pv 1) Zag) Zad))) Zag (fun _ _=>rfl)) (pv 3) (ZaI _)) (ZkS (ZfF ZnI (pv 1) Zag (ZaI _))))))))),?_⟩
  have hz:20000<sizeLine:=by decide
  refine⟨_,rfl,_,rfl,p,(r:Int),rfl,p2,p7,by (clear hz hu0 l6 l0 r40 p7 p2;omega),by (clear hz hu0 l6 l0 r1 p7 p2;omega),fun t1 q H1 hB ht1 s1=>⟨t1,_,rfl,SqT.of ht1,rfl,_,_,rfl,_,_,rfl,rfl,?_⟩⟩;dsimp only;refine cut1 (a:=tIfS _ _ _) (fun σ' H'=>∃ o5:Option V,σ'=[some (.int p),some (.int r),some (.int len),some (.int q.1),some (.int q.2)]/\Same H H') (fun R' hR=>?_) ?_
  ·refine⟨_,rfl,_,_,rfl,rfl,_,rfl,?_⟩;refine ite2 (fun hpos=>?_) (fun _=>iteF (hR _ _ ⟨none,rfl,s1⟩));have hpos:0<len:=of_decide_eq_true hpos;refine⟨_,rfl,_,rfl,(by show 1<=sizeLine;decide),fun q3 nq3=>⟨_,rfl,q3,_,_,rfl,rfl,Zab,by (clear hpos hz hu0 l6 l0 r40 r1 p7 p2;omega),by (clear hpos hz hu0 l6 l0 r1 p7 p2;omega),?_,fun ll nll=>?_⟩⟩
   ·exact Ya8 (Zas (by show 1*((r:Int)).toNat<=1000;(clear hpos hz hu0 l6 l0 r1 p7 p2;omega)))
   have el:(Yae (r:Int).toNat [V.int len]).flatten=(Yae r len).map V.int:=by
    rw[Ybz,Ybf,YeS]
   rw[el];have s2:=(Same.new (o:=.lst [V.int len]) nq3).trans (Same.new (o:=.lst ((Yae r len).map V.int)) nll);have e2:upd (upd H1 q3 (.lst [V.int len])) ll (.lst ((Yae r len).map V.int)) ll=some (.lst ((Yae r len).map V.int)):=Zab;generalize upd (upd H1 q3 (.lst [V.int len])) ll (.lst ((Yae r len).map V.int))=H2 at s2 e2 ⊢;refine⟨p,ll,true,Yae r len,rfl,p2,p7,SqL.of e2,by rw[Ya7];(clear hpos hz hu0 l6 l0 r1 p7 p2;omega),fun l hl=>by rw[(Yb3.mp hl).2];exact ZaW l0 (by (clear hpos hz hu0 l0 r40 r1 p7 p2;omega)),fun t4 R4 n4 m4 H4 nt4 ht4 hbest4 hm49 hm44 s4=>?_⟩;obtain⟨rfl,rfl⟩:=ZiB p2 p7 r1 r40 (by (clear hm44 hz hu0 l6 l0 r40 r1 p7 p2;omega)) (ZcL hbest4 hm49 hm44) hB;refine⟨_,rfl,_,rfl,_,_,rfl,rfl,.inr ⟨by (clear hm44 hpos hz hu0 l6 r40 r1 p7 p2;omega),by (clear hm44 hpos hz hu0 l0 r40 r1 p7 p2;omega)⟩,_,rfl,(by show 2<=sizeLine;decide),fun t5 nt5=>?_⟩;have s5:=Same.new (o:=.tup [V.int (q.1*len),.int (q.2:Int)]) nt5;refine⟨t4,t5,[q.1*len,(q.2:Int)],[q.1*len,(q.2:Int)],rfl,rfl,SqT.of (s5 _ _ ht4),SqT.of Zab,_,rfl,?_⟩;rw[decide_eq_true rfl];exact iteF (hR _ _ ⟨none,rfl,((s1.trans s2).trans s4).trans s5⟩)
  rintro σ H5 ⟨_,rfl,s05⟩;refine⟨_,rfl,_,rfl,_,_,rfl,rfl,p,(r:Int)+1,rfl,p2,p7,by (clear hz hu0 l6 l0 r40 r1 p7 p2;omega),by (clear hz hu0 l6 l0 r1 p7 p2;omega),fun t6 q6 H6 hB6 ht6 s6=>⟨t6,_,0,_,rfl,rfl,SqT.of ht6,rfl,_,rfl,_,_,rfl,rfl,true,?_,iteT (k _ (s05.trans s6))⟩⟩;have:=(Zbp p2).more (show 101<=301 by decide) (show (1:Int)<=r by (clear hz hu0 l6 l0 r40 p7 p2;omega)) hB hB6;dsimp only;rw[decide_eq_true this]
theorem scLaw66:FnScope ["script","k","pot","p","n","numbers","reel","rows","lengths","lain","reading","level","room"] ["script"] (Zac sLaw):=⟨rfl,rfl,rfl,by decide +kernel,rfl,by decide +kernel,by decide +kernel⟩
theorem Zkd {f f1 f2 f3 f4 f5 f6 f7 f8 f9 f10:Addr}{fd d1 d2 d3 d4 d5 d6 d7 d8 d9 d10:FuncData} (F:Fun K "law" "law" sLaw f fd) (T:Txt mg) (CP:Cal P w K mg base 1 "_law_pot" ["script","k"] (ZhO K) f1 d1) (CX:Cal P w K mg base 1 "_law_next" ["pot","many"] ZcN f2 d2) (CV:Cal P w K mg base 3 "_law_level" ["pot","p"] Zfy f3 d3) (CN:Cal P w K mg base 5 "cascade_numbers" ["p","n"] ZhP f4 d4) (CD:Cal P w K mg base 2 "_law_drawn" ["pot","numbers","many"] ZcP f5 d5) (CB:Cal P w K mg base 4 "best_cascade" ["p","rows"] spBK f6 d6) (CL:Cal P w K mg base 4 "long_cascade" ["p","lengths"] (Zd2 K) f7 d7) (CC:Cal P w K mg base 2 "_law_counts" ["p","n"] ZcQ f8 d8) (CA:Cal P w K mg base 5 "_law_alike" ["p","rows","length"] Zd3 f9 d9) (CR:Cal P w K mg base 5 "_law_rises" ["p","n"] ZdZ f10 d10):FnOk P w K mg base CX0 6 f fd ["script"] (ZjI K):=by
 refine okW F scLaw66 (fun vs H Q E h=>?_) (fun cdv A outer s H vs Q E hr h=>?_)
 ·obtain⟨a,cs,rfl,_⟩:=h;rfl
 ·obtain⟨a,cs,rfl,hS,hlen,k⟩:=h;have hr5:Room 5 _:=hr;have hr1:Room 1 _:=hr.mono (by decide);have hr2:Room 2 _:=hr.mono (by decide);have hr3:Room 3 _:=hr.mono (by decide);have hr4:Room 4 _:=hr.mono (by decide);refine⟨_,(Zai (ws (ZaY Ya0 rfl (ZaP rfl T.range (Zaa (Zar (Zff rfl) rfl T.max Zng (Zaa Zag (Zaa (Zar (Zbr rfl) rfl T.min Zjq (Zaa Zag (Zaa (Zar ZaC rfl T.len YbZ (Zaa (pv 0) Zad)) Zad))) Zad))) Zad)) (Zak (i:=1) scLaw66.nd rfl (YaK rfl))
   (WSs.out (Zai (ws (Zaq (i:=2) scLaw66.nd rfl (Yen rfl) (Zan CP hr1 rfl (Zaa (pv 0) (Zaa (pv 1) Zad)))))
    (Zai (ws (Zaq (i:=3) scLaw66.nd rfl (YaK rfl) (Zau ZaZ Zag (Zan CX hr1 rfl (Zaa (pv 2) (Zaa Zag Zad))))))
    (Zai (ws (Zaq (i:=4) scLaw66.nd rfl (YaK rfl) (Zan CV hr3 rfl (Zaa (pv 2) (Zaa (pv 3) Zad)))))
    (Zai (ws (Zaq (i:=5) scLaw66.nd rfl (YaK rfl) (ZaU Zad)))
    (Zai (ws (ZaY Ya0 rfl (ZlB (Zan CN hr5 rfl (Zaa (pv 3) (Zaa (pv 4) Zad)))) (Zak (i:=6) scLaw66.nd rfl (YaK rfl))
    (WSs.out (ZaD (ws (ZaO (ZeW Ybm PySem.F.slot_list_extend PySem.F.type_list_extend Zhe (pv 5) (Zaa (pv 6) Zad))))))))
    (Zai (ws (Zaq (i:=7) scLaw66.nd rfl (YaK rfl) (Zau ZaZ Zag (Zan CX hr1 rfl (Zaa (pv 2) (Zaa (Zar (Zbr rfl) rfl T.min Zjq (Zaa Zag (Zaa (Zar ZaC rfl T.len YbZ (Zaa (pv 5) Zad)) Zad))) Zad))))))
    (Zai (ws (Zly (i:=8) scLaw66.nd rfl rfl (own:=["turn"]) (js:=[2]) (CompOk.by (sc:=Zac sLaw) (N:=["script","k","pot","p","n","numbers","reel","rows","lengths","lain","reading","level","room"]) rfl rfl (by decide +kernel)) rfl (ZaP rfl T.range (Zaa (pv 7) Zad)) ZbB (fun _ _ _ _ _=>(Zak (i:=0) (by show (["turn","pot"]:List Str).Nodup;decide +kernel) rfl (YaK rfl) (.inr rfl))) (fun _ _ _ _ _=>Zba) (fun _ _ _ _ _=>(Zan CX hr1 rfl (Zaa (pv 1) (Zaa (WE.out (Znm (Zku K) (Zhu (Zfs rfl Zag (Zfs rfl Zag (Zfs rfl (Zau Zgr Zag Zag) Zhv)))) (we (Zan CX hr1 rfl (Zaa (pv 1) (Zaa Zag Zad)))) (fun _ _=>rfl))) Zad))))))
    (Zai (ws (Zaq (i:=9) scLaw66.nd rfl (YaK rfl) (Zan CD hr2 rfl (Zaa (pv 2) (Zaa (pv 5) (Zaa (pv 7) Zad))))))
    (Zai (Zfo (ZaG Zh7 (Zar (Zb8 rfl) rfl T.sum Zf2 (Zaa (pv 9) Zad)) (ZaV Za9 (Zan CB hr4 rfl (Zaa (pv 3) (Zaa (pv 7) Zad))) Zag (fun _ _=>rfl)) (ZaI _))
    (wss ZaX)
    ZbG)
    (Zai (ws (Zdz (Zan CL hr4 rfl (Zaa (pv 3) (Zaa (pv 8) Zad))) (ZbF rfl (Zap (Zak (i:=10) scLaw66.nd rfl (YaK rfl)) (Zap (Zak (i:=11) scLaw66.nd rfl (YaK rfl)) ZaH)))))
    (Zai (Zfo (ZaG Zh7 (Zar (Zb8 rfl) rfl T.sum Zf2 (Zaa (Zcq (own:=["number","length"]) (js:=[]) (CompOk.by (sc:=Zac sLaw) (N:=["script","k","pot","p","n","numbers","reel","rows","lengths","lain","reading","level","room"]) rfl rfl (by decide +kernel)) rfl (ZfE rfl T.zip (Zaa (pv 9) (Zaa (pv 8) Zad))) (ZcZ (i:=0) (k:=1) (K:=K)) (fun _ _ _ _ _=>(ZbP K rfl (Zap (Zak (i:=0) (by show (["number","length"]:List Str).Nodup;decide +kernel) rfl (YaK rfl) (.inr rfl)) (Zap (Zak (i:=1) (by show (["number","length"]:List Str).Nodup;decide +kernel) rfl (YaK rfl) (.inr rfl)) ZaH)))) (fun _ _ _ _ _=>Zba) (fun _ _ _ _ _=>(Zau ZdC (pv 0) (pv 1)))) Zad)) (pv 10) (ZaI _))
    (wss ZaX)
    ZbG)
    (Zai (ws (Zaq (i:=12) scLaw66.nd rfl (YaK rfl) (Zau ZdB (Zar (Zc4 rfl) rfl T.sum Zf2 (Zaa (Zan CC hr2 rfl (Zaa (pv 3) (Zaa (pv 11) Zad))) Zad)) (pv 7))))
    (Zai (Zfo (ZaG ZnH (ZaV Za9 (Zan CL hr4 rfl (Zaa (pv 3) (Zaa (Zau ZdE (pv 8) (Zau ZeX (ZaU (Zaa Zag Zad)) (Zar (Zbr rfl) rfl T.min Zjq (Zaa (pv 12) (Zaa Zag Zad))))) Zad))) Zag (fun _ _=>rfl)) (pv 10) (ZaI _))
    (wss ZaX)
    ZbG)
    (ZaD (Zfo (PW.pt (ZhW (Zdy (Zgj (Zan CA hr5 rfl (Zaa (pv 3) (Zaa (pv 7) (Zaa (Zan CX hr1 rfl (Zaa (pv 2) (Zaa (Zau Zgr Zag Zag) Zad))) Zad)))))) (ZeT (Zdy (Zgj (Zan CR hr5 rfl (Zaa (pv 3) (Zaa (Zan CX hr1 rfl (Zaa (pv 2) (Zaa Zag Zad))) Zad))))))))
    (wss ZaX)
    ZbG))))))))))))))))))
   (ZaD (ws (Zaw ZnG)))),?_⟩
  have hz:20000<sizeLine:=by decide
  refine⟨_,rfl,a,_,rfl,.inl hS,_,_,rfl,_,_,rfl,_,rfl,?_,?_,?_⟩
  ·rw[Yad];split <;> split <;> (clear hz hlen;omega)
  ·rw[Yad];split <;> split <;> (clear hz hlen;omega)
  generalize hN:(if (if ((cs.map V.int).length:Int)<5 then ((cs.map V.int).length:Int) else 5) > 1 then (if ((cs.map V.int).length:Int)<5 then ((cs.map V.int).length:Int) else 5) else 1).toNat=N;have hN5:N<=5:=by rw[<- hN,Yad];split <;> split <;> (clear hN hz hlen;omega)
  refine Za7 (fun i σ Hx=>∃ o1 o2 o3 o4 o5 o6 o7 o8 o9 q1 q2 q3:Option V,σ=[some (.ref a),o1,o2,o3,o4,o5,o6,o7,o8,o9,q1,q2,q3]/\Same H Hx) ⟨none,none,none,none,none,none,none,none,none,none,none,none,rfl,Same.refl _⟩ ?_ ?_
  ·rintro i σ Hx hi ⟨o1,o2,o3,o4,o5,o6,o7,o8,o9,q1,q2,q3,rfl,sx⟩;refine⟨_,rfl,_,rfl,a,cs,_,rfl,sx.seq hS,by (clear hi hN5 hN hz hlen;omega),by (clear hN5 hz hlen;omega),fun pl H1 npl hP1 s1=>?_⟩;have hpl0:H pl=none:=sx.free npl;have sx1:=sx.trans s1;refine⟨_,rfl,pl,6,rfl,hP1,by decide,by decide,fun dp H2 p0 p1 hP2 sm2=>⟨2,dp,rfl,rfl,?_⟩⟩;obtain⟨p,ep⟩:∃ p:Nat,2+dp=(p:Int):=⟨(2+dp).toNat,by (clear p1 hi hN5 hN hz hlen;omega)⟩
   have p2:2<=p:=by (clear p1 hi hN5 hN hz hlen;omega)
   have p7:p<=7:=by (clear p2 p0 hi hN5 hN hz hlen;omega)
   dsimp only;rw[ep];refine⟨_,rfl,_,rfl,pl,p,rfl,p2,p7,hP2,fun n H3 hn60 hn4 hP3 sm3=>?_⟩;have sm13:=sm2.trans sm3;refine⟨YaV _,fun nl nnl=>?_⟩;have s4:=Same.new (o:=.lst []) nnl;have e4:upd H3 nl (.lst []) nl=some (.lst (([]:List Int).map V.int)):=Zab;have hP4:=hP3.same s4;have nlp:nl≠pl:=hP3.ne nnl;have sm4:=sm13.trans (Sm.of (p:=pl) s4);have nl1:H1 nl=none:=sm13.free nlp nnl;generalize upd H3 nl (.lst [])=H4 at s4 e4 hP4 sm4 ⊢;have hcs:(casc p n).sum=tlv true p n:=(ZbK (by (clear nlp hn4 hn60 p7 p2 p1 hi hN5 hN hz hlen;omega)) n).symm;refine⟨_,rfl,_,rfl,p,n,rfl,p2,p7,by (clear hcs nlp hn4 p7 p2 ep p1 p0 hi hN5 hN hz hlen;omega),by (clear nlp hn60 p7 p2 ep p1 p0 hi hN5 hN hz hlen;omega),fun lt rs H5 nlt hlt hTT s5=>⟨lt,false,rfl,⟨_,SqT.of hlt⟩,?_⟩⟩;have hrl:rs.length=p:=by rw[hTT.1];exact ZaS (by (clear hcs nlp hn4 hn60 p7 p2 p1 hi hN5 hN hz hlen;omega)) n
   have hfl:((casN p n).flatten.length:Int)=tlv true p n:=rfl;refine Zkz (b:=false) (K:=K) (a:=lt) (xs:=rs.map V.ref) (fun i' σ Hy=>∃ o6:Option V,σ=[some (.ref a),some (.int (0+(i:Int))),some (.ref pl),some (.int p),some (.int n),some (.ref nl),o6,o7,o8,o9,q1,q2,q3]/\Hy nl=some (.lst (((casN p n).take i').flatten.map V.int))/\True/\Hy lt=some (.tup (rs.map V.ref))/\TTs Hy rs (casN p n)/\Pool3 Hy pl/\Sm pl H1 Hy) ?_ (fun i σ Hy _ ⟨_,_,_,_,h,_⟩=>SqT.of h) ?_ ?_
   ·exact⟨o6,rfl,s5 _ _ e4,trivial,hlt,hTT,hP4.same s5,sm4.trans (Sm.of (p:=pl) s5)⟩
   ·rintro i' x σ Hy hx ⟨o6,rfl,hnl,_,hlty,hTTy,hPy,smy⟩;obtain⟨r,hr,rfl⟩:=Zbf hx;have hi:i'<(casN p n).length:=by rw[<- hTTy.1];exact (Yaa.mp hr).1
    have hrN:=hTTy.2 i' r _ hr (Yaf hi);have e2:((casN p n).take (i'+1)).flatten=((casN p n).take i').flatten++(casN p n)[i']:=by
     rw[YaJ hi,Ybd];simp
    have hle:(((casN p n).take (i'+1)).flatten).length<=(casN p n).flatten.length:=by
     have:(casN p n).flatten=((casN p n).take (i'+1)).flatten++((casN p n).drop (i'+1)).flatten:=by rw[<- Ybd,YaT]
     rw[this,Yaj]
     (clear hfl hrl hcs nlp hn4 hn60 p7 p2 ep p1 p0 hN5 hN hz hlen;omega)
    rw[e2,Yaj] at hle;refine⟨_,rfl,.inl ⟨rfl,_,SqL.of hnl⟩,_,rfl,nl,r,_,_,rfl,rfl,hnl,.inr hrN,by rw[sizeLine_eq,Yad,Yad];(clear hrl hcs nlp hn60 p7 p2 ep p1 p0 hN5 hN hz hlen;omega),?_⟩;have nelt:lt≠nl:=fun e=>by rw[e,hnl] at hlty;cases hlty
    refine⟨_,rfl,by rw[Zab,e2,YaU],trivial,by rw[Zaf nelt];exact hlty,TTs.offJ hTTy hnl,?_,smy.putP nl1⟩;obtain⟨u,v,w,e⟩:=hPy;exact⟨u,v,w,by rw[Zaf (Yba nlp)];exact e⟩
   rintro σ H6 ⟨o6,rfl,hnl,_,_,_,hP6,sm6⟩;rw[Yad,hTT.1,YaP] at hnl;have hgrow:=(Zcu p2 n).2
   generalize hFF:(casN p n).flatten=FF at hnl hfl;refine⟨_,rfl,_,rfl,nl,_,rfl,.inl (SqL.of hnl),_,_,rfl,pl,_,rfl,hP6,?_,?_,fun dr H7 r0 r1 hP7 sm7=>⟨1,dr,rfl,rfl,?_⟩⟩
   ·rw[Yad];split <;> (clear hrl nlp hn4 hn60 p7 p2 ep p1 p0 hi hN5 hN hz hlen;omega)
   ·rw[Yad];exact ZaW (by split <;> (clear hfl hgrow hrl hcs nlp hn4 hn60 p7 p2 ep p1 p0 hi hN5 hN hz hlen;omega)) (by split <;> (clear hfl hgrow hrl hcs nlp hn4 hn60 p7 p2 ep p1 p0 hi hN5 hN hz hlen;omega))
   rw[Yad] at r1;obtain⟨r,er⟩:∃ r:Nat,1+dr=(r:Int):=⟨(1+dr).toNat,by (clear r1 hfl hgrow hrl hcs nlp hn4 hn60 p7 p2 ep p1 p0 hi hN5 hN hz hlen;omega)⟩
   have hr1:1<=r:=by (clear r1 hfl hgrow hrl hcs nlp hn4 hn60 p7 p2 ep p1 p0 hi hN5 hN hz hlen;omega)
   have hr40:r<=40:=by split at r1 <;> (clear hr1 r0 hfl hgrow hrl hcs nlp hn4 hn60 p7 p2 ep p1 p0 hi hN5 hN hz hlen;omega)
   have hrF:r<=FF.length:=by split at r1 <;> (clear hr1 r0 hfl hgrow hrl hcs nlp hn4 hn60 p7 p2 ep p1 p0 hi hN5 hN hz hlen;omega)
   clear r1 r0;dsimp only;rw[er];have sm17:=sm6.trans sm7;have hnl7:=sm7 _ _ hnl nlp;refine⟨_,rfl,_,rfl,by show -(2 ^ 62)<=(r:Int);(clear hrF hr40 hr1 er hfl hgrow hrl hcs nlp hn4 hn60 p7 p2 ep p1 p0 hi hN5 hN hz hlen;omega),by show (r:Int)<2 ^ 62;(clear hrF hr1 er hfl hgrow hrl hcs nlp hn4 hn60 p7 p2 ep p1 p0 hi hN5 hN hz hlen;omega),?_⟩;rw[Ybf];refine ZdP (fun acc i Hx=>∃ ls:List Int,ls.length=i/\(∀ l∈ls,0<=l/\l<=1000000000000)/\Hx acc=some (.lst (ls.map V.int))/\Pool3 Hx pl/\Hx nl=some (.lst (FF.map V.int))/\Sm pl H1 Hx)
    (fun acc h0=>⟨[],rfl,by simp,Zab,hP7.put h0,(Same.new h0) _ _ hnl7,sm17.trans (Sm.new h0)⟩) ?_ ?_
   ·rintro acc i Hx h0 hi ⟨ls,hll,hlb,hacc,hPx,hnx,smx⟩;have hap:acc≠pl:=hP7.ne h0;have han:acc≠nl:=Yba (Zae hnl7 h0);have ha1:H1 acc=none:=sm17.free hap h0;refine⟨_,rfl,10,12,rfl,rfl,⟨by decide,by decide,by decide⟩,(by show 3<=sizeLine;decide),fun q nq=>?_⟩;have s9:=Same.new (o:=.lst [V.int 3,.int 10,.int (10 ^ Yds 12)]) nq;have e9:upd Hx q (.lst [V.int 3,.int 10,.int (10 ^ Yds 12)]) q=some (.lst [V.int 3,.int 10,.int (10 ^ Yds 12)]):=Zab;have hP9:=hPx.same s9;have qp:q≠pl:=hPx.ne nq;have sm9:=smx.trans (Sm.of (p:=pl) s9);have hacc9:=s9 _ _ hacc;have hnx9:=s9 _ _ hnx;generalize upd Hx q (.lst [V.int 3,.int 10,.int (10 ^ Yds 12)])=H9 at s9 e9 hP9 sm9 hacc9 hnx9 ⊢;refine⟨_,rfl,pl,3,rfl,hP9,by decide,by decide,fun j H10 j0 j1 hP10 sm10=>?_⟩;obtain⟨fr,hfr,f1,f2⟩:∃ fr:Int,atI [V.int 3,.int 10,.int (10 ^ Yds 12)] j=some (.int fr)/\1<=fr/\fr<=1000000000000:=by
     rcases (show j=0∨j=1∨j=2 by (clear qp han hap hll hi hrF hr40 hr1 er hfl hgrow hrl hcs nlp hn4 hn60 p7 p2 ep p1 p0 hN5 hN hz hlen;omega)) with rfl | rfl | rfl
     ·exact⟨3,rfl,by decide,by decide⟩
     ·exact⟨10,rfl,by decide,by decide⟩
     ·exact⟨10 ^ Yds 12,rfl,by decide,by decide⟩
    refine⟨q,_,j,.int fr,rfl,rfl,SqL.of (sm10 _ _ e9 qp),hfr,pl,fr,rfl,hP10,by (clear f2 j1 j0 qp han hap hll hi hrF hr40 hr1 er hfl hgrow hrl hcs nlp hn4 hn60 p7 p2 ep p1 p0 hN5 hN hz hlen;omega),ZaW (by (clear f2 j1 j0 qp han hap hll hi hrF hr40 hr1 er hfl hgrow hrl hcs nlp hn4 hn60 p7 p2 ep p1 p0 hN5 hN hz hlen;omega)) (by (clear f1 j1 j0 qp han hap hll hi hrF hr40 hr1 er hfl hgrow hrl hcs nlp hn4 hn60 p7 p2 ep p1 p0 hN5 hN hz hlen;omega)),fun d H11 d0 d1 hP11 sm11=>?_⟩;refine⟨_,sm11 _ _ (sm10 _ _ hacc9 hap) hap,Zas (by rw[Yad];(clear d1 d0 f2 f1 j1 j0 qp han hap hrF hr1 er hfl hgrow hrl hcs nlp hn4 hn60 p7 p2 ep p1 p0 hN5 hN hz hlen;omega)),hi,ls++[d],by simp[hll],fun l hl=>?_,?_,?_,?_,((sm9.trans sm10).trans sm11).putP ha1⟩
    ·rcases Yap.mp hl with h | h
     ·exact hlb l h
     ·rw[YaN.mp h];(clear f1 j1 j0 qp han hap hll hi hrF hr40 hr1 er hfl hgrow hrl hcs nlp hn4 hn60 p7 p2 ep p1 p0 hN5 hN hz hlen;omega)
    ·rw[Zab,YaU];rfl
    ·obtain⟨u,v,w,e⟩:=hP11;exact⟨u,v,w,by rw[Zaf (Yba hap)];exact e⟩
    ·rw[Zaf (Yba han)];exact sm11 _ _ (sm10 _ _ hnx9 nlp) nlp
   ·rintro ll H8 h0 ⟨ls,hll,hlb,hLL,hP8,hn8,sm8⟩;have llp:ll≠pl:=hP7.ne h0;have h00:∀ l∈ls,0<=l:=fun l hl=>(hlb l hl).1
    have hbits:∀ l∈ls,Ya2 l<=8000:=fun l hl=>ZaW (hlb l hl).1 (by have:=(hlb l hl).2;(clear llp hll hrF hr40 hr1 er hfl hgrow hrl hcs nlp hn4 hn60 p7 p2 ep p1 p0 hi hN5 hN hz hlen;omega));refine⟨_,rfl,_,rfl,_,rfl,pl,nl,FF,r,rfl,hP8,hn8,nlp,hrF,by (clear llp hll hrF hr40 hr1 er hgrow hrl hcs nlp hn60 p7 p2 ep p1 p0 hi hN5 hN hz hlen;omega),fun al as rest H9 nal hal has hpm hP9 sm9=>?_⟩;rw[<- hFF] at hpm;have hL9:=sm9 _ _ hLL llp;have sm19:=sm8.trans sm9;refine⟨_,rfl,al,_,rfl,SqL.of hal,_,rfl,_,rfl,p,(r:Int),rfl,p2,p7,by (clear has llp hll hrF hr40 er hfl hgrow hrl hcs nlp hn4 hn60 p7 p2 ep p1 p0 hi hN5 hN hz hlen;omega),by (clear has llp hll hrF hr1 er hfl hgrow hrl hcs nlp hn4 hn60 p7 p2 ep p1 p0 hi hN5 hN hz hlen;omega),fun t1 q H10 hB ht1 s10=>⟨t1,_,0,_,rfl,rfl,SqT.of ht1,rfl,_,_,rfl,rfl,_,rfl,?_⟩⟩;have i1:=hB.laid p2 hr1 has hpm (by (clear has llp hll hrF hr40 hr1 er hfl hgrow hrl hcs nlp hn4 p7 p2 ep p1 p0 hi hN5 hN hz hlen;omega));rw[decide_eq_false (show ¬ as.sum<q.1 by (clear has llp hll hrF hr40 hr1 er hfl hgrow hrl hcs nlp hn4 hn60 p7 p2 ep p1 p0 hi hN5 hN hz hlen;omega))];refine iteF ?_;have hL10:=s10 _ _ hL9;refine⟨_,rfl,_,rfl,p,ll,true,ls,rfl,p2,p7,SqL.of hL10,by (clear i1 has llp hrF hr1 er hfl hgrow hrl hcs nlp hn4 hn60 p7 p2 ep p1 p0 hi hN5 hN hz hlen;omega),hbits,fun t2 R2 n2 m2 H11 nt2 ht2 hbest2 hm29 hm24 s11=>⟨t2,_,rfl,SqT.of ht2,rfl,_,_,rfl,_,_,rfl,rfl,?_⟩⟩;have hBT:=ZcL hbest2 hm29 hm24;have i2:=hBT.le p2 h00 (has.trans hll.symm) hpm (by show tlv true p n<=4000;(clear hm24 i1 has llp hll hrF hr40 hr1 er hfl hgrow hrl hcs nlp hn60 p7 p2 ep p1 p0 hi hN5 hN hz hlen;omega));have s911:=s10.trans s11;have hal11:=s911 _ _ hal;have hL11:=s911 _ _ hL9;refine⟨_,rfl,_,rfl,true,true,al,ll,rfl,⟨_,SqL.of hal11⟩,⟨_,SqL.of hL11⟩,?_⟩;refine Zji ((YbU (·*·) as ls).map V.int) (show SqB true K H11 al (as.map V.int) from SqL.of hal11) (show SqB true K H11 ll (ls.map V.int) from SqL.of hL11) (by rw[Yad,Yad];(clear i2 hm24 i1 llp hrF hr40 hr1 er hfl hgrow hrl hcs nlp hn4 hn60 p7 p2 ep p1 p0 hi hN5 hN hz hlen;omega)) (by rw[Yad,Yad,YeJ];(clear i2 hm24 i1 llp hrF hr40 hr1 er hfl hgrow hrl hcs nlp hn4 hn60 p7 p2 ep p1 p0 hi hN5 hN hz hlen;omega)) (by rw[Yad];(clear i2 hm24 i1 has llp hrF hr1 er hfl hgrow hrl hcs nlp hn4 hn60 p7 p2 ep p1 p0 hi hN5 hN hz hlen;omega)) (fun i x y z hx hy hz pp Hc sc hp Rr hRr=>?_) fun acc5 H12 n5 s12 hacc5=>?_
    ·obtain⟨x',hx',rfl⟩:=Zbo hx;obtain⟨y',hy',rfl⟩:=Zbo hy;rw[Yas,Yes,hx',hy'] at hz;cases hz;have:=hlb y' (YaE hy');exact⟨pp,_,rfl,SqT.of hp,rfl,_,_,rfl,_,_,rfl,rfl,_,rfl,_,rfl,_,_,rfl,rfl,.inr ⟨by (clear i2 hm24 i1 has llp hll hrF hr40 hr1 er hfl hgrow hrl hcs nlp hn4 hn60 p7 p2 ep p1 p0 hi hN5 hN hz hlen;omega),by (clear i2 hm24 i1 has llp hll hrF hr40 hr1 er hfl hgrow hrl hcs nlp hn4 hn60 p7 p2 ep p1 p0 hi hN5 hN hz hlen;omega)⟩,hRr Hc (Same.refl _)⟩
    refine⟨acc5,_,rfl,SqL.of hacc5,_,rfl,_,_,rfl,rfl,_,rfl,?_⟩;rw[ZdT,decide_eq_false (show ¬ dot ls as<R2 by (clear hm24 i1 has llp hll hrF hr40 hr1 er hfl hgrow hrl hcs nlp hn4 hn60 p7 p2 ep p1 p0 hi hN5 hN hz hlen;omega))];refine iteF ?_;have hn61:n2<=61:=by
     obtain⟨m,b1,b2,_⟩:=hBT;have:=b1.le61 p2 p7
     (clear i2 hm24 i1 has llp hll hrF hr40 hr1 er hfl hgrow hrl hcs nlp hn4 hn60 p7 p2 ep p1 p0 hi hN5 hN hz hlen;omega)
    have hfit:(r:Int)<=tlv true p n2:=by
     obtain⟨m,b1,b2,b3,_⟩:=hBT;unfold fitF at b3;split at b3
     ·rename_i hf;show (r:Int)<=((SS true p n2).flatten.length:Int)
      (clear b2 hn61 i2 hm24 i1 has llp hrF hr40 hr1 er hfl hgrow hrl hcs nlp hn4 hn60 p7 p2 ep p1 p0 hi hN5 hN hz hlen;omega)
     ·cases b3
    have ht4000:tlv true p n2<=4000:=by
     obtain⟨m,b1,b2,_⟩:=hBT;exact b1.1 n2 b2
    refine⟨_,rfl,_,rfl,p,n2,rfl,p2,p7,by (clear ht4000 hfit i2 hm24 i1 has llp hll hrF hr40 hr1 er hfl hgrow hrl hcs nlp hn4 hn60 p7 p2 ep p1 p0 hi hN5 hN hz hlen;omega),fun l5 H13 nl5 hl5 s13=>⟨l5,_,rfl,SqT.of hl5,_,rfl,_,_,rfl,rfl,?_⟩⟩;dsimp only;rw[show (casc p n2).sum=tlv true p n2 from (ZbK (by (clear ht4000 hfit hn61 i2 hm24 i1 has llp hll hrF hr40 hr1 er hfl hgrow hrl hcs nlp hn4 hn60 p7 p2 p1 hi hN5 hN hz hlen;omega)) n2).symm];generalize hZ:tlv true p n2 - (r:Int)=Z;have s1113:=s12.trans s13;have hL13:=s1113 _ _ hL11;refine⟨_,rfl,_,rfl,(by show 1<=sizeLine;decide),fun q3 nq3=>⟨_,rfl,_,_,rfl,?_⟩⟩;obtain⟨z,ez⟩:∃ z:Nat,(if (40:Int)<Z then 40 else Z)=(z:Int):=⟨(if (40:Int)<Z then 40 else Z).toNat,by split <;> (clear ht4000 hn61 i2 hm24 i1 has llp hll hrF hr40 hr1 er hfl hgrow hrl hcs nlp hn4 hn60 p7 p2 ep p1 p0 hi hN5 hN hz hlen;omega)⟩
    have hz40:z<=40/\(r:Int)+z<=tlv true p n2:=by split at ez <;> (clear ht4000 hfit hn61 i2 hm24 i1 has llp hll hrF hr40 hr1 er hfl hgrow hrl hcs nlp hn4 hn60 p7 p2 ep p1 p0 hi hN5 hN hz hlen;omega)
    rw[ez];refine⟨q3,_,_,rfl,rfl,Zab,by (clear hz40 ez hZ ht4000 hfit hn61 i2 hm24 i1 has llp hll hrF hr40 hr1 er hfl hgrow hrl hcs nlp hn4 hn60 p7 p2 ep p1 p0 hi hN5 hN hz hlen;omega),by (clear hz40 hZ ht4000 hfit hn61 i2 hm24 i1 has llp hll hrF hr40 hr1 er hfl hgrow hrl hcs nlp hn4 hn60 p7 p2 ep p1 p0 hi hN5 hN hz hlen;omega),?_,fun z3 nz3=>?_⟩
    ·exact Ya8 (Zas (by show 1*((z:Int)).toNat<=1000;(clear hz40 hZ ht4000 hfit hn61 i2 hm24 i1 has llp hll hrF hr40 hr1 er hfl hgrow hrl hcs nlp hn4 hn60 p7 p2 ep p1 p0 hi hN5 hN hz hlen;omega)))
    have el:(Yae (z:Int).toNat [V.int 0]).flatten=(Yae z (0:Int)).map V.int:=by
     rw[Ybz,Ybf,YeS]
    rw[el];have s14:=(Same.new (o:=.lst [V.int 0]) nq3).trans (Same.new (o:=.lst ((Yae z (0:Int)).map V.int)) nz3);have e14:upd (upd H13 q3 (.lst [V.int 0])) z3 (.lst ((Yae z (0:Int)).map V.int)) z3=some (.lst ((Yae z (0:Int)).map V.int)):=Zab;generalize upd (upd H13 q3 (.lst [V.int 0])) z3 (.lst ((Yae z (0:Int)).map V.int))=H14 at s14 e14 ⊢;refine⟨ll,z3,_,_,rfl,rfl,s14 _ _ hL13,e14,?_,fun c3 nc3=>?_⟩
    ·exact Ya8 (Zas (by simp;(clear hz40 hZ ht4000 hfit hn61 i2 hm24 i1 has llp hrF hr1 er hfl hgrow hrl hcs nlp hn4 hn60 p7 p2 ep p1 p0 hi hN5 hN hz hlen;omega)))
    rw[<- YaU];have s15:=Same.new (o:=.lst ((ls++Yae z 0).map V.int)) nc3;have e15:upd H14 c3 (.lst ((ls++Yae z 0).map V.int)) c3=some (.lst ((ls++Yae z 0).map V.int)):=Zab;generalize upd H14 c3 (.lst ((ls++Yae z 0).map V.int))=H15 at s15 e15 ⊢;refine⟨p,c3,true,ls++Yae z 0,rfl,p2,p7,SqL.of e15,by simp;(clear hz40 hZ ht4000 hfit hn61 i2 hm24 i1 has llp hrF hr1 er hfl hgrow hrl hcs nlp hn4 hn60 p7 p2 ep p1 p0 hi hN5 hN hz hlen;omega),fun l hl=>?_,fun t6 R6 n6 m6 H16 nt6 ht6 hbest6 hm69 hm64 s16=>⟨t6,_,0,_,rfl,rfl,SqT.of ht6,rfl,_,rfl,?_⟩⟩
    ·rcases Yap.mp hl with h | h
     ·exact hbits l h
     ·rw[(Yb3.mp h).2];decide
    have e6:R6=R2:=hBT.zeros h00 (ZcL hbest6 hm69 hm64) (by (clear hm64 hz40 ht4000 hfit hn61 i2 hm24 i1 has llp hrF hr40 hr1 er hfl hgrow hrl hcs nlp hn4 hn60 p7 p2 ep p1 p0 hi hN5 hN hz hlen;omega));subst e6;refine⟨rfl,_,rfl,?_⟩;rw[decide_eq_true rfl];refine iteF ?_;have s1116:=((s1113.trans s14).trans s15).trans s16;have hP16:=hP9.same (s911.trans s1116);have sm116:=sm19.trans (Sm.of (p:=pl) (s911.trans s1116));refine⟨_,rfl,_,rfl,_,rfl,10,6,rfl,rfl,⟨by decide,by decide,by decide⟩,pl,_,rfl,hP16,by decide,by decide,fun g1 H17 g10 g11 hP17 sm17'=>⟨p,r,g1,rfl,p2,p7,hr1,hr40,g10,Int.le_of_lt g11,fun H18 s18=>⟨true,rfl,iteF ?_⟩⟩⟩;have hP18:=hP17.same s18;refine⟨_,rfl,_,rfl,pl,40,rfl,hP18,by decide,by decide,fun g2 H19 g20 g21 hP19 sm19'=>?_⟩;obtain⟨g2,rfl⟩:∃ i:Nat,g2=(i:Int):=⟨g2.toNat,by (clear g21 g11 g10 i2 hm64 hz40 ez hZ ht4000 hfit hn61 hm24 i1 has llp hll hrF hr40 hr1 er hfl hgrow hrl hcs nlp hn4 hn60 p7 p2 ep p1 p0 hi hN5 hN hz hlen;omega)⟩
    refine⟨p,g2,rfl,p2,p7,by (clear g20 g11 g10 i2 hm64 hz40 ez hZ ht4000 hfit hn61 hm24 i1 has llp hll hrF hr40 hr1 er hfl hgrow hrl hcs nlp hn4 hn60 p7 p2 ep p1 p0 hi hN5 hN hz hlen;omega),fun H20 s20=>⟨true,rfl,iteF ?_⟩⟩;exact⟨_,_,_,_,_,_,_,_,_,_,_,_,rfl,Sm.after sx1 ((((sm116.trans sm17').trans (Sm.of (p:=pl) s18)).trans sm19').trans (Sm.of (p:=pl) s20)) hpl0⟩
  ·rintro σ Hx ⟨o1,o2,o3,o4,o5,o6,o7,o8,o9,q1,q2,q3,rfl,sx⟩;exact k Hx
end
end Fs66
namespace Fs66
open PySem L2 Lv
section
variable {P:Program}{w:World}{K:Yac}{mg:Str->Option Value}{base:Heap}
theorem scNextKS:FnScope ["spreads","read","reels","spread"] ["spreads"] (Zac Zcf):=⟨rfl,rfl,rfl,by decide +kernel,rfl,by decide +kernel,by decide +kernel⟩
theorem Zid {f f1:Addr}{fd d1:FuncData} (F:Fun K "next_cascade_spreads" "next_cascade_spreads" Zcf f fd) (T:Txt mg) (CB:Cal P w K mg base 1 "both_spreads" ["one","other"] Zd7 f1 d1):FnOk P w K mg base CX0 2 f fd ["spreads"] (Zcc Zat):=by
 refine okW F scNextKS (fun vs H Q E h=>?_) (fun cdv A outer s H vs Q E hr h=>?_)
 ·obtain⟨a,rs,N,rfl,_⟩:=h;rfl
 ·obtain⟨a,rs,N,rfl,hA,hD,hN,hN7,hB,k⟩:=h;refine⟨_,Zai (Zf3 (i:=1) scNextKS.nd rfl (YaK rfl) (we Zek))
   (Zai (Zf3 (i:=2) scNextKS.nd rfl (YaK rfl) (we (ZaU Zad)))
   (Zai (ws (ZaY Ya0 rfl (ZhZ (ZcF ZhR (pv 0) Zeh (ZbO (Zei ZbV Zag)))) (Zak (i:=3) scNextKS.nd rfl (YaK rfl))
    (WSs.out (Zai (Zf3 (i:=1) scNextKS.nd rfl (YaK rfl) (we (Zan CB hr rfl (Zaa (pv 1) (Zaa (ZmM (Zj5 (own:=["number","many"]) (js:=[]) (CompOk.bare (by decide +kernel)) rfl (Zgn (Zej (pv 3))) (ZcZ (i:=0) (k:=1) (K:=K))
      (fun _ _ _ _ _=>ZbP K rfl (Zap (Zak (i:=0) (by show (["number","many"]:List Str).Nodup;decide +kernel) rfl (YaK rfl) (.inr rfl)) (Zap (Zak (i:=1) (by show (["number","many"]:List Str).Nodup;decide +kernel) rfl (YaK rfl) (.inr rfl)) ZaH))) (fun _ _ _ _ _=>Zba)
      (fun _ _ _ _ _=>Zau ZaZ (pv 0) Zag) (fun _ _ _ _ _=>pv 1))) Zad)))))
     (ZaD (ws (ZaO (ZeW Ybm YbP YbO Za6 (pv 2) (Zaa (pv 1) Zad)))))))))
   (ZaD (Zht (Zmc ZdE (Zhu (Zf5 rfl (we (Zan CB hr rfl (Zaa (pv 1) (Zaa (ZaV Za0 (pv 0) (Zei ZbV Zag) (fun _ _=>rfl)) Zad)))) Zhv)) (we (Zh4 (pv 2) (ZbO (Zei ZbV Zag))))))))),?_⟩
  obtain⟨I,Z,rfl⟩:∃ I Z,N=I++[Z]:=by
   have hne:N≠[]:=by rintro rfl;simp at hN
   exact⟨N.dropLast,N.getLast hne,(Ybk hne).symm⟩
  obtain⟨rs',z,rfl⟩:∃ rs' z,rs=rs'++[z]:=by
   have hne:rs≠[]:=by rintro rfl;have:=hD.1;simp at this
   exact⟨rs.dropLast,rs.getLast hne,(Ybk hne).symm⟩
  have hrl:rs'.length=I.length:=by have:=hD.1;simpa using this
  have hIl:I.length<=6:=by simp at hN7;(clear hrl hN;omega)
  have hD':DDs H rs' I:=⟨hrl,fun j r xs a b=>hD.2 j r xs (by rw[YaL (Yaa.mp a).1];exact a) (by rw[YaL (Yaa.mp b).1];exact b)⟩
  obtain⟨kz,hz,rpz⟩:=hD.2 I.length z Z (by rw[<- hrl];simp) (by simp);have bup:∀ i m,cn (finN (I.take i)) m≠0->0<=m/\m<=400:=fun i m hm=>by
   have hm:=cn_ne.mp hm;unfold finN at hm;obtain⟨ys,hy,hm⟩:=Ybh.mp hm;obtain⟨xs,hx,rfl⟩:=Yay.mp hy;obtain⟨x,hx2,rfl⟩:=Yay.mp hm;have:=hB xs (YaM _ (Ybo hx)) x hx2
   (clear hIl hrl hN7 hN;omega)
  intro d0 hd0;refine⟨YaV _,fun rl e1=>?_⟩;have s1:=(Same.new (o:=.dK []) hd0).trans (Same.new (o:=.lst []) e1);have hrlH:H rl=none:=(Same.new (o:=.dK []) hd0).free e1;have ed0:(upd (upd H d0 (.dK [])) rl (.lst [])) d0=some (.dK []):=(Same.new e1) d0 _ Zab;have hrl1:(upd (upd H d0 (.dK [])) rl (.lst [])) rl=some (.lst []):=Zab;generalize (upd (upd H d0 (.dK [])) rl (.lst []))=H1 at s1 ed0 hrl1 ⊢;refine⟨_,rfl,1,rfl,-1,rfl,a,_,rfl,SqL.of (s1 a _ hA),fun p1 e2=>⟨p1,rfl,⟨_,SqL.of Zab⟩,?_⟩⟩;have ec:cutV ((rs'++[z]).map V.ref) none (some (-1))=rs'.map V.ref:=by
   rw[YaU];exact Zfa _ _
  rw[ec];have s2:=s1.trans (Same.new (o:=.lst (rs'.map V.ref)) e2);have hp1:(upd H1 p1 (.lst (rs'.map V.ref))) p1=some (.lst (rs'.map V.ref)):=Zab;have ed2:=(Same.new (o:=.lst (rs'.map V.ref)) e2) d0 _ ed0;have hrl2:=(Same.new (o:=.lst (rs'.map V.ref)) e2) rl _ hrl1;have nprl:p1≠rl:=Yba (Zae hrl1 e2);generalize (upd H1 p1 (.lst (rs'.map V.ref)))=H2 at s2 hp1 ed2 hrl2 ⊢;refine Zgy (xs:=rs'.map V.ref) (fun i σ H3=>∃ (rd:Addr) (kr:List (Key × V)) (qs:List Addr) (o:Option V),σ=[some (.ref a),some (.ref rd),some (.ref rl),o]/\H3 rd=some (.dK kr)/\Rep kr (cn (finN (I.take i)))/\H3 rl=some (.lst (qs.map V.ref))/\DDs H3 qs (goN [] (I.take i))/\H3 p1=some (.lst (rs'.map V.ref))/\Same H H3)
   ⟨d0,[],[],none,rfl,ed2,Rep.nil.congr fun m=>by rw[Ybv];exact (Zfb m).symm,hrl2,DDs.nil,hp1,s2⟩ (fun i σ H3 _ ⟨_,_,_,_,_,_,_,_,_,h,_⟩=>SqL.of h) ?_ ?_
  ·rintro i x σ H3 hx ⟨rd,kr,qs,o,rfl,hrd,rpr,hrl3,hq3,hp3,s3⟩;obtain⟨q,hq,rfl⟩:=Zbf hx;have hi:i<I.length:=by have:=(Yaa.mp hq).1;(clear nprl hIl hN7 hN;omega)
   obtain⟨xs,kx,hxs,hqx,rpx⟩:=(hD'.same s3).at hq;refine⟨_,rfl,?_⟩;refine .inl ⟨q,kx,hqx,fun ob=>?_⟩;refine⟨_,rfl,q,kx,rfl,.inr ⟨ob,Zab⟩,fun v hv=>⟨v,q,ob,kx,rfl,Zab,by rw[Zaf (Zae Zab hv)];exact Zab,?_⟩⟩;have nvr:v≠q:=fun z=>by rw[z,Zab] at hv;cases hv
   have hvH:H3 v=none:=by rw[Zaf nvr] at hv;exact hv
   have hnn:∀ acc,upd (upd H3 q (.frz ob (.dK kx))) v (VwI v q) acc=none->acc≠q/\H3 acc=none:=fun acc z=>by
    have n1:acc≠v:=fun y=>by rw[y,Zab] at z;cases z
    rw[Zaf n1] at z;have n2:acc≠q:=fun y=>by rw[y,Zab] at z;cases z
    rw[Zaf n2] at z;exact⟨n2,z⟩
   have hbx:∀ m,m∈xs->0<=m/\m<=399:=fun m hm=>hB xs (YaM _ (YaE hxs)) m hm;refine ZfV (kvs:=kx) (fun acc i H2=>∃ kvs:List (Key × V),H2 acc=some (.dK kvs)/\H2 q=some (.frz ob (.dK kx))/\(∀ c u,H3 c=some u->c≠q->H2 c=some u)/\Rep kvs (fun m=>tkn (cn xs) ((kx.take i).map (·.1)) (m - 1))) ?_ (fun acc i H2 h0 _ z=>by obtain⟨_,_,e,_⟩:=z;exact e) ?_ ?_
   ·intro acc h0;obtain⟨n2,hacc⟩:=hnn acc h0;refine⟨[],Zab,?_,fun c u hc nc=>?_,Rep.nil.congr fun m=>?_⟩
    ·rw[Zaf (Yba n2),Zaf (Yba nvr),Zab]
    ·rw[Zaf (Zae hc hacc),Zaf (Zae hc hvH),Zaf nc];exact hc
    ·rw[Ybv,Ycl,ZhE]
   ·rintro acc t kk vv p H4 h0 ht ⟨kvs,ea,er,sm,rp⟩ hp;obtain⟨n2,hacc⟩:=hnn acc h0;obtain⟨m,rfl,rfl,hz⟩:=rpx.at (YaE ht);have ht':=(Yaa.mp ht).1
    have hnot:=ZiI rpx.2.1 ht;refine⟨p,_,rfl,SqT.of Zab,rfl,_,_,rfl,_,_,rfl,rfl,?_⟩;refine⟨_,rfl,_,_,rfl,rfl,_,rfl,Ybp (m+1),kvs,rfl,by rw[Zaf (Zae ea hp)];exact ea,?_,ht',_,Zab,?_,fun c u hc nc=>?_,(rp.put (m:=m+1) (c:=cn xs m) hz).congr fun j=>?_⟩
    ·have:=rp.len (B:=400) fun j hj=>by
      have h1:cn xs (j - 1)≠0:=fun z=>hj (Zf9 z);have:=hbx _ (cn_ne.mp h1)
      (clear h1 hj hnot ht' hz n2 nvr hi nprl hIl hrl hN7 hN;omega)
     exact Zas (by (clear hnot ht' hz n2 nvr hi nprl hIl hrl hN7 hN;omega))
    ·rw[Zaf (Yba n2),Zaf (Zae er hp)];exact er
    ·rw[Zaf (Zae hc hacc),Zaf (Zae (sm c u hc nc) hp)];exact sm c u hc nc
    ·rw[Ze4 ht,Zga hnot];by_cases e:j=m+1
     ·rw[if_pos e,if_pos (by (clear hnot ht' hz n2 nvr hi nprl hIl hrl hN7 hN;omega))]
     ·rw[if_neg e,if_neg (by (clear hnot ht' hz n2 nvr hi nprl hIl hrl hN7 hN;omega))]
   ·rintro acc H4 h0 ⟨k1,ea,er,sm,rp⟩;obtain⟨n2,hacc⟩:=hnn acc h0;have rp1:Rep k1 (cn (up1 xs)):=rp.congr fun m=>by
     rw[YaP,ZhF rpx];exact (ZgI xs m).symm
    refine⟨er,?_⟩;have s4:Same H3 (upd H4 q (.dK kx)):=fun c u hc=>by
     by_cases e:c=q
     ·subst e;rw[Zab,<- hqx,hc]
     ·rw[Zaf e];exact sm c u hc e
    have e4:upd H4 q (.dK kx) acc=some (.dK k1):=by rw[Zaf n2];exact ea
    generalize upd H4 q (.dK kx)=H5 at s4 e4 ⊢;refine⟨rd,acc,kr,k1,_,_,rfl,s4 _ _ hrd,e4,rpr,rp1,Zc3 _,Zc3 _,bup i,fun m hm=>?_,fun r kv H6 hr0 hr6 rp6 s6=>?_⟩
    ·obtain⟨x,hx2,rfl⟩:=Yay.mp (cn_ne.mp hm);have:=hbx x hx2
     (clear hm n2 nvr hi nprl hIl hrl hN7 hN;omega)
    have s36:=s4.trans s6;have hrl6:=s36 rl _ hrl3;refine⟨_,rfl,.inl ⟨rfl,_,SqL.of hrl6⟩,_,rfl,rl,_,_,rfl,rfl,hrl6,?_,?_⟩
    ·have:=hq3.1;rw[Zbi,YaA] at this;exact Zas (by rw[Yad];(clear n2 nvr hi nprl hrl hN7 hN;omega))
    have hrne:r≠rl:=by intro zz;subst zz;rw[hrl6] at hr6;cases hr6
    have exs:xs=I[i]:=by rw[Yaf hi] at hxs;exact (Yaw hxs).symm
    have rp7:Rep kv (cn (finN (I.take (i+1)))):=rp6.congr fun m=>by
     rw[YaJ hi,Za8,Zfc,exs]
    have hr7:(upd H6 rl (.lst (qs.map V.ref++[.ref r]))) r=some (.dK kv):=by rw[Zaf hrne];exact hr6
    refine⟨r,kv,qs++[r],_,rfl,hr7,rp7,by rw[Zab];simp,?_,?_,(s3.trans s36).put hrlH⟩
    ·rw[YaJ hi,Zes,Yb6];refine DDs.snoc ⟨hq3.1,fun j r' ys h' h''=>?_⟩ hr7 (rp7.congr fun m=>by rw[YaJ hi,Za8]);obtain⟨kc,hkc,rpc⟩:=hq3.2 j r' ys h' h'';exact⟨kc,by rw[Zaf (ZlQ hkc hrl3 (fun z=>nomatch z))];exact s36 _ _ hkc,rpc⟩
    ·rw[Zaf nprl];exact s36 p1 _ hp3
  ·rintro σ H3 ⟨rd,kr,qs,o,rfl,hrd,rpr,hrl3,hq3,hp3,s3⟩;rw[Yad,hrl,YaP] at rpr hq3;have hz3:=s3 z _ hz;refine⟨_,rfl,_,rfl,1,rfl,a,_,-1,.ref z,rfl,rfl,SqL.of (s3 a _ hA),?_,?_⟩
   ·rw[YaU];exact ZgO _ _
   refine⟨rd,z,kr,kz,_,_,rfl,hrd,hz3,rpr,rpz,Zc3 _,Zc3 _,?_,fun m hm=>?_,fun r kv H4 hr0 hr4 rp4 s4=>?_⟩
   ·have:=bup I.length
    rwa [YaP] at this
   ·have:=hB Z (by simp) m (cn_ne.mp hm)
    (clear hm nprl hIl hrl hN7 hN;omega)
   refine⟨(by show 1<=sizeLine;decide),fun p2 e3=>?_⟩;have s5:=s4.trans (Same.new (o:=.lst [.ref r]) e3);refine⟨_,rfl,1,rfl,-1,rfl,rfl,rl,_,rfl,SqL.of (s5 rl _ hrl3),fun p3 e4=>?_⟩;have s6:=s5.trans (Same.new (o:=.lst (qs.map V.ref).reverse) e4);have hql:=hq3.1;rw[Zbi] at hql;refine⟨p2,p3,_,_,rfl,rfl,(Same.new e4) p2 _ Zab,Zab,?_,fun p4 e5=>?_⟩
   ·exact Ya8 (Zas (by simp;(clear nprl hrl hN7 hN;omega)))
   have s7:=s6.trans (Same.new (o:=.lst ([V.ref r]++(qs.map V.ref).reverse)) e5);have s47:=((Same.new (o:=.lst [.ref r]) e3).trans (Same.new (o:=.lst (qs.map V.ref).reverse) e4)).trans (Same.new (o:=.lst ([V.ref r]++(qs.map V.ref).reverse)) e5);refine k p4 (r::qs.reverse) _ (s3.free (s6.free e5)) (by rw[Zab,YaD,YdF];rfl) ?_ (s3.trans s7);rw[Zb2];have hqr:DDs H3 qs.reverse (goN [] I).reverse:=by
    refine⟨by rw[Ybg,Ybg,hq3.1],fun j r' ys h' h''=>?_⟩;have hj:=(Yaa.mp h').1
    rw[Ybg] at hj;rw[YbN hj] at h';rw[YbN (by rw[Zbi];(clear nprl hIl hrl hN7 hN;omega)),Zbi,<- hql] at h'';exact hq3.2 _ r' ys h' h''
   exact (hqr.same s7).cons (s47 _ _ hr4) (rp4.congr fun m=>by rw[Zfc])
end
end Fs66
namespace Fs66
open PySem L2 Lv
section
variable {P:Program}{w:World}{K:Yac}{mg:Str->Option Value}{base:Heap}
theorem ZgZ:FnScope ["numbers"] ["numbers"] (Zac Zbd):=⟨rfl,rfl,rfl,by decide +kernel,rfl,by decide +kernel,by decide +kernel⟩
theorem ZfG {f:Addr}{fd:FuncData} (F:Fun K "places_in" "places_in" Zbd f fd) (T:Txt mg):FnOk P w K mg base CX0 1 f fd ["numbers"] Zbu:=by
 refine F.ok ZgZ (fun vs H Q E h=>?_) (fun cdv A outer s H vs Q E hr h=>?_)
 ·obtain⟨a,rs,N,rfl,_⟩:=h;rfl
 ·obtain⟨a,rs,N,rfl,hA,hT,hN,k⟩:=h;refine⟨_,Zam (Zaw (Zar (Zb8 rfl) rfl T.sum Zf2 (Zaa (Zcq (own:=["on_reel"]) (js:=[]) (CompOk.bare (by decide +kernel)) rfl (ZdA (pv 0)) ZbB
    (fun _ _ _ _ _=>Zak (i:=0) (by show (["on_reel"]:List Str).Nodup;decide +kernel) rfl (YaK rfl) (.inr rfl)) (fun _ _ _ _ _=>Zba) (fun _ _ _ _ _=>Zar (Zjn K) rfl T.len YbZ (Zaa (pv 0) Zad))) Zad))),?_⟩
  refine⟨_,rfl,a,rfl,⟨_,SqT.of hA⟩,?_⟩;refine ZgG (xs:=rs.map V.ref) (fun acc j H2=>Same H H2/\H2 acc=some (.lst ((ZaN (N.take j)).map V.int))) (fun acc h0=>⟨Same.new h0,Zab⟩) (fun acc j H2 h0 _ p=>SqT.of (p.1 _ _ hA)) ?_ ?_
  ·rintro acc j x H2 h0 hx ⟨s2,hacc⟩;obtain⟨q,hq,rfl⟩:=Zct hx;have hj:=(Yaa.mp hq).1
   obtain⟨xs,hxs⟩:∃ xs,N[j]?=some xs:=⟨_,Yaf (by rw[<- hT.1];exact hj)⟩
   refine⟨_,rfl,q,_,rfl,.inr (SqT.of (s2 _ _ (hT.2 j q xs hq hxs))),_,hacc,?_,by rw[Yad];exact hj,s2.put h0,?_⟩
   ·unfold ZaN;rw[Yad,Yad,YaA];exact Zas (by (clear hj;omega))
   ·rw[Zab,Ybn,hxs,Yb2];unfold ZaN;rw[YaU,YaU,YaD,Ycl,Yad];rfl
  rintro acc H2 h0 ⟨s2,hacc⟩;have e:(rs.map V.ref).length=N.length:=by rw[Yad,hT.1]
  rw[e,YaP] at hacc;refine⟨acc,_,rfl,SqL.of hacc,?_⟩;have e2:(ZaN N).sum=(N.flatten.length:Int):=by
   unfold ZaN;clear hacc hT hN k e
   induction N with
   | nil=>rfl
   | cons xs N ih=>rw[YaD,Yaz,ih,YaF,Yaj];(clear ih;omega)
  rw[e2];exact k H2 s2
theorem scLeastP:FnScope ["numbers","many","places"] ["numbers","many"] (Zac Zci):=⟨rfl,rfl,rfl,by decide +kernel,rfl,by decide +kernel,by decide +kernel⟩
theorem Zjg (xs:List V) (c:Nat):cutV xs none (some (c:Int))=xs.take c:=by
 unfold cutV;show (xs.drop 0).take (HT.sIx xs.length xs.length (some (c:Int)) - 0)=_;rw[HT.sIx_nat,YeB,List.drop_zero];by_cases h:c<=xs.length
 ·rw[Yb9 h]
 ·rw[Nat.min_eq_right (by omega),YaP,Ybr (by omega)]
theorem ZkA {N:List (List Int)}{i j:Nat}{xs:List Int} (h:N[i]?=some xs) (hj:j<=xs.length):(N.take i).flatten.length+j<=N.flatten.length:=by
 have a:=Yaa.mp h;have e1:N=N.take i++xs::N.drop (i+1):=by
  have:N.drop i=xs::N.drop (i+1):=by rw[YcO a.1,a.2]
  rw[<- this,YaT]
 conv=>rhs;rw[e1]
 rw[Ybd,Yaj,YaF,Yaj];omega
theorem Zih {f:Addr}{fd:FuncData} (F:Fun K "least_places" "least_places" Zci f fd) (T:Txt mg) (Te:mg "enumerate"=none):FnOk P w K mg base CX0 1 f fd ["numbers","many"] Zd6:=by
 refine F.ok scLeastP (fun vs H Q E h=>?_) (fun cdv A outer s H vs Q E hr h=>?_)
 ·obtain⟨a,rs,N,m,rfl,_⟩:=h;rfl
 ·obtain⟨a,rs,N,m,rfl,hA,hT,hN,hF,k⟩:=h;refine⟨_,Zah (ZjU (i:=2) scLeastP.nd rfl rfl (own:=["reel","on_reel","place","number"]) (js:=[]) (fr:=[2,3]) (CompOk.bare (by decide +kernel)) rfl (ZcE rfl Te (Zaa (pv 0) Zad)) (Zhm (i:=0) (k:=1) (K:=K)) (Zhl (i:=2) (k:=3) (K:=K))
    (fun _ _ _ _ _=>ZbP K rfl (Zap (Zak (i:=0) (by show (["reel","on_reel","place","number"]:List Str).Nodup;decide +kernel) rfl (YaK rfl) (.inr rfl)) (Zap (Zak (i:=1) (by show (["reel","on_reel","place","number"]:List Str).Nodup;decide +kernel) rfl (YaK rfl) (.inr rfl)) ZaH))) (fun _ _ _ _ _=>Zba) (fun _ _ _ _ _=>Zh0 K rfl Te (Zaa (pv 1) Zad))
    (fun _ _ _ _ _=>ZbP K rfl (Zap (Zak (i:=2) (by show (["reel","on_reel","place","number"]:List Str).Nodup;decide +kernel) rfl (YaK rfl) (.inr rfl)) (Zap (Zak (i:=3) (by show (["reel","on_reel","place","number"]:List Str).Nodup;decide +kernel) rfl (YaK rfl) (.inr rfl)) ZaH))) (fun _ _ _ _ _=>Zba) (fun _ _ _ _ _=>Zbj (Zaa (pv 3) (Zaa (pv 0) (Zaa (pv 2) Zad)))))
   (Zam (Zaw (ZcF ZhR (Zar Zc5 rfl T.sorted ZeC (Zaa (pv 2) Zad)) Zeh (ZbO (pv 1))))),?_⟩
  have hz:100000<sizeLine:=by decide
  refine⟨_,rfl,a,false,rfl,⟨_,SqT.of hA⟩,?_⟩;refine ZfW (b:=false) (xs:=rs.map V.ref) (fun acc i H2=>Same H H2/\∃ ps,H2 acc=some (.lst (ps.map V.ref))/\(∀ p∈ps,p≠acc)/\TuM H2 ps (trip 0 (N.take i))) (fun acc h0=>⟨Same.new h0,[],Zab,(fun p hp=>nomatch hp),TuM.nil⟩) (fun acc i H2 h0 _ p=>SqT.of (p.1 _ _ hA)) ?_ ?_
  ·rintro acc i x q H2 h0 hx ⟨s2,ps,hacc,hne,hpr⟩ hq;obtain⟨r,hr',rfl⟩:=Zct hx;have hi:=(Yaa.mp hr').1
   obtain⟨xs,e2⟩:∃ xs,N[i]?=some xs:=⟨_,Yaf (by rw[<- hT.1];exact hi)⟩
   have hrow:=hT.2 i r xs hr' e2;have s3:Same H2 (upd H2 q (.tup [.int i,.ref r])):=Same.new hq;have hq3:upd H2 q (.tup [.int i,.ref r]) q=some (.tup [.int i,.ref r]):=Zab;generalize upd H2 q (.tup [.int i,.ref r])=H3 at s3 hq3 ⊢;have s03:=s2.trans s3;refine⟨q,_,rfl,SqT.of hq3,rfl,_,_,rfl,_,_,rfl,rfl,?_⟩;refine⟨_,rfl,r,false,rfl,⟨_,SqT.of (s03 _ _ hrow)⟩,?_⟩;refine Zkx (b:=false) (xs:=xs.map V.int) (fun j H4=>Same H H4/\∃ ps,H4 acc=some (.lst (ps.map V.ref))/\(∀ p∈ps,p≠acc)/\TuM H4 ps (trip 0 (N.take i)++Zcb i (xs.take j))) ⟨s03,ps,s3 _ _ hacc,hne,by simpa[Zcb] using hpr.same s3⟩ (fun j H4 _ p=>SqT.of (p.1 _ _ hrow)) ?_ ?_
   ·rintro j y u H4 hy ⟨s4,ps,hac4,hne4,hpr4⟩ nu;obtain⟨z,hz',rfl⟩:=Zbo hy;have hj:=(Yaa.mp hz').1
    have hle:=ZkA e2 (Ya8 hj);have hpl:ps.length=(N.take i).flatten.length+j:=by
     rw[hpr4.len,Yaj,ZbW,ZeK,YaA]
     (clear hle hi hz hF hN;omega)
    have su:Same H4 (upd H4 u (.tup [.int j,.int z])):=Same.new nu;have hu3:upd H4 u (.tup [.int j,.int z]) u=some (.tup [.int j,.int z]):=Zab;generalize upd H4 u (.tup [.int j,.int z])=H4' at su hu3 ⊢
    replace hac4:=su _ _ hac4
    replace hpr4:=hpr4.same su
    replace s4:=s4.trans su
    refine⟨u,_,rfl,SqT.of hu3,rfl,_,_,rfl,_,_,rfl,rfl,?_⟩;refine⟨_,rfl,_,rfl,_,rfl,(by show 3<=sizeLine;decide),fun t ht=>?_⟩;have hta:t≠acc:=Yba (Zae hac4 ht);have s45:Same H4' (upd H4' t (.tup [.int z,.int i,.int j])):=Same.new ht;have ht5:upd H4' t (.tup [.int z,.int i,.int j]) t=some (.tup (([z,(i:Int),(j:Int)]:List Int).map V.int)):=Zab;generalize upd H4' t (.tup [.int z,.int i,.int j])=H5 at s45 ht5 ⊢;refine⟨_,s45 _ _ hac4,by rw[Yad];(clear hta hj hi hN;omega),by rw[Yad];exact hj,(s4.trans s45).put h0,ps++[t],by rw[Zab,YaU];rfl,fun p hp=>?_,?_⟩
    ·rcases Yap.mp hp with hp | hp
     ·exact hne4 p hp
     ·rw[YaN.mp hp];exact hta
    ·have:=(hpr4.same s45).snoc ht5 (by simp);rw[YaG,<- ZgT hz'] at this;refine this.keep fun p hp=>Zaf ?_;rcases Yap.mp hp with hp | hp
     ·exact hne4 p hp
     ·rw[YaN.mp hp];exact hta
   ·rintro H4 ⟨s4,ps,hac4,hne4,hpr4⟩;rw[Yad,YaP,<- ZhB e2] at hpr4;exact⟨by rw[Yad];exact hi,s4,ps,hac4,hne4,hpr4⟩
  rintro acc H2 h0 ⟨s2,ps,hacc,hne,hpr⟩;have e:(rs.map V.ref).length=N.length:=by rw[Yad,hT.1]
  rw[e,YaP] at hpr;have hks:∀ p∈ps,kf H2 p≠[]/\H2 p=some (.tup ((kf H2 p).map V.int)):=by
   intro p hp;obtain⟨k',hk,e⟩:=hpr.1 p hp;rw[ZfN e];exact⟨hk,e⟩
  refine⟨_,rfl,acc,ps,kf H2,rfl,SqL.of hacc,hks,fun l qs nl pm up=>?_⟩;have s23:Same H2 (upd H2 l (.lst (qs.map V.ref))):=Same.new nl;have hl3:upd H2 l (.lst (qs.map V.ref)) l=some (.lst (qs.map V.ref)):=Zab;generalize upd H2 l (.lst (qs.map V.ref))=H3 at s23 hl3 ⊢;have s03:=s2.trans s23;refine⟨_,rfl,(m:Int),rfl,l,_,rfl,SqL.of hl3,fun l2 nl2=>?_⟩;rw[Zjg,<- List.map_take];have s34:Same H3 (upd H3 l2 (.lst ((qs.take m).map V.ref))):=Same.new nl2;have hq2:TuM H2 qs (qs.map (kf H2)):=⟨fun p hp=>hpr.1 p (pm.mem_iff.mp hp),rfl⟩
  refine k l2 qs (qs.map (kf H2)) _ (s03.free nl2) Zab (hq2.same (s23.trans s34)) ?_ (Ybc.mpr up) (s03.trans s34);rw[<- hpr.2];exact pm.map _
end
end Fs66
namespace Fs66
open PySem L2 Lv
section
variable {P:Program}{w:World}{K:Yac}{mg:Str->Option Value}{base:Heap}
theorem ZjL:FnScope ["numbers","lengths","placing"] ["numbers","lengths","placing"] (Zac ZbL):=⟨rfl,rfl,rfl,by decide +kernel,rfl,by decide +kernel,by decide +kernel⟩
theorem SqB.sameP {b:Bool}{H H':Hp}{a:Addr}{xs:List V} (e:Same H H') (h:SqB b K H a xs):SqB b K H' a xs:=by
 cases b
 ·exact e.tup h
 ·exact e.seq h
theorem Zic {f:Addr}{fd:FuncData} (F:Fun K "reading_by" "reading_by" ZbL f fd) (T:Txt mg):FnOk P w K mg base CX0 1 f fd ["numbers","lengths","placing"] (Zd0 K):=by
 refine F.ok ZjL (fun vs H Q E h=>?_) (fun cdv A outer s H vs Q E hr h=>?_)
 ·obtain⟨a,ll,pl,b,rs,qs,N,ls,ks,rfl,_⟩:=h;rfl
 ·obtain⟨a,ll,pl,b,rs,qs,N,ls,ks,rfl,hA,hT,hL,hP,hM,hin,hlen,hl9,hb1,hb2,k⟩:=h;refine⟨_,Zam (Zaw (Zar (Zb8 rfl) rfl T.sum Zf2 (Zaa (Zcq (own:=["length","reel","place"]) (js:=[0]) (CompOk.by (sc:=Zac ZbL) (N:=["numbers","lengths","placing"]) rfl rfl (by decide +kernel)) rfl (ZfE rfl T.zip (Zaa (pv 1) (Zaa (pv 2) Zad))) (Zhk (i:=0) (k:=1) (m:=2) (K:=K))
    (fun _ _ _ _ _=>ZbP K rfl (Zap (Zak (i:=0) (by show (["length","reel","place","numbers"]:List Str).Nodup;decide +kernel) rfl (YaK rfl) (.inr rfl)) (Zap (ZbP K rfl (Zap (Zak (i:=1) (by show (["length","reel","place","numbers"]:List Str).Nodup;decide +kernel) rfl (YaK rfl) (.inr rfl)) (Zap (Zak (i:=2) (by show (["length","reel","place","numbers"]:List Str).Nodup;decide +kernel) rfl (YaK rfl) (.inr rfl)) ZaH))) ZaH))) (fun _ _ _ _ _=>Zba)
    (fun _ _ _ _ _=>Zau ZlG (pv 0) (ZaV (Zgw K) (ZaV (Zgw K) (pv 3) (pv 1) (fun _ _=>rfl)) (pv 2) (fun _ _=>rfl)))) Zad))),?_⟩
  have hz:100000<sizeLine:=by decide
  refine⟨_,rfl,_,rfl,b,true,ll,pl,rfl,⟨_,hL⟩,⟨_,SqL.of hP⟩,?_⟩;refine ZkE (b1:=b) (b2:=true) (xs:=ls.map V.int) (ys:=qs.map V.ref) (by rw[Yad,Yad,hM.len];(clear hz hl9;omega)) (fun acc i H2=>Same H H2/\H2 acc=some (.lst ((ZbD N (ls.take i) (ks.take i)).map V.int))) (fun acc h0=>⟨Same.new h0,Zab⟩) (fun acc i H2 h0 _ p=>⟨SqB.sameP p.1 hL,SqL.of (p.1 _ _ hP)⟩) ?_ ?_
  ·rintro acc i x y u H2 h0 hx hy ⟨s2,hacc⟩ nu;obtain⟨l,hl,rfl⟩:=Zbo hx;obtain⟨q,hq,rfl⟩:=Zct hy;have hil:=(Yaa.mp hl).1
   obtain⟨kk,hk,hqk⟩:=hM.at hq;obtain⟨r,p,xs,rfl,hr',hp⟩:=hin kk (YaE hk);have su:Same H2 (upd H2 u (.tup [.int l,.ref q])):=Same.new nu;have hu3:upd H2 u (.tup [.int l,.ref q]) u=some (.tup [.int l,.ref q]):=Zab;generalize upd H2 u (.tup [.int l,.ref q])=H3 at su hu3 ⊢;have s3:=s2.trans su;have hq3:H3 q=some (.tup [.int (r:Int),.int (p:Int)]):=s3 _ _ hqk;have hrl:=(Yaa.mp hr').1
   obtain⟨ra,hra⟩:∃ ra,rs[r]?=some ra:=⟨_,Yaf (by rw[hT.1];exact hrl)⟩
   have hrow:=s3 _ _ (hT.2 r ra xs hra hr');have hnum:numV N [(r:Int),(p:Int)]=xs[p]:=by
    unfold numV;simp[YaC,hr',hp]
   refine⟨u,_,rfl,SqT.of hu3,rfl,_,_,rfl,_,_,rfl,q,_,rfl,SqT.of hq3,rfl,_,_,rfl,_,_,rfl,rfl,rfl,?_⟩;refine⟨_,rfl,_,rfl,_,rfl,a,_,(r:Int),.ref ra,rfl,rfl,SqT.of (s3 _ _ hA),ZeD (by rw[Yas,hra];rfl),_,rfl,ra,_,(p:Int),.int xs[p],rfl,rfl,SqT.of hrow,ZeD (by rw[Yas,Yaf hp];rfl),?_⟩;refine⟨l,xs[p],rfl,rfl,⟨8000,8000,hb1 l (YaE hl),hb2 xs (YaE hr') _ (Yc4 hp),by decide⟩,?_⟩;refine⟨_,su _ _ hacc,?_,by rw[Yad];exact hil,s3.put h0,?_⟩
   ·rw[Yad];unfold ZbD;rw[YeJ,YaA,YaA]
    (clear hnum hrl hp hil hlen;omega)
   ·rw[Zab,Zg7 hl hk,YaU,hnum];rfl
  rintro acc H2 h0 ⟨s2,hacc⟩;rw[Yad,YaP,hlen,YaP] at hacc;exact⟨acc,_,rfl,SqL.of hacc,k H2 s2⟩
end
end Fs66
namespace Fs66
open PySem L2 Lv
section
variable {P:Program}{w:World}{K:Yac}{mg:Str->Option Value}{base:Heap}
theorem scLeastBy:FnScope ["numbers","lengths","longest_first","placing","length","row","number","reel","place"] ["numbers","lengths"] (Zac Zbw):=⟨rfl,rfl,rfl,by decide +kernel,rfl,by decide +kernel,by decide +kernel⟩
theorem SqB.sameL {b:Bool}{H H':Hp}{a:Addr}{xs:List V} (e:Same H H') (h:SqB b K H a xs):SqB b K H' a xs:=by
 cases b
 ·exact e.tup h
 ·exact e.seq h
theorem SqB.orL {b:Bool}{H:Hp}{a:Addr}{xs:List V} (h:SqB b K H a xs):SqL K H a xs∨SqT K H a xs:=by
 cases b
 ·exact .inr h
 ·exact .inl h
theorem Zls (n:Nat):(Yae n [V.non]).flatten=Yae n V.non:=by
 induction n with
 | zero=>rfl
 | succ n ih=>rw[Ybl,YaF,ih,Ybl];rfl
theorem Zha {f f1 f2:Addr}{fd d1 d2:FuncData} (F:Fun K "least_by" "least_by" Zbw f fd) (T:Txt mg) (Te:mg "enumerate"=none) (CL:Cal P w K mg base 1 "least_places" ["numbers","many"] Zd6 f1 d1) (CR:Cal P w K mg base 1 "reading_by" ["numbers","lengths","placing"] (Zd0 K) f2 d2):FnOk P w K mg base CX0 2 f fd ["numbers","lengths"] (ZcO K):=by
 refine F.ok scLeastBy (fun vs H Q E h=>?_) (fun cdv A outer s H vs Q E hr h=>?_)
 ·obtain⟨a,ll,b,rs,N,ls,rfl,_⟩:=h;rfl
 ·obtain⟨a,ll,b,rs,N,ls,rfl,hA,hT,hN,hF,hL,hle,hb1,hb2,k⟩:=h;refine⟨_,Zah (Zaq (i:=2) scLeastBy.nd rfl (YaK rfl) (Zar Zc5 rfl T.sorted ZeC (Zaa (Zcq (own:=["row","length"]) (js:=[]) (CompOk.bare (by decide +kernel)) rfl (ZcE rfl Te (Zaa (pv 1) Zad)) (ZcZ (i:=0) (k:=1) (K:=K))
    (fun _ _ _ _ _=>ZbP K rfl (Zap (Zak (i:=0) (by show (["row","length"]:List Str).Nodup;decide +kernel) rfl (YaK rfl) (.inr rfl)) (Zap (Zak (i:=1) (by show (["row","length"]:List Str).Nodup;decide +kernel) rfl (YaK rfl) (.inr rfl)) ZaH))) (fun _ _ _ _ _=>Zba) (fun _ _ _ _ _=>Zbj (Zaa (Zei ZbV (pv 1)) (Zaa (pv 0) Zad)))) Zad)))
   (Zah (Zaq (i:=3) scLeastBy.nd rfl (YaK rfl) (Zau ZeX (ZaU (Zaa ZcS Zad)) (Zar ZaC rfl T.len YbZ (Zaa (pv 1) Zad))))
   (Zah (ZaY Ya0 rfl (ZfE rfl T.zip (Zaa (pv 2) (Zaa (Zan CL hr rfl (Zaa (pv 0) (Zaa (Zar ZaC rfl T.len YbZ (Zaa (pv 1) Zad)) Zad))) Zad)))
     (ZbF rfl (Zap (ZbF rfl (Zap (Zak (i:=4) scLeastBy.nd rfl (YaK rfl)) (Zap (Zak (i:=5) scLeastBy.nd rfl (YaK rfl)) ZaH))) (Zap (ZbF rfl (Zap (Zak (i:=6) scLeastBy.nd rfl (YaK rfl)) (Zap (Zak (i:=7) scLeastBy.nd rfl (YaK rfl)) (Zap (Zak (i:=8) scLeastBy.nd rfl (YaK rfl)) ZaH)))) ZaH)))
    (Zam (Zdz (Zbj (Zaa (pv 7) (Zaa (pv 8) Zad))) (Zh1 (pv 3) (pv 5) Zed))))
   (Zam (Zaw (Zbj (Zaa (Zan CR hr rfl (Zaa (pv 0) (Zaa (pv 1) (Zaa (pv 3) Zad)))) (Zaa (pv 3) Zad))))))),?_⟩
  have hz:100000<sizeLine:=by decide
  have hls:ls.length<=100000:=by (clear hz hN;omega)
  refine⟨_,rfl,ll,b,rfl,⟨_,hL⟩,?_⟩;refine Zho (xs:=ls.map V.int) (fun acc i H2=>Same H H2/\∃ ps,H2 acc=some (.lst (ps.map V.ref))/\(∀ p∈ps,p≠acc)/\TuM H2 ps (prL (ls.take i))) (fun acc h0=>⟨Same.new h0,[],Zab,(fun p hp=>nomatch hp),TuM.nil⟩) (fun acc i H2 h0 _ p=>SqB.sameL p.1 hL) ?_ ?_
  ·rintro acc i x q H2 h0 hx ⟨s2,ps,hacc,hne,hpr⟩ hq;obtain⟨l,hl,rfl⟩:=Zbo hx;have hi:=(Yaa.mp hl).1
   have s3:Same H2 (upd H2 q (.tup [.int i,.int l])):=Same.new hq;have hq3:upd H2 q (.tup [.int i,.int l]) q=some (.tup [.int i,.int l]):=Zab;generalize upd H2 q (.tup [.int i,.int l])=H3 at s3 hq3 ⊢;have hpl:ps.length=i:=by rw[hpr.len,Zcn,YaA];(clear hls hz hle hF hN;omega)
   refine⟨q,_,rfl,SqT.of hq3,rfl,_,_,rfl,_,_,rfl,rfl,?_⟩;refine⟨_,rfl,l,rfl,_,rfl,(by show 2<=sizeLine;decide),fun t ht=>?_⟩;have hacc3:=s3 _ _ hacc;have hta:t≠acc:=Yba (Zae hacc3 ht);have s45:Same H3 (upd H3 t (.tup [.int (-l),.int i])):=Same.new ht;have ht5:upd H3 t (.tup [.int (-l),.int i]) t=some (.tup (([-l,(i:Int)]:List Int).map V.int)):=Zab;generalize upd H3 t (.tup [.int (-l),.int i])=H5 at s45 ht5 ⊢;refine⟨_,s45 _ _ hacc3,by rw[Yad];(clear hta hls hN;omega),by rw[Yad];exact hi,(s2.trans (s3.trans s45)).put h0,ps++[t],by rw[Zab,YaU];rfl,fun p hp=>?_,?_⟩
   ·rcases Yap.mp hp with hp | hp
    ·exact hne p hp
    ·rw[YaN.mp hp];exact hta
   ·have:=(hpr.same (s3.trans s45)).snoc ht5 (by simp);rw[<- ZjX hl] at this;refine this.keep fun p hp=>Zaf ?_;rcases Yap.mp hp with hp | hp
    ·exact hne p hp
    ·rw[YaN.mp hp];exact hta
  rintro acc H2 h0 ⟨s2,ps,hacc,hne,hpr⟩;rw[Yad,YaP] at hpr;have hks:∀ p∈ps,kf H2 p≠[]/\H2 p=some (.tup ((kf H2 p).map V.int)):=by
   intro p hp;obtain⟨k',hk,e⟩:=hpr.1 p hp;rw[ZfN e];exact⟨hk,e⟩
  refine⟨acc,ps,kf H2,rfl,SqL.of hacc,hks,fun fl fs nfl pm up=>?_⟩;have s23:Same H2 (upd H2 fl (.lst (fs.map V.ref))):=Same.new nfl;have hfl:upd H2 fl (.lst (fs.map V.ref)) fl=some (.lst (fs.map V.ref)):=Zab;have hlf2:TuM H2 fs (fs.map (kf H2)):=⟨fun p hp=>hpr.1 p (pm.mem_iff.mp hp),rfl⟩
  have lfp:(fs.map (kf H2)).Perm (prL ls):=by rw[<- hpr.2];exact pm.map _
  have lfs:(fs.map (kf H2)).Pairwise (fun p q=>lxB q p=false):=Ybc.mpr up;have hlf:=hlf2.same s23;generalize fs.map (kf H2)=lf at hlf lfp lfs;generalize upd H2 fl (.lst (fs.map V.ref))=H3 at s23 hfl hlf ⊢;have s03:=s2.trans s23;refine⟨(by show 1<=sizeLine;decide),fun n1 nn1=>?_⟩;have x1:upd H3 n1 (.lst [.non]) n1=some (.lst [.non]):=Zab;have u1:Same H3 (upd H3 n1 (.lst [.non])):=Same.new nn1;generalize upd H3 n1 (.lst [.non])=H4 at x1 u1 ⊢;have s04:=s03.trans u1;refine⟨_,rfl,ll,_,rfl,SqB.orL (SqB.sameL s04 hL),n1,_,_,rfl,rfl,x1,by (clear hls hz hle hF hN;omega),by rw[Yad];(clear hls hz hN;omega),by rw[Yad];show 1*_<=_;(clear hls hN;omega),fun pl npl=>?_⟩;rw[Zls,Yad,Ybf];have x2:upd H4 pl (.lst (Yae ls.length V.non)) pl=some (.lst (Yae ls.length V.non)):=Zab;have u2:Same H4 (upd H4 pl (.lst (Yae ls.length V.non))):=Same.new npl;generalize upd H4 pl (.lst (Yae ls.length V.non))=H5 at x2 u2 ⊢;have plH:H pl=none:=s04.free npl;have s05:=s04.trans u2;have s35:=u1.trans u2;refine⟨_,rfl,_,rfl,_,rfl,ll,_,rfl,SqB.orL (SqB.sameL s05 hL),?_⟩;rw[Yad];refine⟨a,rs,N,ls.length,rfl,s05 _ _ hA,hT.same s05,hN,hF,fun gl gs lp H6 ngl hgl hlp lpp lps s6=>?_⟩;have s06:=s05.trans s6;have s36:=s35.trans s6;have hpl6:=s6 _ _ x2;have gll:gs.length=N.flatten.length:=by rw[hlp.len,lpp.length_eq,ZbW]
  have fsl:fs.length=ls.length:=by rw[hlf.len,lfp.length_eq,Zcn]
  have hnd:=Zg5 lfp;have hflpl:fl≠pl:=Zae (u1 _ _ hfl) npl;have hglpl:gl≠pl:=Yba (Zae x2 ngl);refine⟨true,true,fl,gl,rfl,⟨_,SqL.of (s36 _ _ hfl)⟩,⟨_,SqL.of hgl⟩,?_⟩;refine Zl1 (b1:=true) (b2:=true) (xs:=fs.map V.ref) (ys:=(gs.take ls.length).map V.ref) (by rw[Yad,Yad,YaA];(clear hglpl hflpl hls hz hF hN;omega))
   (fun t σ H7=>∃ (o4 o5 o6 o7 o8:Option V) (vs:List V),σ=[some (.ref a),some (.ref ll),some (.ref fl),some (.ref pl),o4,o5,o6,o7,o8]/\H7 pl=some (.lst vs)/\vs.length=ls.length/\(∀ b o,H6 b=some o->b≠pl->H7 b=some o) /\
    (∀ (s:Nat) f p,s<t->lf[s]?=some f->lp[s]?=some p->∃ q,vs[(f.getD 1 0).toNat]?=some (.ref q)/\H7 q=some (.tup [.int (p.getD 1 0),.int (p.getD 2 0)])/\q≠pl))
   ⟨_,_,_,_,_,_,rfl,hpl6,by rw[Ya7],fun _ _ e _=>e,fun s f p h=>absurd h (YcG _)⟩ ?_ ?_ ?_
  ·rintro i σ H7 _ ⟨_,_,_,_,_,_,_,_,_,fr,_⟩;exact⟨SqL.of (fr _ _ (s36 _ _ hfl) hflpl),SqL.of (fr _ _ hgl hglpl)⟩
  ·rintro t x y u σ H7 hx hy ⟨o4,o5,o6,o7,o8,vs,rfl,hv,hvl,fr,hdone⟩ nu;obtain⟨xa,hxa,rfl⟩:=Zct hx;obtain⟨ya,hya,rfl⟩:=Zct hy;have htl:=(Yaa.mp hxa).1
   rw[List.getElem?_take,if_pos (by (clear hvl hglpl hflpl gll hls hz hle hF hN;omega))] at hya;obtain⟨f,hf,hxf⟩:=hlf.at hxa;obtain⟨p,hp,hyp⟩:=hlp.at hya;have hxpl:xa≠pl:=Zae (u1 _ _ hxf) npl;have hypl:ya≠pl:=fun z=>by rw[z,hpl6] at hyp;cases hyp
   obtain⟨j,l,ef,hj⟩:=Zeg (lfp.mem_iff.mp (YaE hf));obtain⟨r,jj,z,xs,ep,hr',hz'⟩:=Zbt (lpp.mem_iff.mp (YaE hp));have hjl:=(Yaa.mp hj).1
   have hx7:=fr _ _ (s36 _ _ hxf) hxpl;have hy7:=fr _ _ hyp hypl;have su:Same H7 (upd H7 u (.tup [.ref xa,.ref ya])):=Same.new nu;have hu3:upd H7 u (.tup [.ref xa,.ref ya]) u=some (.tup [.ref xa,.ref ya]):=Zab;generalize upd H7 u (.tup [.ref xa,.ref ya])=H8 at su hu3 ⊢;have hx8:H8 xa=some (.tup [.int (-l),.int (j:Int)]):=by have:=su _ _ hx7;rw[ef] at this;exact this
   have hy8:H8 ya=some (.tup [.int z,.int ((0+r:Nat):Int),.int (jj:Int)]):=by have:=su _ _ hy7;rw[ep] at this;exact this
   refine⟨u,_,rfl,SqT.of hu3,rfl,_,_,rfl,xa,_,rfl,SqT.of hx8,rfl,_,_,rfl,_,_,rfl,rfl,_,_,rfl,ya,_,rfl,SqT.of hy8,rfl,_,_,rfl,_,_,rfl,_,_,rfl,rfl,rfl,?_⟩;refine⟨_,rfl,_,rfl,(by show 2<=sizeLine;decide),fun q nq=>?_⟩;have hv8:=su _ _ hv;have hqpl:q≠pl:=Yba (Zae hv8 nq);have sq:Same H8 (upd H8 q (.tup [.int ((0+r:Nat):Int),.int (jj:Int)])):=Same.new nq;have hq9:upd H8 q (.tup [.int ((0+r:Nat):Int),.int (jj:Int)]) q=some (.tup [.int ((0+r:Nat):Int),.int (jj:Int)]):=Zab;generalize upd H8 q (.tup [.int ((0+r:Nat):Int),.int (jj:Int)])=H9 at sq hq9 ⊢;refine⟨_,rfl,_,rfl,pl,vs,(j:Int),j,rfl,rfl,sq _ _ hv8,?_,?_⟩
   ·have:=ZkX (n:=vs.length) (x:=(j:Int)) (by (clear hqpl hjl hypl hxpl htl hvl hglpl hflpl fsl gll hls hz hle hF hN;omega)) (by (clear hqpl hypl hxpl htl hglpl hflpl fsl gll hls hz hle hF hN;omega))
    rwa [Ybf] at this
   refine⟨_,_,_,_,_,vs.set j (.ref q),rfl,Zab,by rw[List.length_set];exact hvl,fun b o e hb=>?_,fun s f' p' hs hf' hp'=>?_⟩
   ·rw[Zaf hb];exact sq _ _ (su _ _ (fr b o e hb))
   ·by_cases est:s=t
    ·subst est;rw[hf] at hf';rw[hp] at hp';cases hf';cases hp';refine⟨q,?_,?_,hqpl⟩
     ·rw[ef];show (vs.set j (.ref q))[(j:Int).toNat]?=_;rw[Ybf];exact Yc6 (by (clear hs htl hqpl hypl hxpl hglpl hflpl fsl gll hls hz hle hF hN;omega))
     ·rw[Zaf hqpl,ep];exact hq9
    ·obtain⟨q',g1,g2,g3⟩:=hdone s f' p' (by (clear hqpl hjl hypl hxpl htl hvl hglpl hflpl fsl gll hls hz hle hF hN;omega)) hf' hp';obtain⟨j',l',ef',hj'⟩:=Zeg (lfp.mem_iff.mp (YaE hf'));have hjj:j≠j':=fun zz=>by
      have a1:(lf.map fun f=>f.getD 1 0)[s]?=some (j':Int):=by rw[Yas,hf',ef'];rfl
      have a2:(lf.map fun f=>f.getD 1 0)[t]?=some (j:Int):=by rw[Yas,hf,ef];rfl
      rw[<- zz] at a1;have b1:=Yaa.mp a1;have b2:=Yaa.mp a2;exact est ((Ye8 hnd).mp (b1.2.trans b2.2.symm))
     refine⟨q',?_,?_,g3⟩
     ·rw[ef'] at g1 ⊢;have g1:vs[(j':Int).toNat]?=some (.ref q'):=g1;show (vs.set j (.ref q))[(j':Int).toNat]?=_;rw[Ybf] at g1 ⊢;rw[YaX hjj];exact g1
     ·rw[Zaf g3];exact sq _ _ (su _ _ g2)
  ·rintro σ H7 ⟨o4,o5,o6,o7,o8,vs,rfl,hv,hvl,fr,hdone⟩;rw[Yad] at hdone;have s07:Same H H7:=fun b o e=>fr b o (s06 _ _ e) (Zae e plH);have lfl:lf.length=ls.length:=by rw[lfp.length_eq,Zcn]
   have lpl:lp.length=N.flatten.length:=by rw[lpp.length_eq,ZbW]
   obtain⟨qs,ks,hvq,hM,hin⟩:=Zjs (H:=H7) (N:=N) (vs:=vs) fun j hj=>by
    obtain⟨l,hl⟩:∃ l,ls[j]?=some l:=⟨_,Yaf (by (clear lpl lfl hglpl hflpl fsl gll hls hz hle hF hN;omega))⟩
    obtain⟨s,hs⟩:=Ycs.mp (lfp.mem_iff.mpr (YaE (ZkQ hl)));have hsl:=(Yaa.mp hs).1
    obtain⟨p,hp⟩:∃ p,lp[s]?=some p:=⟨_,Yaf (by (clear hj hvl hglpl hflpl fsl gll hls hz hF hN;omega))⟩
    obtain⟨q,g1,g2,g3⟩:=hdone s _ p (by (clear hj lpl hvl hglpl hflpl gll hls hz hle hF hN;omega)) hs hp;obtain⟨r,jj,z,xs,ep,hr',hz'⟩:=Zbt (lpp.mem_iff.mp (YaE hp));refine⟨q,[p.getD 1 0,p.getD 2 0],?_,g2,r,jj,xs,by rw[ep,YbG];rfl,hr',(Yaa.mp hz').1⟩;have g1:vs[(j:Int).toNat]?=some (.ref q):=g1
    rwa [Ybf] at g1
   have ksl:ks.length=ls.length:=by rw[<- hM.len,<- hvl,hvq,Yad]
   rw[hvq] at hv;refine⟨_,rfl,_,rfl,_,rfl,a,ll,pl,b,rs,qs,N,ls,ks,rfl,s07 _ _ hA,hT.same s07,SqB.sameL s07 hL,hv,hM,hin,ksl.symm,hls,hb1,hb2,fun H8 s8=>?_⟩;refine⟨_,rfl,(by show 2<=sizeLine;decide),fun tt ntt=>?_⟩;have s9:Same H8 (upd H8 tt (.tup [.int (ZbD N ls ks).sum,.ref pl])):=Same.new ntt;have s79:=s8.trans s9;refine k tt pl qs ks lf lp _ ((s07.trans s8).free ntt) Zab plH (s79 _ _ hv) (hM.same s79) hin ⟨ksl,lfp,lfs,lpp,lps,fun t f p hf hp=>?_⟩ (s07.trans s79);have htl:=(Yaa.mp hf).1
   obtain⟨q,g1,g2,g3⟩:=hdone t f p (by (clear ksl lpl hvl hglpl hflpl gll hls hz hle hF hN;omega)) hf hp;rw[hvq,Yas] at g1
   cases eq:qs[(f.getD 1 0).toNat]? with
   | none=>rw[eq] at g1;cases g1
   | some q2=>
    rw[eq] at g1;cases g1;obtain⟨kk,h1,h2⟩:=hM.at eq;have e1:=ZfN h2;have e2:=ZfN (k:=[p.getD 1 0,p.getD 2 0]) g2;rw[h1,<- e1,e2]
end
end Fs66
namespace Fs66
open PySem L2 Lv
section
variable {P:Program}{w:World}{K:Yac}{mg:Str->Option Value}{base:Heap}
theorem scBestBy:FnScope ["levels","lengths","best","n","numbers","reading","placing"] ["levels","lengths"] (Zac Zcl):=⟨rfl,rfl,rfl,by decide +kernel,rfl,by decide +kernel,by decide +kernel⟩
theorem SqB.sameB {b:Bool}{H H':Hp}{a:Addr}{xs:List V} (e:Same H H') (h:SqB b K H a xs):SqB b K H' a xs:=by
 cases b
 ·exact e.tup h
 ·exact e.seq h
theorem SqB.orB {b:Bool}{H:Hp}{a:Addr}{xs:List V} (h:SqB b K H a xs):SqL K H a xs∨SqT K H a xs:=by
 cases b
 ·exact .inr h
 ·exact .inl h
theorem Zik {f f1 f2:Addr}{fd d1 d2:FuncData} (F:Fun K "best_by" "best_by" Zcl f fd) (T:Txt mg) (Te:mg "enumerate"=none) (CP:Cal P w K mg base 1 "places_in" ["numbers"] Zbu f1 d1) (CL:Cal P w K mg base 2 "least_by" ["numbers","lengths"] (ZcO K) f2 d2):FnOk P w K mg base CX0 3 f fd ["levels","lengths"] (Zd8 K):=by
 refine F.ok scBestBy (fun vs H Q E h=>?_) (fun cdv A outer s H vs Q E hr h=>?_)
 ·obtain⟨lv,ll,b,as,L,ls,rfl,_⟩:=h;rfl
 ·obtain⟨lv,ll,b,as,L,ls,rfl,hV,hLv,hL,hN,hb1,k⟩:=h;have hr1:Room 1 _:=hr.mono (by decide);refine⟨_,Zah (Zaq (i:=2) scBestBy.nd rfl (YaK rfl) ZcS)
   (Zah (ZaY Ya0 rfl (ZcE rfl Te (Zaa (pv 0) Zad)) (ZbF rfl (Zap (Zak (i:=3) scBestBy.nd rfl (YaK rfl)) (Zap (Zak (i:=4) scBestBy.nd rfl (YaK rfl)) ZaH)))
    (Zam (ZeU (ZaG ZlH (Zan CP hr1 rfl (Zaa (pv 4) Zad)) (Zar ZaC rfl T.len YbZ (Zaa (pv 1) Zad)) (ZaI _))
     (Zah (Zdz (Zan CL hr rfl (Zaa (pv 4) (Zaa (pv 1) Zad))) (ZbF rfl (Zap (Zak (i:=5) scBestBy.nd rfl (YaK rfl)) (Zap (Zak (i:=6) scBestBy.nd rfl (YaK rfl)) ZaH))))
     (Zam (ZeU (PW.pt (ZhW (ZmI (ZmO (pv 2))) (ZeT (ZaG Zh7 (pv 5) (ZaV Za9 (pv 2) Zag (fun _ _=>rfl)) (ZaI _))))) (Zam (Zaq (i:=2) scBestBy.nd rfl (YaK rfl) (Zbj (Zaa (pv 5) (Zaa (pv 3) (Zaa (pv 6) Zad)))))) Zbn))) Zbn)))
   (Zam (Zaw (pv 2)))),?_⟩
  refine⟨_,rfl,lv,true,rfl,⟨_,SqL.of hV⟩,?_⟩;refine Zi0 (b:=true) (xs:=as.map V.ref) (fun i σ H2=>∃ (o:Option (Int × Nat)) (v:V) (o3 o4 o5 o6:Option V),σ=[some (.ref lv),some (.ref ll),some v,o3,o4,o5,o6]/\BestOf ls L i o/\BestV H2 o v/\Same H H2)
   ⟨none,.non,_,_,_,_,rfl,fun j N hj=>absurd hj (YcG _),rfl,Same.refl _⟩ (fun i σ H2 _ ⟨_,_,_,_,_,_,_,_,_,s2⟩=>SqL.of (s2 _ _ hV)) ?_ ?_
  ·rintro i x u σ H2 hx ⟨o,v,o3,o4,o5,o6,rfl,hO,hBv,s2⟩ nu;obtain⟨q,hq,rfl⟩:=Zct hx;have hi:=(Yaa.mp hq).1
   obtain⟨N,hNi⟩:∃ N,L[i]?=some N:=⟨_,Yaf (by rw[<- hLv.1];exact hi)⟩
   obtain⟨n7,n9,nb⟩:=hN N (YaE hNi);obtain⟨rs,hqa,hTT⟩:=hLv.2 i q N hq hNi;have su:Same H2 (upd H2 u (.tup [.int i,.ref q])):=Same.new nu;have hu3:upd H2 u (.tup [.int i,.ref q]) u=some (.tup [.int i,.ref q]):=Zab;generalize upd H2 u (.tup [.int i,.ref q])=H3 at su hu3 ⊢;have s3:=s2.trans su;refine⟨u,_,rfl,SqT.of hu3,rfl,_,_,rfl,_,_,rfl,rfl,?_⟩;refine⟨_,rfl,q,rs,N,rfl,s3 _ _ hqa,hTT.same s3,n7,fun H4 s4=>?_⟩;have s04:=s3.trans s4;have hBv4:=hBv.same (su.trans s4);refine⟨_,rfl,ll,_,rfl,SqB.orB (SqB.sameB s04 hL),_,_,rfl,rfl,_,rfl,?_⟩;rw[Yad];refine ite2 (fun hf=>?_) (fun hf=>?_)
   ·have hf:(ls.length:Int)<=(N.flatten.length:Int):=of_decide_eq_true hf;have hfit:Fit ls N:=by unfold Fit;(clear n9 n7 hi;omega)
    refine⟨_,rfl,_,rfl,q,ll,b,rs,N,ls,rfl,s04 _ _ hqa,hTT.same s04,n7,n9,SqB.sameB s04 hL,hfit,hb1,nb,fun t pl qs ks lf lp H5 nt ht npl hpl hM hin hst s5=>?_⟩;have s05:=s04.trans s5;have hBv5:=hBv4.same s5;have hrd:Zc8 ls N (ZbD N ls ks).sum:=⟨ks,lf,lp,hst,hin,rfl⟩
    generalize (ZbD N ls ks).sum=R at ht hrd;refine⟨t,_,rfl,SqT.of ht,rfl,_,_,rfl,_,_,rfl,rfl,?_⟩
    match o,hO,hBv5 with
    | none,hO,hBv5=>
     have hv:v=.non:=hBv5;subst hv;refine⟨_,rfl,true,rfl,iteT ?_⟩;refine iteT ⟨_,rfl,_,rfl,_,rfl,(by show 3<=sizeLine;decide),fun bt nbt=>?_⟩;exact⟨some (R,i),.ref bt,_,_,_,_,rfl,hO.first hNi hfit hrd,⟨bt,pl,rfl,Zab⟩,s05.trans (Same.new nbt)⟩
    | some (R',n),hO,⟨bt0,pl0,hv,hbt0⟩=>
     subst hv;refine⟨_,rfl,false,rfl,iteF ?_⟩;refine⟨_,rfl,_,rfl,bt0,_,0,.int R',rfl,rfl,SqT.of hbt0,rfl,R,R',rfl,rfl,_,rfl,?_⟩;refine ite2 (fun hlt=>?_) (fun hge=>?_)
     ·have hlt:R<R':=of_decide_eq_true hlt;refine⟨_,rfl,_,rfl,_,rfl,(by show 3<=sizeLine;decide),fun bt nbt=>?_⟩;exact⟨some (R,i),.ref bt,_,_,_,_,rfl,hO.better hNi hfit hrd hlt,⟨bt,pl,rfl,Zab⟩,s05.trans (Same.new nbt)⟩
     ·have hge:¬ R<R':=fun z=>hge (decide_eq_true z);exact⟨some (R',n),.ref bt0,_,_,_,_,rfl,hO.worse hNi hfit hrd hge,⟨bt0,pl0,rfl,hbt0⟩,s05⟩
   ·have hf:¬ (ls.length:Int)<=(N.flatten.length:Int):=fun z=>hf (decide_eq_true z);exact⟨o,v,_,_,_,_,rfl,hO.skip hNi (fun z=>hf (by unfold Fit at z;(clear hf n9 n7 hi;omega))),hBv4,s04⟩
  ·rintro σ H2 ⟨o,v,o3,o4,o5,o6,rfl,hO,hBv,s2⟩;rw[Yad,hLv.1] at hO;exact⟨_,rfl,k o v H2 hO hBv s2⟩
end
end Fs66
namespace Fs66
open PySem L2 Lv
section
variable {P:Program}{w:World}{K:Yac}{mg:Str->Option Value}{base:Heap}
theorem scTold:FnScope ["p","following","told","numbers"] ["p","following"] (Zac Zg1):=⟨rfl,rfl,rfl,by decide +kernel,rfl,by decide +kernel,by decide +kernel⟩
theorem ZlK {f fA fB fC:Addr}{fd dA dB dC:FuncData}{t4:Tok} (F:Fun K "numbers_told" "numbers_told" Zg1 f fd) (T:Txt mg) (hM:mg "MOST_PLACES"=some (.int 4000 t4)) (CB:Cal P w K mg base 1 "first_numbers" ["p"] ZcD fB dB) (CP:Cal P w K mg base 1 "places_in" ["numbers"] Zbu fC dC) (CA:Cal P w K mg base 1 "next_cascade_numbers" ["numbers"] Zbv fA dA):FnOk P w K mg base CX0 2 f fd ["p","following"] (Zfx fA):=by
 refine F.ok scTold (fun vs H Q E h=>?_) (fun cdv A outer s H vs Q E hr h=>?_)
 ·obtain⟨p,rfl,_⟩:=h;rfl
 ·obtain⟨p,rfl,h2,h7,k⟩:=h;refine⟨_,Zah (Zaq (i:=2) scTold.nd rfl (YaK rfl) (ZaU Zad))
   (Zah (Zaq (i:=3) scTold.nd rfl (YaK rfl) (Zan CB hr rfl (Zaa (pv 0) Zad)))
   (Zah (Zgl Ya0 (ZaG Zg9 (Zan CP hr rfl (Zaa (pv 3) Zad)) (Zcp rfl hM) (ZaI _))
    (Zah (ZaO (ZeW Ybm YbP YbO Za6 (pv 2) (Zaa (pv 3) Zad)))
    (Zam (Zaq (i:=3) scTold.nd rfl (YaK rfl) (Zel 1 CA hr (Zaa (pv 3) Zad))))))
   (Zam (Zaw (pv 2))))),?_⟩
  have hz:5000<sizeLine:=by decide
  refine⟨YaV _,fun l nl=>?_⟩;have x1:upd H l (.lst []) l=some (.lst (([]:List Addr).map V.ref)):=Zab;have u1:Same H (upd H l (.lst [])):=Same.new nl;generalize upd H l (.lst [])=H1 at x1 u1 ⊢;refine⟨_,rfl,p,rfl,h2,h7,fun q qs H2 nq hq hTT s2=>?_⟩;refine⟨fun m σ Hx=>∃ (i:Nat) (as:List Addr) (q:Addr) (qs:List Addr),m=4001 - i/\σ=[some (.int p),some (.ref fA),some (.ref l),some (.ref q)]/\Hx l=some (.lst (as.map V.ref))/\LvsT Hx as (ZbJ p i)/\(∀ j,j<i->(casN p j).flatten.length<=4000)/\Hx q=some (.tup (qs.map V.ref))/\TTs Hx qs (casN p i)/\Same H Hx,
   ⟨4001,0,[],q,qs,rfl,rfl,s2 _ _ x1,⟨rfl,fun j x N a=>(nomatch a)⟩,fun j hj=>absurd hj (YcG _),hq,hTT,u1.trans s2⟩,?_⟩
  rintro m σ Hx ⟨i,as,q,qs,rfl,rfl,hl,hLv,hall,hq,hTT,sx⟩;have hlen:=ZaS (p:=p) (by (clear hz h7;omega)) i;have hg:=(Zcu h2 i).2
  have hfl:=Zb6 (casN p i);rw[Za3 (by (clear hfl hg hlen hz h7;omega))] at hfl;refine⟨_,rfl,q,qs,casN p i,rfl,hq,hTT,by (clear hfl hg hz h2;omega),fun H3 s3=>?_⟩;refine⟨_,_,rfl,rfl,_,rfl,?_⟩;have sx3:=sx.trans s3;refine ite2 (fun hle=>?_) (fun hgt=>?_)
  ·have hle:((casN p i).flatten.length:Int)<=4000:=of_decide_eq_true hle;have asl:as.length=i:=by rw[hLv.1,ZeL]
   have hl3:=s3 _ _ hl;refine⟨fun σ' H'=>∃ (i':Nat) (as:List Addr) (q:Addr) (qs:List Addr),i'=i+1/\σ'=[some (.int p),some (.ref fA),some (.ref l),some (.ref q)]/\H' l=some (.lst (as.map V.ref))/\LvsT H' as (ZbJ p i')/\(∀ j,j<i'->(casN p j).flatten.length<=4000)/\H' q=some (.tup (qs.map V.ref))/\TTs H' qs (casN p i')/\Same H H',fun σ' H' ⟨i',as,q,qs,e,r⟩=>⟨4001 - i',by (clear r asl hlen hz h7 h2;omega),i',as,q,qs,rfl,r⟩,?_⟩;refine⟨_,rfl,.inl ⟨rfl,_,SqL.of hl3⟩,_,rfl,l,_,_,rfl,rfl,hl3,by rw[Yad];(clear hlen h7 h2;omega),?_⟩;have hq4:upd H3 l (.lst (as.map V.ref++[.ref q])) q=some (.tup (qs.map V.ref)):=by
    rw[Zaf fun z=>by have:=s3 _ _ hq;rw[z,hl3] at this;cases this];exact s3 _ _ hq
   have hT4:TTs (upd H3 l (.lst (as.map V.ref++[.ref q]))) qs (casN p i):=TTs.lst (hTT.same s3) hl3;have hLv4:=((hLv.same s3).lst (ys:=as.map V.ref++[.ref q]) hl3).snoc hq4 hT4;rw[<- ZgU] at hLv4;have hl4:upd H3 l (.lst (as.map V.ref++[.ref q])) l=some (.lst ((as++[q]).map V.ref)):=by rw[Zab,YaU];rfl
   have sx4:Same H (upd H3 l (.lst (as.map V.ref++[.ref q]))):=sx3.put nl;generalize upd H3 l (.lst (as.map V.ref++[.ref q]))=H4 at hq4 hT4 hLv4 hl4 sx4 ⊢;refine⟨rfl,_,rfl,q,qs,casN p i,rfl,hq4,hT4,by (clear asl hle hfl hg hz h7;omega),by (clear asl hle hfl hg hz h2;omega),?_,fun l3 qs3 H5 h30 h3 hq3 s5=>?_⟩
   ·rw[Za3 (by (clear asl hle hfl hg hlen hz h7;omega))];(clear asl hg hlen hz h7 h2;omega)
   ·exact⟨i+1,as++[q],l3,qs3,rfl,rfl,s5 _ _ hl4,hLv4.same s5,fun j hj=>by
     by_cases e:j=i
     ·subst e;(clear hj asl hfl hg hlen hz h7 h2;omega)
     ·exact hall j (by (clear asl hle hfl hg hlen hz h7 h2;omega)),h3,hq3,sx4.trans s5⟩
  ·have hgt:¬ ((casN p i).flatten.length:Int)<=4000:=fun z=>hgt (decide_eq_true z);exact⟨_,rfl,k l as i H3 nl (s3 _ _ hl) (hLv.same s3) hall (by (clear hfl hg hlen hz h7 h2;omega)) sx3⟩
end
end Fs66
namespace Fs66
open PySem L2 Lv
theorem len1 {P:List Value->Prop} (us:List Value) (hl:us.length=1) (h:∀ a0:Value,P [a0]):P us:=by
 match us,hl with
 | [a0],_=>exact h a0
theorem len2 {P:List Value->Prop} (us:List Value) (hl:us.length=2) (h:∀ a0 a1:Value,P [a0,a1]):P us:=by
 match us,hl with
 | [a0,a1],_=>exact h a0 a1
theorem len3 {P:List Value->Prop} (us:List Value) (hl:us.length=3) (h:∀ a0 a1 a2:Value,P [a0,a1,a2]):P us:=by
 match us,hl with
 | [a0,a1,a2],_=>exact h a0 a1 a2
theorem len4 {P:List Value->Prop} (us:List Value) (hl:us.length=4) (h:∀ a0 a1 a2 a3:Value,P [a0,a1,a2,a3]):P us:=by
 match us,hl with
 | [a0,a1,a2,a3],_=>exact h a0 a1 a2 a3
theorem all_mk {l:Ydz}{w:World}{K:Yac}{h:Heap}{mg:Str->Option Value}{fa f0 f1 f2 f3 f4 f5 f6 f7 f8 f9 f10 f11 f12 f13 f14 f15 f16 f17 f18 f19 f20 f21 f22 f23 f24 f25 f26 f27 f28 f29 f30 f31 f32 f33 f34 f35 f36:Addr}{tk0 tk1 tk2 tk3:Tok} (X:K.In h) (G:h.Ns mainGlobals mg) (hfa:mg "law"=some (.ref fa))
  {od0 an0 od1 an1 od2 an2 od3 an3 od4 an4 od5 an5 od6 an6 od7 an7 od8 an8 od9 an9 od10 an10 od11 an11 od12 an12 od13 an13 od14 an14 od15 an15 od16 an16 od17 an17 od18 an18 od19 an19 od20 an20 od21 an21 od22 an22 od23 an23 od24 an24 od25 an25 od26 an26 od27 an27 od28 an28 od29 an29 od30 an30 od31 an31 od32 an32 od33 an33 od34 an34 od35 an35 od36 an36:Option Addr}{sl0 sl1 sl2 sl3 sl4 sl5 sl6 sl7 sl8 sl9 sl10 sl11 sl12 sl13 sl14 sl15 sl16 sl17 sl18 sl19 sl20 sl21 sl22 sl23 sl24 sl25 sl26 sl27 sl28 sl29 sl30 sl31 sl32 sl33 sl34 sl35 sl36:Array (Option Value)}{oc0 kV0 dc0 pm0 cd0 ct0 oc1 kV1 dc1 pm1 cd1 ct1 oc2 kV2 dc2 pm2 cd2 ct2 oc3 kV3 dc3 pm3 cd3 ct3 oc4 kV4 dc4 pm4 cd4 ct4 oc5 kV5 dc5 pm5 cd5 ct5 oc6 kV6 dc6 pm6 cd6 ct6 oc7 kV7 dc7 pm7 cd7 ct7 oc8 kV8 dc8 pm8 cd8 ct8 oc9 kV9 dc9 pm9 cd9 ct9 oc10 kV10 dc10 pm10 cd10 ct10 oc11 kV11 dc11 pm11 cd11 ct11 oc12 kV12 dc12 pm12 cd12 ct12 oc13 kV13 dc13 pm13 cd13 ct13 oc14 kV14 dc14 pm14 cd14 ct14 oc15 kV15 dc15 pm15 cd15 ct15 oc16 kV16 dc16 pm16 cd16 ct16 oc17 kV17 dc17 pm17 cd17 ct17 oc18 kV18 dc18 pm18 cd18 ct18 oc19 kV19 dc19 pm19 cd19 ct19 oc20 kV20 dc20 pm20 cd20 ct20 oc21 kV21 dc21 pm21 cd21 ct21 oc22 kV22 dc22 pm22 cd22 ct22 oc23 kV23 dc23 pm23 cd23 ct23 oc24 kV24 dc24 pm24 cd24 ct24 oc25 kV25 dc25 pm25 cd25 ct25 oc26 kV26 dc26 pm26 cd26 ct26 oc27 kV27 dc27 pm27 cd27 ct27 oc28 kV28 dc28 pm28 cd28 ct28 oc29 kV29 dc29 pm29 cd29 ct29 oc30 kV30 dc30 pm30 cd30 ct30 oc31 kV31 dc31 pm31 cd31 ct31 oc32 kV32 dc32 pm32 cd32 ct32 oc33 kV33 dc33 pm33 cd33 ct33 oc34 kV34 dc34 pm34 cd34 ct34 oc35 kV35 dc35 pm35 cd35 ct35 oc36 kV36 dc36 pm36 cd36 ct36:Value}
  {da2:Addr}{doc2:Value}{dod2:Option Addr}{dn2:Nat}{dsl2:Array (Option Value)}{dt2_0:Tok}
  (a0:Yar K mainGlobals "is_whole"=some (some (.ref f0))) (l0:K.lookup f0=some ⟨oc0,od0,.func (Yax "is_whole" "is_whole" (Zal Zdn) (Zaj Zdn) (Zac Zdn) .none kV0 dc0 pm0 an0 cd0 ct0),sl0⟩) (c0:Yat K cd0 "is_whole"=true) (k0:Yaq K (.ref f0)=true)
  (a1:Yar K mainGlobals "check_ways"=some (some (.ref f1))) (l1:K.lookup f1=some ⟨oc1,od1,.func (Yax "check_ways" "check_ways" (Zal Zg0) (Zaj Zg0) (Zac Zg0) .none kV1 dc1 pm1 an1 cd1 ct1),sl1⟩) (c1:Yat K cd1 "check_ways"=true) (k1:Yaq K (.ref f1)=true)
  (a2:Yar K mainGlobals "check_level"=some (some (.ref f2))) (l2:K.lookup f2=some ⟨oc2,od2,.func (Yax "check_level" "check_level" (Zal Zdr) (Zaj Zdr) (Zac Zdr) (.ref da2) kV2 dc2 pm2 an2 cd2 ct2),sl2⟩) (c2:Yat K cd2 "check_level"=true) (k2:Yaq K (.ref f2)=true)
  (d2:K.lookup da2=some ⟨doc2,dod2,.seq #[.int 300 dt2_0] dn2,dsl2⟩)
  (a3:Yar K mainGlobals "first_counts"=some (some (.ref f3))) (l3:K.lookup f3=some ⟨oc3,od3,.func (Yax "first_counts" "first_counts" (Zal Zdt) (Zaj Zdt) (Zac Zdt) .none kV3 dc3 pm3 an3 cd3 ct3),sl3⟩) (c3:Yat K cd3 "first_counts"=true) (k3:Yaq K (.ref f3)=true)
  (a4:Yar K mainGlobals "check_total"=some (some (.ref f4))) (l4:K.lookup f4=some ⟨oc4,od4,.func (Yax "check_total" "check_total" (Zal sTot) (Zaj sTot) (Zac sTot) .none kV4 dc4 pm4 an4 cd4 ct4),sl4⟩) (c4:Yat K cd4 "check_total"=true) (k4:Yaq K (.ref f4)=true)
  (a5:Yar K mainGlobals "first_numbers"=some (some (.ref f5))) (l5:K.lookup f5=some ⟨oc5,od5,.func (Yax "first_numbers" "first_numbers" (Zal Zck) (Zaj Zck) (Zac Zck) .none kV5 dc5 pm5 an5 cd5 ct5),sl5⟩) (c5:Yat K cd5 "first_numbers"=true) (k5:Yaq K (.ref f5)=true)
  (a6:Yar K mainGlobals "next_cascade_numbers"=some (some (.ref f6))) (l6:K.lookup f6=some ⟨oc6,od6,.func (Yax "next_cascade_numbers" "next_cascade_numbers" (Zal Zcg) (Zaj Zcg) (Zac Zcg) .none kV6 dc6 pm6 an6 cd6 ct6),sl6⟩) (c6:Yat K cd6 "next_cascade_numbers"=true) (k6:Yaq K (.ref f6)=true)
  (a7:Yar K mainGlobals "numbers_after"=some (some (.ref f7))) (l7:K.lookup f7=some ⟨oc7,od7,.func (Yax "numbers_after" "numbers_after" (Zal Zdv) (Zaj Zdv) (Zac Zdv) .none kV7 dc7 pm7 an7 cd7 ct7),sl7⟩) (c7:Yat K cd7 "numbers_after"=true) (k7:Yaq K (.ref f7)=true)
  (a8:Yar K mainGlobals "places_in"=some (some (.ref f8))) (l8:K.lookup f8=some ⟨oc8,od8,.func (Yax "places_in" "places_in" (Zal Zbd) (Zaj Zbd) (Zac Zbd) .none kV8 dc8 pm8 an8 cd8 ct8),sl8⟩) (c8:Yat K cd8 "places_in"=true) (k8:Yaq K (.ref f8)=true)
  (a9:Yar K mainGlobals "numbers_told"=some (some (.ref f9))) (l9:K.lookup f9=some ⟨oc9,od9,.func (Yax "numbers_told" "numbers_told" (Zal Zg1) (Zaj Zg1) (Zac Zg1) .none kV9 dc9 pm9 an9 cd9 ct9),sl9⟩) (c9:Yat K cd9 "numbers_told"=true) (k9:Yaq K (.ref f9)=true)
  (a10:Yar K mainGlobals "least_places"=some (some (.ref f10))) (l10:K.lookup f10=some ⟨oc10,od10,.func (Yax "least_places" "least_places" (Zal Zci) (Zaj Zci) (Zac Zci) .none kV10 dc10 pm10 an10 cd10 ct10),sl10⟩) (c10:Yat K cd10 "least_places"=true) (k10:Yaq K (.ref f10)=true)
  (a11:Yar K mainGlobals "first_spreads"=some (some (.ref f11))) (l11:K.lookup f11=some ⟨oc11,od11,.func (Yax "first_spreads" "first_spreads" (Zal Zcj) (Zaj Zcj) (Zac Zcj) .none kV11 dc11 pm11 an11 cd11 ct11),sl11⟩) (c11:Yat K cd11 "first_spreads"=true) (k11:Yaq K (.ref f11)=true)
  (a12:Yar K mainGlobals "both_spreads"=some (some (.ref f12))) (l12:K.lookup f12=some ⟨oc12,od12,.func (Yax "both_spreads" "both_spreads" (Zal Zdu) (Zaj Zdu) (Zac Zdu) .none kV12 dc12 pm12 an12 cd12 ct12),sl12⟩) (c12:Yat K cd12 "both_spreads"=true) (k12:Yaq K (.ref f12)=true)
  (a13:Yar K mainGlobals "spread_over"=some (some (.ref f13))) (l13:K.lookup f13=some ⟨oc13,od13,.func (Yax "spread_over" "spread_over" (Zal Zdo) (Zaj Zdo) (Zac Zdo) .none kV13 dc13 pm13 an13 cd13 ct13),sl13⟩) (c13:Yat K cd13 "spread_over"=true) (k13:Yaq K (.ref f13)=true)
  (a14:Yar K mainGlobals "next_cascade_spreads"=some (some (.ref f14))) (l14:K.lookup f14=some ⟨oc14,od14,.func (Yax "next_cascade_spreads" "next_cascade_spreads" (Zal Zcf) (Zaj Zcf) (Zac Zcf) .none kV14 dc14 pm14 an14 cd14 ct14),sl14⟩) (c14:Yat K cd14 "next_cascade_spreads"=true) (k14:Yaq K (.ref f14)=true)
  (a15:Yar K mainGlobals "spread_after"=some (some (.ref f15))) (l15:K.lookup f15=some ⟨oc15,od15,.func (Yax "spread_after" "spread_after" (Zal Zcm) (Zaj Zcm) (Zac Zcm) .none kV15 dc15 pm15 an15 cd15 ct15),sl15⟩) (c15:Yat K cd15 "spread_after"=true) (k15:Yaq K (.ref f15)=true)
  (a16:Yar K mainGlobals "least_of_spread"=some (some (.ref f16))) (l16:K.lookup f16=some ⟨oc16,od16,.func (Yax "least_of_spread" "least_of_spread" (Zal Zch) (Zaj Zch) (Zac Zch) .none kV16 dc16 pm16 an16 cd16 ct16),sl16⟩) (c16:Yat K cd16 "least_of_spread"=true) (k16:Yaq K (.ref f16)=true)
  (a17:Yar K mainGlobals "best_over"=some (some (.ref f17))) (l17:K.lookup f17=some ⟨oc17,od17,.func (Yax "best_over" "best_over" (Zal sBo) (Zaj sBo) (Zac sBo) .none kV17 dc17 pm17 an17 cd17 ct17),sl17⟩) (c17:Yat K cd17 "best_over"=true) (k17:Yaq K (.ref f17)=true)
  (a18:Yar K mainGlobals "reading_by"=some (some (.ref f18))) (l18:K.lookup f18=some ⟨oc18,od18,.func (Yax "reading_by" "reading_by" (Zal ZbL) (Zaj ZbL) (Zac ZbL) .none kV18 dc18 pm18 an18 cd18 ct18),sl18⟩) (c18:Yat K cd18 "reading_by"=true) (k18:Yaq K (.ref f18)=true)
  (a19:Yar K mainGlobals "least_by"=some (some (.ref f19))) (l19:K.lookup f19=some ⟨oc19,od19,.func (Yax "least_by" "least_by" (Zal Zbw) (Zaj Zbw) (Zac Zbw) .none kV19 dc19 pm19 an19 cd19 ct19),sl19⟩) (c19:Yat K cd19 "least_by"=true) (k19:Yaq K (.ref f19)=true)
  (a20:Yar K mainGlobals "best_by"=some (some (.ref f20))) (l20:K.lookup f20=some ⟨oc20,od20,.func (Yax "best_by" "best_by" (Zal Zcl) (Zaj Zcl) (Zac Zcl) .none kV20 dc20 pm20 an20 cd20 ct20),sl20⟩) (c20:Yat K cd20 "best_by"=true) (k20:Yaq K (.ref f20)=true)
  (a21:Yar K mainGlobals "next_cascade_counts"=some (some (.ref f21))) (l21:K.lookup f21=some ⟨oc21,od21,.func (Yax "next_cascade_counts" "next_cascade_counts" (Zal Zdp) (Zaj Zdp) (Zac Zdp) .none kV21 dc21 pm21 an21 cd21 ct21),sl21⟩) (c21:Yat K cd21 "next_cascade_counts"=true) (k21:Yaq K (.ref f21)=true)
  (a22:Yar K mainGlobals "check_cascade"=some (some (.ref f22))) (l22:K.lookup f22=some ⟨oc22,od22,.func (Yax "check_cascade" "check_cascade" (Zal sChk) (Zaj sChk) (Zac sChk) .none kV22 dc22 pm22 an22 cd22 ct22),sl22⟩) (c22:Yat K cd22 "check_cascade"=true) (k22:Yaq K (.ref f22)=true)
  (a23:Yar K mainGlobals "cascade_counts"=some (some (.ref f23))) (l23:K.lookup f23=some ⟨oc23,od23,.func (Yax "cascade_counts" "cascade_counts" (Zal Zg2) (Zaj Zg2) (Zac Zg2) .none kV23 dc23 pm23 an23 cd23 ct23),sl23⟩) (c23:Yat K cd23 "cascade_counts"=true) (k23:Yaq K (.ref f23)=true)
  (a24:Yar K mainGlobals "cascade_numbers"=some (some (.ref f24))) (l24:K.lookup f24=some ⟨oc24,od24,.func (Yax "cascade_numbers" "cascade_numbers" (Zal Zg4) (Zaj Zg4) (Zac Zg4) .none kV24 dc24 pm24 an24 cd24 ct24),sl24⟩) (c24:Yat K cd24 "cascade_numbers"=true) (k24:Yaq K (.ref f24)=true)
  (a25:Yar K mainGlobals "cascade_spread"=some (some (.ref f25))) (l25:K.lookup f25=some ⟨oc25,od25,.func (Yax "cascade_spread" "cascade_spread" (Zal Zg3) (Zaj Zg3) (Zac Zg3) .none kV25 dc25 pm25 an25 cd25 ct25),sl25⟩) (c25:Yat K cd25 "cascade_spread"=true) (k25:Yaq K (.ref f25)=true)
  (a26:Yar K mainGlobals "best_cascade"=some (some (.ref f26))) (l26:K.lookup f26=some ⟨oc26,od26,.func (Yax "best_cascade" "best_cascade" (Zal sBK) (Zaj sBK) (Zac sBK) .none kV26 dc26 pm26 an26 cd26 ct26),sl26⟩) (c26:Yat K cd26 "best_cascade"=true) (k26:Yaq K (.ref f26)=true)
  (a27:Yar K mainGlobals "long_cascade"=some (some (.ref f27))) (l27:K.lookup f27=some ⟨oc27,od27,.func (Yax "long_cascade" "long_cascade" (Zal Zdq) (Zaj Zdq) (Zac Zdq) .none kV27 dc27 pm27 an27 cd27 ct27),sl27⟩) (c27:Yat K cd27 "long_cascade"=true) (k27:Yaq K (.ref f27)=true)
  (a28:Yar K mainGlobals "_law_pot"=some (some (.ref f28))) (l28:K.lookup f28=some ⟨oc28,od28,.func (Yax "_law_pot" "_law_pot" (Zal sPot) (Zaj sPot) (Zac sPot) .none kV28 dc28 pm28 an28 cd28 ct28),sl28⟩) (c28:Yat K cd28 "_law_pot"=true) (k28:Yaq K (.ref f28)=true)
  (a29:Yar K mainGlobals "_law_next"=some (some (.ref f29))) (l29:K.lookup f29=some ⟨oc29,od29,.func (Yax "_law_next" "_law_next" (Zal sNx) (Zaj sNx) (Zac sNx) .none kV29 dc29 pm29 an29 cd29 ct29),sl29⟩) (c29:Yat K cd29 "_law_next"=true) (k29:Yaq K (.ref f29)=true)
  (a30:Yar K mainGlobals "_law_above"=some (some (.ref f30))) (l30:K.lookup f30=some ⟨oc30,od30,.func (Yax "_law_above" "_law_above" (Zal Zdw) (Zaj Zdw) (Zac Zdw) .none kV30 dc30 pm30 an30 cd30 ct30),sl30⟩) (c30:Yat K cd30 "_law_above"=true) (k30:Yaq K (.ref f30)=true)
  (a31:Yar K mainGlobals "_law_counts"=some (some (.ref f31))) (l31:K.lookup f31=some ⟨oc31,od31,.func (Yax "_law_counts" "_law_counts" (Zal Zbx) (Zaj Zbx) (Zac Zbx) .none kV31 dc31 pm31 an31 cd31 ct31),sl31⟩) (c31:Yat K cd31 "_law_counts"=true) (k31:Yaq K (.ref f31)=true)
  (a32:Yar K mainGlobals "_law_drawn"=some (some (.ref f32))) (l32:K.lookup f32=some ⟨oc32,od32,.func (Yax "_law_drawn" "_law_drawn" (Zal Zby) (Zaj Zby) (Zac Zby) .none kV32 dc32 pm32 an32 cd32 ct32),sl32⟩) (c32:Yat K cd32 "_law_drawn"=true) (k32:Yaq K (.ref f32)=true)
  (a33:Yar K mainGlobals "_law_level"=some (some (.ref f33))) (l33:K.lookup f33=some ⟨oc33,od33,.func (Yax "_law_level" "_law_level" (Zal Zds) (Zaj Zds) (Zac Zds) .none kV33 dc33 pm33 an33 cd33 ct33),sl33⟩) (c33:Yat K cd33 "_law_level"=true) (k33:Yaq K (.ref f33)=true)
  (a34:Yar K mainGlobals "_law_rises"=some (some (.ref f34))) (l34:K.lookup f34=some ⟨oc34,od34,.func (Yax "_law_rises" "_law_rises" (Zal Zce) (Zaj Zce) (Zac Zce) .none kV34 dc34 pm34 an34 cd34 ct34),sl34⟩) (c34:Yat K cd34 "_law_rises"=true) (k34:Yaq K (.ref f34)=true)
  (a35:Yar K mainGlobals "_law_alike"=some (some (.ref f35))) (l35:K.lookup f35=some ⟨oc35,od35,.func (Yax "_law_alike" "_law_alike" (Zal ZbM) (Zaj ZbM) (Zac ZbM) .none kV35 dc35 pm35 an35 cd35 ct35),sl35⟩) (c35:Yat K cd35 "_law_alike"=true) (k35:Yaq K (.ref f35)=true)
  (a36:Yar K mainGlobals "law"=some (some (.ref f36))) (l36:K.lookup f36=some ⟨oc36,od36,.func (Yax "law" "law" (Zal sLaw) (Zaj sLaw) (Zac sLaw) .none kV36 dc36 pm36 an36 cd36 ct36),sl36⟩) (c36:Yat K cd36 "law"=true) (k36:Yaq K (.ref f36)=true)
  (y0:Yar K mainGlobals "LEAST_WAYS"=some (some (.int 2 tk0)))
  (y1:Yar K mainGlobals "MOST_WAYS"=some (some (.int 7 tk1)))
  (y2:Yar K mainGlobals "MOST_PLACES"=some (some (.int 4000 tk2)))
  (y3:Yar K mainGlobals "LAST_CASCADE"=some (some (.int 100 tk3)))
  (z0:Yar K mainGlobals "isinstance"=some none) (z1:Yar K mainGlobals "int"=some none) (z2:Yar K mainGlobals "bool"=some none) (z3:Yar K mainGlobals "list"=some none) (z4:Yar K mainGlobals "tuple"=some none) (z5:Yar K mainGlobals "min"=some none) (z6:Yar K mainGlobals "max"=some none) (z7:Yar K mainGlobals "len"=some none) (z8:Yar K mainGlobals "range"=some none) (z9:Yar K mainGlobals "all"=some none) (z10:Yar K mainGlobals "sum"=some none) (z11:Yar K mainGlobals "sorted"=some none) (z12:Yar K mainGlobals "zip"=some none) (zenumerate:Yar K mainGlobals "enumerate"=some none) (zdict:Yar K mainGlobals "dict"=some none) :
  ∃ fd:FuncData,(∀ (s:Shared) (v:Value),BindsTo s fd ⟨[v],[]⟩ [("script",v)])/\∀ base:Heap,K.In base->base.Ns mainGlobals mg->FnOk l.prog w K mg base CX0 6 fa fd ["script"] (ZjI K):=by
 have e:=hfa.symm.trans (Ye5 X G a36);cases e;have T:Txt mg:=⟨YaW X G z0,YaW X G z1,YaW X G z2,YaW X G z3,YaW X G z4,YaW X G z5,YaW X G z6,YaW X G z7,YaW X G z8,YaW X G z9,YaW X G z10,YaW X G z11,YaW X G z12⟩
 have F0:=Zav (st:=Zdn) l0 c0 k0;have b0:=F0.binds (ps:=["thing"]) fun _ _ _ _ _ _ us hl=>@len1 (fun us=>bindArgs _ ⟨us,[]⟩=pure (Ybe _ us)) us hl fun _=>rfl;have F1:=Zav (st:=Zg0) l1 c1 k1;have b1:=F1.binds (ps:=["p"]) fun _ _ _ _ _ _ us hl=>@len1 (fun us=>bindArgs _ ⟨us,[]⟩=pure (Ybe _ us)) us hl fun _=>rfl;have F2:=Zl0 (st:=Zdr) l2 c2 k2;have b2:=F2.binds (ps:=["n","last"]) d2 rfl [] ["n","last"] rfl fun _ _ _ _ _ _ us hl=>match us,hl with | [_,_],_=>⟨_,rfl,rfl⟩
 have F3:=Zav (st:=Zdt) l3 c3 k3;have b3:=F3.binds (ps:=["p"]) fun _ _ _ _ _ _ us hl=>@len1 (fun us=>bindArgs _ ⟨us,[]⟩=pure (Ybe _ us)) us hl fun _=>rfl;have F4:=Zav (st:=sTot) l4 c4 k4;have b4:=F4.binds (ps:=["total"]) fun _ _ _ _ _ _ us hl=>@len1 (fun us=>bindArgs _ ⟨us,[]⟩=pure (Ybe _ us)) us hl fun _=>rfl;have F5:=Zav (st:=Zck) l5 c5 k5;have b5:=F5.binds (ps:=["p"]) fun _ _ _ _ _ _ us hl=>@len1 (fun us=>bindArgs _ ⟨us,[]⟩=pure (Ybe _ us)) us hl fun _=>rfl;have F6:=Zav (st:=Zcg) l6 c6 k6;have b6:=F6.binds (ps:=["numbers"]) fun _ _ _ _ _ _ us hl=>@len1 (fun us=>bindArgs _ ⟨us,[]⟩=pure (Ybe _ us)) us hl fun _=>rfl;have F7:=Zav (st:=Zdv) l7 c7 k7;have b7:=F7.binds (ps:=["p","n","following"]) fun _ _ _ _ _ _ us hl=>@len3 (fun us=>bindArgs _ ⟨us,[]⟩=pure (Ybe _ us)) us hl fun _ _ _=>rfl;have F8:=Zav (st:=Zbd) l8 c8 k8;have b8:=F8.binds (ps:=["numbers"]) fun _ _ _ _ _ _ us hl=>@len1 (fun us=>bindArgs _ ⟨us,[]⟩=pure (Ybe _ us)) us hl fun _=>rfl;have F9:=Zav (st:=Zg1) l9 c9 k9;have b9:=F9.binds (ps:=["p","following"]) fun _ _ _ _ _ _ us hl=>@len2 (fun us=>bindArgs _ ⟨us,[]⟩=pure (Ybe _ us)) us hl fun _ _=>rfl;have F10:=Zav (st:=Zci) l10 c10 k10;have b10:=F10.binds (ps:=["numbers","many"]) fun _ _ _ _ _ _ us hl=>@len2 (fun us=>bindArgs _ ⟨us,[]⟩=pure (Ybe _ us)) us hl fun _ _=>rfl;have F11:=Zav (st:=Zcj) l11 c11 k11;have b11:=F11.binds (ps:=["p"]) fun _ _ _ _ _ _ us hl=>@len1 (fun us=>bindArgs _ ⟨us,[]⟩=pure (Ybe _ us)) us hl fun _=>rfl;have F12:=Zav (st:=Zdu) l12 c12 k12;have b12:=F12.binds (ps:=["one","other"]) fun _ _ _ _ _ _ us hl=>@len2 (fun us=>bindArgs _ ⟨us,[]⟩=pure (Ybe _ us)) us hl fun _ _=>rfl;have F13:=Zav (st:=Zdo) l13 c13 k13;have b13:=F13.binds (ps:=["spreads"]) fun _ _ _ _ _ _ us hl=>@len1 (fun us=>bindArgs _ ⟨us,[]⟩=pure (Ybe _ us)) us hl fun _=>rfl;have F14:=Zav (st:=Zcf) l14 c14 k14;have b14:=F14.binds (ps:=["spreads"]) fun _ _ _ _ _ _ us hl=>@len1 (fun us=>bindArgs _ ⟨us,[]⟩=pure (Ybe _ us)) us hl fun _=>rfl;have F15:=Zav (st:=Zcm) l15 c15 k15;have b15:=F15.binds (ps:=["p","n","following"]) fun _ _ _ _ _ _ us hl=>@len3 (fun us=>bindArgs _ ⟨us,[]⟩=pure (Ybe _ us)) us hl fun _ _ _=>rfl;have F16:=Zav (st:=Zch) l16 c16 k16;have b16:=F16.binds (ps:=["spread","rows"]) fun _ _ _ _ _ _ us hl=>@len2 (fun us=>bindArgs _ ⟨us,[]⟩=pure (Ybe _ us)) us hl fun _ _=>rfl;have F17:=Zav (st:=sBo) l17 c17 k17;have b17:=F17.binds (ps:=["p","rows","last","following"]) fun _ _ _ _ _ _ us hl=>@len4 (fun us=>bindArgs _ ⟨us,[]⟩=pure (Ybe _ us)) us hl fun _ _ _ _=>rfl;have F18:=Zav (st:=ZbL) l18 c18 k18;have b18:=F18.binds (ps:=["numbers","lengths","placing"]) fun _ _ _ _ _ _ us hl=>@len3 (fun us=>bindArgs _ ⟨us,[]⟩=pure (Ybe _ us)) us hl fun _ _ _=>rfl;have F19:=Zav (st:=Zbw) l19 c19 k19;have b19:=F19.binds (ps:=["numbers","lengths"]) fun _ _ _ _ _ _ us hl=>@len2 (fun us=>bindArgs _ ⟨us,[]⟩=pure (Ybe _ us)) us hl fun _ _=>rfl;have F20:=Zav (st:=Zcl) l20 c20 k20;have b20:=F20.binds (ps:=["levels","lengths"]) fun _ _ _ _ _ _ us hl=>@len2 (fun us=>bindArgs _ ⟨us,[]⟩=pure (Ybe _ us)) us hl fun _ _=>rfl;have F21:=Zav (st:=Zdp) l21 c21 k21;have b21:=F21.binds (ps:=["counts"]) fun _ _ _ _ _ _ us hl=>@len1 (fun us=>bindArgs _ ⟨us,[]⟩=pure (Ybe _ us)) us hl fun _=>rfl;have F22:=Zav (st:=sChk) l22 c22 k22;have b22:=F22.binds (ps:=["p","n"]) fun _ _ _ _ _ _ us hl=>@len2 (fun us=>bindArgs _ ⟨us,[]⟩=pure (Ybe _ us)) us hl fun _ _=>rfl;have F23:=Zav (st:=Zg2) l23 c23 k23;have b23:=F23.binds (ps:=["p","n"]) fun _ _ _ _ _ _ us hl=>@len2 (fun us=>bindArgs _ ⟨us,[]⟩=pure (Ybe _ us)) us hl fun _ _=>rfl;have F24:=Zav (st:=Zg4) l24 c24 k24;have b24:=F24.binds (ps:=["p","n"]) fun _ _ _ _ _ _ us hl=>@len2 (fun us=>bindArgs _ ⟨us,[]⟩=pure (Ybe _ us)) us hl fun _ _=>rfl;have F25:=Zav (st:=Zg3) l25 c25 k25;have b25:=F25.binds (ps:=["p","n"]) fun _ _ _ _ _ _ us hl=>@len2 (fun us=>bindArgs _ ⟨us,[]⟩=pure (Ybe _ us)) us hl fun _ _=>rfl;have F26:=Zav (st:=sBK) l26 c26 k26;have b26:=F26.binds (ps:=["p","rows"]) fun _ _ _ _ _ _ us hl=>@len2 (fun us=>bindArgs _ ⟨us,[]⟩=pure (Ybe _ us)) us hl fun _ _=>rfl;have F27:=Zav (st:=Zdq) l27 c27 k27;have b27:=F27.binds (ps:=["p","lengths"]) fun _ _ _ _ _ _ us hl=>@len2 (fun us=>bindArgs _ ⟨us,[]⟩=pure (Ybe _ us)) us hl fun _ _=>rfl;have F28:=Zav (st:=sPot) l28 c28 k28;have b28:=F28.binds (ps:=["script","k"]) fun _ _ _ _ _ _ us hl=>@len2 (fun us=>bindArgs _ ⟨us,[]⟩=pure (Ybe _ us)) us hl fun _ _=>rfl;have F29:=Zav (st:=sNx) l29 c29 k29;have b29:=F29.binds (ps:=["pot","many"]) fun _ _ _ _ _ _ us hl=>@len2 (fun us=>bindArgs _ ⟨us,[]⟩=pure (Ybe _ us)) us hl fun _ _=>rfl;have F30:=Zav (st:=Zdw) l30 c30 k30;have b30:=F30.binds (ps:=["counts"]) fun _ _ _ _ _ _ us hl=>@len1 (fun us=>bindArgs _ ⟨us,[]⟩=pure (Ybe _ us)) us hl fun _=>rfl;have F31:=Zav (st:=Zbx) l31 c31 k31;have b31:=F31.binds (ps:=["p","n"]) fun _ _ _ _ _ _ us hl=>@len2 (fun us=>bindArgs _ ⟨us,[]⟩=pure (Ybe _ us)) us hl fun _ _=>rfl;have F32:=Zav (st:=Zby) l32 c32 k32;have b32:=F32.binds (ps:=["pot","numbers","many"]) fun _ _ _ _ _ _ us hl=>@len3 (fun us=>bindArgs _ ⟨us,[]⟩=pure (Ybe _ us)) us hl fun _ _ _=>rfl;have F33:=Zav (st:=Zds) l33 c33 k33;have b33:=F33.binds (ps:=["pot","p"]) fun _ _ _ _ _ _ us hl=>@len2 (fun us=>bindArgs _ ⟨us,[]⟩=pure (Ybe _ us)) us hl fun _ _=>rfl;have F34:=Zav (st:=Zce) l34 c34 k34;have b34:=F34.binds (ps:=["p","n"]) fun _ _ _ _ _ _ us hl=>@len2 (fun us=>bindArgs _ ⟨us,[]⟩=pure (Ybe _ us)) us hl fun _ _=>rfl;have F35:=Zav (st:=ZbM) l35 c35 k35;have b35:=F35.binds (ps:=["p","rows","length"]) fun _ _ _ _ _ _ us hl=>@len3 (fun us=>bindArgs _ ⟨us,[]⟩=pure (Ybe _ us)) us hl fun _ _ _=>rfl;have F36:=Zav (st:=sLaw) l36 c36 k36;refine⟨Yax "law" "law" (Zal sLaw) (Zaj sLaw) (Zac sLaw) .none kV36 dc36 pm36 an36 cd36 ct36,fun s v=>.of_eq rfl,fun base _ _=>?_⟩;have m:=fun {x:Str}{v:Value} (a:Yar K mainGlobals x=some (some v))=>Ye5 X G a;have mLEAST_WAYS:=m y0;have mMOST_WAYS:=m y1;have mMOST_PLACES:=m y2;have mLAST_CASCADE:=m y3;have Cis_whole:Cal l.prog w K mg base 1 "is_whole" ["thing"] ZdY _ _:=⟨Zj7 F0 T,m a0,k0,b0⟩
 have Ccheck_ways:Cal l.prog w K mg base 2 "check_ways" ["p"] ZeO _ _:=⟨ZlJ F1 T mLEAST_WAYS mMOST_WAYS Cis_whole,m a1,k1,b1⟩
 have Ccheck_level:Cal l.prog w K mg base 2 "check_level" ["n","last"] Zd4 _ _:=⟨Zkb F2 T Cis_whole,m a2,k2,b2⟩
 have Cfirst_counts:Cal l.prog w K mg base 1 "first_counts" ["p"] Zfz _ _:=⟨Zke F3 T,m a3,k3,b3⟩
 have Ccheck_total:Cal l.prog w K mg base 1 "check_total" ["total"] Zlj _ _:=⟨ZmT F4 T mMOST_PLACES,m a4,k4,b4⟩
 have Cfirst_numbers:Cal l.prog w K mg base 1 "first_numbers" ["p"] ZcD _ _:=⟨Zij F5 T,m a5,k5,b5⟩
 have Cnext_cascade_numbers:Cal l.prog w K mg base 1 "next_cascade_numbers" ["numbers"] Zbv _ _:=⟨Zie F6 T,m a6,k6,b6⟩
 have Cnumbers_after:Cal l.prog w K mg base 2 "numbers_after" ["p","n","following"] (Zea _) _ _:=⟨Zkg F7 T Cfirst_numbers Cnext_cascade_numbers,m a7,k7,b7⟩
 have Cplaces_in:Cal l.prog w K mg base 1 "places_in" ["numbers"] Zbu _ _:=⟨ZfG F8 T,m a8,k8,b8⟩
 have Cnumbers_told:Cal l.prog w K mg base 2 "numbers_told" ["p","following"] (Zfx _) _ _:=⟨ZlK F9 T mMOST_PLACES Cfirst_numbers Cplaces_in Cnext_cascade_numbers,m a9,k9,b9⟩
 have Cleast_places:Cal l.prog w K mg base 1 "least_places" ["numbers","many"] Zd6 _ _:=⟨Zih F10 T (YaW X G zenumerate),m a10,k10,b10⟩
 have Cfirst_spreads:Cal l.prog w K mg base 1 "first_spreads" ["p"] ZcC _ _:=⟨Zii F11 T,m a11,k11,b11⟩
 have Cboth_spreads:Cal l.prog w K mg base 1 "both_spreads" ["one","other"] Zd7 _ _:=⟨Zkf F12 T (YaW X G zdict),m a12,k12,b12⟩
 have Cspread_over:Cal l.prog w K mg base 2 "spread_over" ["spreads"] Zd1 _ _:=⟨Zj8 F13 T Cboth_spreads,m a13,k13,b13⟩
 have Cnext_cascade_spreads:Cal l.prog w K mg base 2 "next_cascade_spreads" ["spreads"] (Zcc Zat) _ _:=⟨Zid F14 T Cboth_spreads,m a14,k14,b14⟩
 have Cspread_after:Cal l.prog w K mg base 3 "spread_after" ["p","n","following"] (Zd9 _ casN) _ _:=⟨Zil (top:=300) (Yag _) (fun _=>rfl) (fun _ _=>rfl) (fun p n h=>ZdR (by omega) n) (fun p n h=>ZaS (by omega) n) F15 T Cfirst_spreads Cnext_cascade_spreads Cspread_over,m a15,k15,b15⟩
 have Cleast_of_spread:Cal l.prog w K mg base 1 "least_of_spread" ["spread","rows"] Zd5 _ _:=⟨Zig F16 T,m a16,k16,b16⟩
 have Cbest_over:Cal l.prog w K mg base 3 "best_over" ["p","rows","last","following"] (spBo _ casN) _ _:=⟨ZnK (fun _=>rfl) (fun _ _=>rfl) (fun p n h=>ZdR (by omega) n) (fun p n h=>ZaS (by omega) n) (fun p n h=>(Zbp h).lv.ne n) F17 T Cfirst_spreads Cnext_cascade_spreads Cspread_over Cleast_of_spread,m a17,k17,b17⟩
 have Creading_by:Cal l.prog w K mg base 1 "reading_by" ["numbers","lengths","placing"] (Zd0 K) _ _:=⟨Zic F18 T,m a18,k18,b18⟩
 have Cleast_by:Cal l.prog w K mg base 2 "least_by" ["numbers","lengths"] (ZcO K) _ _:=⟨Zha F19 T (YaW X G zenumerate) Cleast_places Creading_by,m a19,k19,b19⟩
 have Cbest_by:Cal l.prog w K mg base 3 "best_by" ["levels","lengths"] (Zd8 K) _ _:=⟨Zik F20 T (YaW X G zenumerate) Cplaces_in Cleast_by,m a20,k20,b20⟩
 have Cnext_cascade_counts:Cal l.prog w K mg base 1 "next_cascade_counts" ["counts"] (Zcd K) _ _:=⟨Zj9 F21 T,m a21,k21,b21⟩
 have Ccheck_cascade:Cal l.prog w K mg base 3 "check_cascade" ["p","n"] ZjJ _ _:=⟨ZmV F22 T mLAST_CASCADE Ccheck_ways Ccheck_level,m a22,k22,b22⟩
 have Ccascade_counts:Cal l.prog w K mg base 4 "cascade_counts" ["p","n"] ZcQ _ _:=⟨ZlM F23 T Ccheck_cascade Cfirst_counts Cnext_cascade_counts,m a23,k23,b23⟩
 have Ccascade_numbers:Cal l.prog w K mg base 5 "cascade_numbers" ["p","n"] ZhP _ _:=⟨ZlL F24 T Ccheck_total Ccascade_counts Cnumbers_after Cnext_cascade_numbers,m a24,k24,b24⟩
 have Ccascade_spread:Cal l.prog w K mg base 4 "cascade_spread" ["p","n"] (ZhN casN 100) _ _:=⟨ZlN F25 T Ccheck_cascade Cnext_cascade_spreads Cspread_after,m a25,k25,b25⟩
 have Cbest_cascade:Cal l.prog w K mg base 4 "best_cascade" ["p","rows"] spBK _ _:=⟨ZnL F26 mLAST_CASCADE Ccheck_ways Cnext_cascade_spreads Cbest_over,m a26,k26,b26⟩
 have Clong_cascade:Cal l.prog w K mg base 4 "long_cascade" ["p","lengths"] (Zd2 K) _ _:=⟨Zka F27 T Ccheck_ways Cnext_cascade_numbers Cnumbers_told Cbest_by,m a27,k27,b27⟩
 have C_law_pot:Cal l.prog w K mg base 1 "_law_pot" ["script","k"] (ZhO K) _ _:=⟨ZmU F28 T,m a28,k28,b28⟩
 have C_law_next:Cal l.prog w K mg base 1 "_law_next" ["pot","many"] ZcN _ _:=⟨ZnJ F29 T,m a29,k29,b29⟩
 have C_law_above:Cal l.prog w K mg base 1 "_law_above" ["counts"] (Zcd K) _ _:=⟨Zkh F30 T,m a30,k30,b30⟩
 have C_law_counts:Cal l.prog w K mg base 2 "_law_counts" ["p","n"] ZcQ _ _:=⟨Zhb F31 T C_law_above,m a31,k31,b31⟩
 have C_law_drawn:Cal l.prog w K mg base 2 "_law_drawn" ["pot","numbers","many"] ZcP _ _:=⟨Zhc F32 T C_law_next,m a32,k32,b32⟩
 have C_law_level:Cal l.prog w K mg base 3 "_law_level" ["pot","p"] Zfy _ _:=⟨Zkc F33 T C_law_counts C_law_next,m a33,k33,b33⟩
 have C_law_rises:Cal l.prog w K mg base 5 "_law_rises" ["p","n"] ZdZ _ _:=⟨Zib F34 Ccascade_spread,m a34,k34,b34⟩
 have C_law_alike:Cal l.prog w K mg base 5 "_law_alike" ["p","rows","length"] Zd3 _ _:=⟨Zif F35 Cbest_cascade Clong_cascade,m a35,k35,b35⟩
 exact Zkd F36 T C_law_pot C_law_next C_law_level Ccascade_numbers C_law_drawn Cbest_cascade Clong_cascade C_law_counts C_law_alike C_law_rises
theorem walk {l:Ydz}{q:Program}{loose:List Str}{XP:(Str->Option Value)->Heap->Prop}{YP:World->Heap->Prop}{d:DefRec}{K:Params->Yac} (hn:l.most=some 63) (hdf:d.params.defaults=[])
  (hY:∀ (w:World) (h:Heap),YP w h->(K w.params).In h)
  (F:∀ (w:World) (mg:Str->Option Value) (fa:Addr) (h:Heap),(K w.params).In h->h.Ns mainGlobals mg->mg d.name=some (.ref fa) ->
   ∃ fd:FuncData,(∀ (s:Shared) (u:Value),BindsTo s fd ⟨[u],[]⟩ [("script",u)])/\∀ base:Heap,(K w.params).In base->base.Ns mainGlobals mg->FnOk l.prog w (K w.params) mg base CX0 6 fa fd ["script"] (ZjI (K w.params))) :
  Ye6 q loose XP YP l.row.toRowW d [] (fun f vs=>YeN f vs) :=
 L2.walk_of (n:=63) (k:=6) (x:="script") (CX:=fun _=>CX0) (sp:=fun w=>ZjI (K w.params)) hn (by decide) hdf ⟨rfl,by decide,by decide,rfl⟩ hY F (fun _ _ a ns hl _ hS=>⟨a,ns,rfl,hS,hl,fun _=>rfl⟩) fun _ _ _ _ _ z=>z
end Fs66
def PySem.W.Fast.tw12968567174840989376 : Unit := ()
def PySem.W.Fast.tw2886983911797538185 : Unit := ()
def PySem.W.Fast.tw4475720921681684823 : Unit := ()
def PySem.W.Fast.tw7504865114809027672 : Unit := ()
def PySem.W.Fast.tw4180700893756344228 : Unit := ()
def PySem.W.Fast.tw17280215102813178764 : Unit := ()
def PySem.W.Fast.tw18241924426957343054 : Unit := ()
def PySem.W.Fast.tw6598032805792555793 : Unit := ()
def PySem.W.Fast.tw9434454138160248222 : Unit := ()
def PySem.W.Fast.tw6066438962931390690 : Unit := ()
def PySem.W.Fast.tw4945250798496811426 : Unit := ()
def PySem.W.Fast.tw4990250445137352148 : Unit := ()
def PySem.W.Fast.tw6735818415948020132 : Unit := ()
def PySem.W.Fast.tw5843231639633028713 : Unit := ()
def PySem.W.Fast.tw519706529211337060 : Unit := ()
def PySem.W.Fast.tw3265995633423816587 : Unit := ()
def PySem.W.Fast.tw4475981720698269784 : Unit := ()
def PySem.W.Fast.tw16170023903716144665 : Unit := ()
def PySem.W.Fast.tw11071655739777038638 : Unit := ()
def PySem.W.Fast.tw17580199012482083698 : Unit := ()
def PySem.W.Fast.tw14440618295690992171 : Unit := ()
def PySem.W.Fast.tw12295973908575115804 : Unit := ()
def PySem.W.Fast.tw7997949797547005434 : Unit := ()
def PySem.W.Fast.tw6552462385099000863 : Unit := ()
def PySem.W.Fast.tw8595368950963304543 : Unit := ()
def PySem.W.Fast.tw14377083428908103366 : Unit := ()
def PySem.W.Fast.tw4788253208847411469 : Unit := ()
def PySem.W.Fast.tw3126384468130395815 : Unit := ()
def PySem.W.Fast.tw11962192766857551033 : Unit := ()
def PySem.W.Fast.tw4655615135507231476 : Unit := ()
def PySem.W.Fast.tw11781833898401682005 : Unit := ()
def PySem.W.Fast.tw4809765481790509134 : Unit := ()
def PySem.W.Fast.tw13387120238907265082 : Unit := ()
def PySem.W.Fast.tw5894309888600704793 : Unit := ()
def PySem.W.Fast.tw7212534682515578877 : Unit := ()
def PySem.W.Fast.tw12995758841840983740 : Unit := ()
def PySem.W.Fast.tw6218750068909619886 : Unit := ()
def PySem.W.Fast.tw976288649304026074 : Unit := ()
def PySem.W.Fast.tw16999127108318238220 : Unit := ()
def PySem.W.Fast.tw10757483028748076551 : Unit := ()
def PySem.W.Fast.tw17154359507594491708 : Unit := ()
def PySem.W.Fast.tw9412197270705930484 : Unit := ()
def PySem.W.Fast.tw15402323918723054816 : Unit := ()
def PySem.W.Fast.tw13526013586103848106 : Unit := ()
def PySem.W.Fast.tw16530704815601360822 : Unit := ()
def PySem.W.Fast.tw16696626632683018430 : Unit := ()
def PySem.W.Fast.tw13255430658433245085 : Unit := ()
def PySem.W.Fast.tw6715740909828862985 : Unit := ()
def PySem.W.Fast.tw8399103904161545739 : Unit := ()
def PySem.W.Fast.tw168766862213558742 : Unit := ()
def PySem.W.Fast.tw4105647395115855194 : Unit := ()
def PySem.W.Fast.tw7411807484428503954 : Unit := ()
def PySem.W.Fast.tw2892689781927163156 : Unit := ()
def PySem.W.Fast.tw17726464697135945770 : Unit := ()
def PySem.W.Fast.tw2850648186623585248 : Unit := ()
def PySem.W.Fast.tw3650202735256056849 : Unit := ()
def PySem.W.Fast.tw1015141073506349799 : Unit := ()
def PySem.W.Fast.tw6712550138717759679 : Unit := ()
def PySem.W.Fast.tw9897168267331872372 : Unit := ()
def PySem.W.Fast.tw17068763577077375998 : Unit := ()
def PySem.W.Fast.tw3099412015540899308 : Unit := ()
def PySem.W.Fast.tw3586803557344240798 : Unit := ()
def PySem.W.Fast.tw7499029424941407450 : Unit := ()
def PySem.W.Fast.tw12995162244050954483 : Unit := ()
def PySem.W.Fast.tw10967929486431277877 : Unit := ()
def PySem.W.Fast.tw16182530510674402296 : Unit := ()
def PySem.W.Fast.tw9461933465078899689 : Unit := ()
def PySem.W.Fast.tw12722238392679597819 : Unit := ()
def PySem.W.Fast.tw2261454414499924294 : Unit := ()
def PySem.W.Fast.tw7794763635350970885 : Unit := ()
def PySem.W.Fast.tw5777774805766328111 : Unit := ()
def PySem.W.Fast.tw9558686036418591633 : Unit := ()
def PySem.W.Fast.tw7760938864291641797 : Unit := ()
def PySem.W.Fast.tw6521481416135139683 : Unit := ()
def PySem.W.Fast.tw8393378554654711261 : Unit := ()
def PySem.W.Fast.tw7103598980845959929 : Unit := ()
def PySem.W.Fast.tw9311870851443953426 : Unit := ()
def PySem.W.Fast.tw6673045930381339993 : Unit := ()
def PySem.W.Fast.tw2615649678567012453 : Unit := ()
def PySem.W.Fast.tw13118348160390569451 : Unit := ()
def PySem.W.Fast.tw12250968299112649414 : Unit := ()
def PySem.W.Fast.tw3139662228710034701 : Unit := ()
def PySem.W.Fast.tw12327222021845783967 : Unit := ()
def PySem.W.Fast.tw9855379401583217775 : Unit := ()
def PySem.W.Fast.tw5194414126033092022 : Unit := ()
def PySem.W.Fast.tw7705543601531812537 : Unit := ()
def PySem.W.Fast.tw1547754950225321419 : Unit := ()
def PySem.W.Fast.tw8242584261490905530 : Unit := ()
def PySem.W.Fast.tw6995133202211118362 : Unit := ()
def PySem.W.Fast.tw765792795547288052 : Unit := ()
def PySem.W.Fast.tw258724935550277342 : Unit := ()
def PySem.W.Fast.tw17765040646522335541 : Unit := ()
def PySem.W.Fast.tw12255408664131556902 : Unit := ()
def PySem.W.Fast.tw7455485020523439452 : Unit := ()
def PySem.W.Fast.tw13994036968890139551 : Unit := ()
def PySem.W.Fast.tw7628279894430856540 : Unit := ()
def PySem.W.Fast.tw13338162791472639097 : Unit := ()
def PySem.W.Fast.tw9907582197533367537 : Unit := ()
def PySem.W.Fast.tw15251720341691520693 : Unit := ()
def PySem.W.Fast.tw119917124380015767 : Unit := ()
def PySem.W.Fast.tw5067208644031474596 : Unit := ()
def PySem.W.Fast.tw17028935897525990405 : Unit := ()
def PySem.W.Fast.tw10263365427814891321 : Unit := ()
def PySem.W.Fast.tw13863249180475936861 : Unit := ()
def PySem.W.Fast.tw4204328780908357210 : Unit := ()
def PySem.W.Fast.tw12193525825083160986 : Unit := ()
def PySem.W.Fast.tw15619756388625852616 : Unit := ()
def PySem.W.Fast.tw16491099449919732184 : Unit := ()
def PySem.W.Fast.tw18332857070307787165 : Unit := ()
def PySem.W.Fast.tw4115147666562694468 : Unit := ()
def PySem.W.Fast.tw5527534218550899655 : Unit := ()
def PySem.W.Fast.tw4177896511730702425 : Unit := ()
def PySem.W.Fast.tw13629604979859989488 : Unit := ()
def PySem.W.Fast.tw4007512873630094090 : Unit := ()
def PySem.W.Fast.tw16207959468606462284 : Unit := ()
def PySem.W.Fast.tw1164749077229348933 : Unit := ()
def PySem.W.Fast.tw11082694809193955148 : Unit := ()
def PySem.W.Fast.tw15317201531539840160 : Unit := ()
def PySem.W.Fast.tw9444576556761113041 : Unit := ()
def PySem.W.Fast.tw4426862729818256141 : Unit := ()
def PySem.W.Fast.tw6968755601220622477 : Unit := ()
def PySem.W.Fast.tw17682812419965925590 : Unit := ()
def PySem.W.Fast.tw14781656646673701835 : Unit := ()
def PySem.W.Fast.tw7867754846248485117 : Unit := ()
def PySem.W.Fast.tw3455544167472603397 : Unit := ()
def PySem.W.Fast.tw17652598239757899863 : Unit := ()
def PySem.W.Fast.tw14577895412093676349 : Unit := ()
def PySem.W.Fast.tw14275739020850663242 : Unit := ()
def PySem.W.Fast.tw4281783442371420308 : Unit := ()
def PySem.W.Fast.tw7222888048054689607 : Unit := ()
def PySem.W.Fast.tw14129633809732763713 : Unit := ()
def PySem.W.Fast.tw4829283901428392315 : Unit := ()
def PySem.W.Fast.tw7840810471615816526 : Unit := ()
def PySem.W.Fast.tw8448256143410895709 : Unit := ()
def PySem.W.Fast.tw17402107090871250836 : Unit := ()
def PySem.W.Fast.tw410554228798347891 : Unit := ()
def PySem.W.Fast.tw9072764893821889865 : Unit := ()
def PySem.W.Fast.tw5183937907881190560 : Unit := ()
def PySem.W.Fast.tw10724923951938033164 : Unit := ()
def PySem.W.Fast.tw9576616814362933076 : Unit := ()
def PySem.W.Fast.tw11881983751132781210 : Unit := ()
def PySem.W.Fast.tw8336511084019352095 : Unit := ()
def PySem.W.Fast.tw9940391554877660352 : Unit := ()
def PySem.W.Fast.tw3927325951450776797 : Unit := ()
def PySem.W.Fast.tw7061496458735962809 : Unit := ()
def PySem.W.Fast.tw12688082290353792997 : Unit := ()
def PySem.W.Fast.tw17420363893988347380 : Unit := ()
def PySem.W.Fast.tw13035526484978052935 : Unit := ()
def PySem.W.Fast.tw5602913598497323977 : Unit := ()
def PySem.W.Fast.tw11034810381291833240 : Unit := ()
def PySem.W.Fast.tw2596829934854688736 : Unit := ()
def PySem.W.Fast.tw10468452218210295527 : Unit := ()
def PySem.W.Fast.tw13662818522282668768 : Unit := ()
def PySem.W.Fast.tw5155126864870366211 : Unit := ()
def PySem.W.Fast.tw6023644169187548814 : Unit := ()
def PySem.W.Fast.tw12467743148161213744 : Unit := ()
def PySem.W.Fast.tw13937175640499823624 : Unit := ()
def PySem.W.Fast.tw2497222910411209046 : Unit := ()
def PySem.W.Fast.tw14327342457370981524 : Unit := ()
def PySem.W.Fast.tw8710162959623316726 : Unit := ()
def PySem.W.Fast.tw4279110495191066870 : Unit := ()
def PySem.W.Fast.tw8145906158936181452 : Unit := ()
def PySem.W.Fast.tw8459063912135174173 : Unit := ()
def PySem.W.Fast.tw6769301579144356582 : Unit := ()
def PySem.W.Fast.tw11946581126352652725 : Unit := ()
def PySem.W.Fast.tw16683977533567003539 : Unit := ()
def PySem.W.Fast.tw10003563249507941309 : Unit := ()
def PySem.W.Fast.tw14391972583951008799 : Unit := ()
open PySem PySem.W PyProof.Rows
set_option maxRecDepth 100000 in
set_option maxHeartbeats 0 in
theorem PySem.Challenge.cw_fewreels_k66_whole_no_laying_reads_less_holds : PySem.Challenge.rw_fewreels_k66_whole_no_laying_reads_less.Holds := by
  w_on; o_law; k_head; (case hw => w_witness2)
  k_fill
  refine Fs66.walk (l := PySem.Challenge.rw_fewreels_k66_whole_no_laying_reads_less) rfl rfl (fun w h Y => PySem.W.kIn_of Y) ?F
  case F =>
    intro w mg fa h KX G hmg
    refine' Fs66.all_mk KX G hmg ?a0 ?l0 ?c0 ?k0 ?a1 ?l1 ?c1 ?k1 ?a2 ?l2 ?c2 ?k2 ?d2 ?a3 ?l3 ?c3 ?k3 ?a4 ?l4 ?c4 ?k4 ?a5 ?l5 ?c5 ?k5 ?a6 ?l6 ?c6 ?k6 ?a7 ?l7 ?c7 ?k7 ?a8 ?l8 ?c8 ?k8 ?a9 ?l9 ?c9 ?k9 ?a10 ?l10 ?c10 ?k10 ?a11 ?l11 ?c11 ?k11 ?a12 ?l12 ?c12 ?k12 ?a13 ?l13 ?c13 ?k13 ?a14 ?l14 ?c14 ?k14 ?a15 ?l15 ?c15 ?k15 ?a16 ?l16 ?c16 ?k16 ?a17 ?l17 ?c17 ?k17 ?a18 ?l18 ?c18 ?k18 ?a19 ?l19 ?c19 ?k19 ?a20 ?l20 ?c20 ?k20 ?a21 ?l21 ?c21 ?k21 ?a22 ?l22 ?c22 ?k22 ?a23 ?l23 ?c23 ?k23 ?a24 ?l24 ?c24 ?k24 ?a25 ?l25 ?c25 ?k25 ?a26 ?l26 ?c26 ?k26 ?a27 ?l27 ?c27 ?k27 ?a28 ?l28 ?c28 ?k28 ?a29 ?l29 ?c29 ?k29 ?a30 ?l30 ?c30 ?k30 ?a31 ?l31 ?c31 ?k31 ?a32 ?l32 ?c32 ?k32 ?a33 ?l33 ?c33 ?k33 ?a34 ?l34 ?c34 ?k34 ?a35 ?l35 ?c35 ?k35 ?a36 ?l36 ?c36 ?k36 ?y0 ?y1 ?y2 ?y3 ?z0 ?z1 ?z2 ?z3 ?z4 ?z5 ?z6 ?z7 ?z8 ?z9 ?z10 ?z11 ?z12 ?zenumerate ?zdict
    (case a0 => k_is); (case l0 => k_is); (case c0 => k_is); (case k0 => k_is); (case a1 => k_is); (case l1 => k_is)
    (case c1 => k_is); (case k1 => k_is); (case a2 => k_is); (case l2 => k_is); (case c2 => k_is); (case k2 => k_is)
    (case d2 => k_is); (case a3 => k_is); (case l3 => k_is); (case c3 => k_is); (case k3 => k_is); (case a4 => k_is)
    (case l4 => k_is); (case c4 => k_is); (case k4 => k_is); (case a5 => k_is); (case l5 => k_is); (case c5 => k_is)
    (case k5 => k_is); (case a6 => k_is); (case l6 => k_is); (case c6 => k_is); (case k6 => k_is); (case a7 => k_is)
    (case l7 => k_is); (case c7 => k_is); (case k7 => k_is); (case a8 => k_is); (case l8 => k_is); (case c8 => k_is)
    (case k8 => k_is); (case a9 => k_is); (case l9 => k_is); (case c9 => k_is); (case k9 => k_is); (case a10 => k_is)
    (case l10 => k_is); (case c10 => k_is); (case k10 => k_is); (case a11 => k_is); (case l11 => k_is); (case c11 => k_is)
    (case k11 => k_is); (case a12 => k_is); (case l12 => k_is); (case c12 => k_is); (case k12 => k_is); (case a13 => k_is)
    (case l13 => k_is); (case c13 => k_is); (case k13 => k_is); (case a14 => k_is); (case l14 => k_is); (case c14 => k_is)
    (case k14 => k_is); (case a15 => k_is); (case l15 => k_is); (case c15 => k_is); (case k15 => k_is); (case a16 => k_is)
    (case l16 => k_is); (case c16 => k_is); (case k16 => k_is); (case a17 => k_is); (case l17 => k_is); (case c17 => k_is)
    (case k17 => k_is); (case a18 => k_is); (case l18 => k_is); (case c18 => k_is); (case k18 => k_is); (case a19 => k_is)
    (case l19 => k_is); (case c19 => k_is); (case k19 => k_is); (case a20 => k_is); (case l20 => k_is); (case c20 => k_is)
    (case k20 => k_is); (case a21 => k_is); (case l21 => k_is); (case c21 => k_is); (case k21 => k_is); (case a22 => k_is)
    (case l22 => k_is); (case c22 => k_is); (case k22 => k_is); (case a23 => k_is); (case l23 => k_is); (case c23 => k_is)
    (case k23 => k_is); (case a24 => k_is); (case l24 => k_is); (case c24 => k_is); (case k24 => k_is); (case a25 => k_is)
    (case l25 => k_is); (case c25 => k_is); (case k25 => k_is); (case a26 => k_is); (case l26 => k_is); (case c26 => k_is)
    (case k26 => k_is); (case a27 => k_is); (case l27 => k_is); (case c27 => k_is); (case k27 => k_is); (case a28 => k_is)
    (case l28 => k_is); (case c28 => k_is); (case k28 => k_is); (case a29 => k_is); (case l29 => k_is); (case c29 => k_is)
    (case k29 => k_is); (case a30 => k_is); (case l30 => k_is); (case c30 => k_is); (case k30 => k_is); (case a31 => k_is)
    (case l31 => k_is); (case c31 => k_is); (case k31 => k_is); (case a32 => k_is); (case l32 => k_is); (case c32 => k_is)
    (case k32 => k_is); (case a33 => k_is); (case l33 => k_is); (case c33 => k_is); (case k33 => k_is); (case a34 => k_is)
    (case l34 => k_is); (case c34 => k_is); (case k34 => k_is); (case a35 => k_is); (case l35 => k_is); (case c35 => k_is)
    (case k35 => k_is); (case a36 => k_is); (case l36 => k_is); (case c36 => k_is); (case k36 => k_is); (case y0 => k_is)
    (case y1 => k_is); (case y2 => k_is); (case y3 => k_is); (case z0 => k_is); (case z1 => k_is); (case z2 => k_is)
    (case z3 => k_is); (case z4 => k_is); (case z5 => k_is); (case z6 => k_is); (case z7 => k_is); (case z8 => k_is)
    (case z9 => k_is); (case z10 => k_is); (case z11 => k_is); (case z12 => k_is); (case zenumerate => k_is); (case zdict => k_is)
