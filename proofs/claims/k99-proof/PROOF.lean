import PyProof.Rows.All
import Wide.All
import OpenK.AllK
import Wide.FinOn
import Lean
import PyProof.EqAt
import PyProof.EqKinds
import PyProof.TupleCall
import PyProof.NeKinds
import PyProof.Draws
import PyProof.SumWalkG
import PyProof.ListRange
import PyProof.ZipIter
import PyProof.Rows.SortRev
import KE.IntBitsLaws
import PyProof.ListMulRoad
import PyProof.TupleKey
import PyProof.StationsW
import PyProof.RulesAs
import PyProof.NsDelKeeps
import PyProof.Rows.Own
import PyProof.Rows.Catch
import KE.KTryMore
import KE.KIsNot
import OpenK.KDescr
import PyProof.ExcAttrAll.ValueError
import PyProof.FString
import KE.KItemsList
import KE.KPairComp
import PyProof.DictWalks
import PyProof.Rows.SortShellK
import KE.KSortTup
import KE.KDictSum
import PyProof.ReprRoads
import PyProof.ReprLen
import PyProof.CallStr
import PyProof.Rows.RuleIs
import PyProof.Rows.SeqMore2
import KE.KRevIter
import PyProof.Rows.TupAdd
import PyProof.StrLawsRepr
import PyProof.RulesTry
import PyProof.InstStoreFacts
import OpenK.KMake
import PyProof.FactsAll.range_2
import PyProof.RangeFor
import PyProof.Rows.StrJoin2
import PyProof.Rows.Range3
import PySem.Challenge.RW_fewreels_k99_whole_ways_side_by_side
open List renaming length_map → Yaa, getElem?_eq_some_iff → Yab, getElem?_eq_getElem → Yad, length_append → Yaf, mem_cons_of_mem → Yag, size_toArray → Yah, getD_eq_getElem?_getD → Yai, replicate → Yaj, mem_cons_self → Yal, mem_append → Yam, mem_append_right → Yao, sum_cons → Yas, getElem?_map → Yat, map_append → Yau, append_assoc → Yav, length_take → Yay, length_cons → Yaz, mem_cons → YaC, mem_singleton → YaD, mem_append_left → YaF, range → YaG, take_append_drop → YaH, mem_map → YaK, map_cons → YaM, take_length → YaN, mem_of_getElem? → YaO, flatten_cons → YaR, getElem?_append_right → YaV, take_succ_eq_append_getElem → YaW, getElem?_set_ne → YaZ, pairwise_append → Ya0, take_of_length_le → Ya2, pairwise_cons → Ya3, mem_range → Ya8, mem_of_mem_drop → Yba, append_nil → Ybb, getElem?_append_left → Ybe, pairwise_map → Ybf, length_drop → Ybg, zip → Ybh, take_add_one → Ybj, mem_of_mem_take → Ybk, replicate_succ → Ybn, getElem_mem → Ybq, sum_append → Ybu, mergeSort_perm → Ybv, cons_append → Ybx, flatten_append → YbB, nodup_append → YbD, pairwise_mergeSort → YbG, length_eq_zero_iff → YbH, length_reverse → YbM, length_replicate → YbQ, lookup_cons → YbR, ext_getElem → YbS, reverse_cons → YbW, length_range → YbX, zipWith → Yb2, map_map → Yb3, take_zero → Yb5, nil_append → Yb6, getElem?_take_of_lt → Yb7, map_congr_left → Yb9, filterMap_cons → Yca, dropLast_concat_getLast → Yce, getElem?_mapIdx → Yco, drop_eq_getElem_cons → Ycs, not_mem_nil → Yct, mem_filter → Ycz, map_take → YcA, length_nil → YcB, getElem?_replicate → YcC, foldl_cons → YcD, flatten_replicate_singleton → YcK, getElem?_set_self → YcL, perm_append_comm → YcO, mem_iff_getElem? → YcP, getElem?_reverse → YcQ, getElem?_eq_none → YcR, mem_reverse → YcV, getElem?_of_mem → YcX, reverse_append → Yc1, mem_map_of_mem → Yc2, getElem?_range → Yc3, mem_replicate → Yc8, map_replicate → Yc9, getElem?_drop → Yda, reverse_perm → Ydg, eq_of_mem_replicate → Ydh, length → Ydl, reverse_nil → Ydo, perm_middle → Ydp, mem_flatten → Ydq, countP_cons → Ydr, any_eq_true → Yds, length_eq_one_iff → Ydt, drop_eq_nil_of_le → Ydu, range_succ → Ydw, pairwise_reverse → Ydx, nodup_cons → Ydy, length_singleton → Ydz, getElem?_zipWith → YdA, drop_zero → YdE, length_zipWith → YdF, map_drop → YdL, mapIdx_append → YdM, filterMap_map → YdN, count_pos_iff → YdO, getElem_take → YdV, ext_getElem? → YdW, sum_nil → Yd1, map_nil → Yd2, zipIdx_cons → Yd4, take_append_of_le_length → Yd5, nodup_range → Yd6, getElem_map → Yd7, filter_cons → Yd8, all_eq_true → Yd9, countP_eq_length_filter → Yei, of_mem_zip → Yem, length_set → Yen, forIn_cons → Yeo, nodup_iff_pairwise_ne → YeA, take_left → YeH, pairwise_iff_getElem → YeI, getElem?_eq_none_iff → YeJ, foldl → YeN, pairwise_singleton → YeO, pairwise_replicate → YeP, eraseIdx_cons_succ → YeQ, range_succ_eq_map → YeS, extract → YeV, count_cons_of_ne → YeW, mem_iff_getElem → Ye7, map_eq_cons_iff → Ye8, count_cons_self → Ye9, take_succ_cons → Yfe, map_id → Yff, mem_filterMap → Yfp, map → Yfq, getElem_drop → Yfw, any_eq_false → Yfx, map_reverse → YfC, getElem_inj → YfD, flatten_nil → YfE, drop_length → YfF
open PySem.W renaming Frag → Yac, keepIn → Yaq, nsIn → Yar, codeIn → Yax, fnOf → YaA, mg_none_of → YaP, kia_one → YbE, callWith_K → Yc0, findIn → Yc4, kitOne → Ydv, methodObj → YdI, kat_nil → YdX, instObj → YdY, OpenLaw → YdZ, lookIn → Yee, cellsFrom_some → YeF, specialIn → Ye3, kitx_list → Ye4, kitx_dict → Ye5, plainGet → Yfc, mg_of → Yfz, WalkO → YfA
open PySem.Heap renaming get?_push_of_some → Yae, lt_size → Yap, get?_push_size → YaB, size_push → YbF, SameBut → YdB, IsTuple → YdC, ExtBut → YdG, IsList → Yeq, get?_update_other → YeU, get?_update_self → YeY, get?_update_ne → Yfg
open Nat renaming le_refl → Yak, lt_of_lt_of_le → Yaw, ne_of_lt → YaU, zero_le → YaY, lt_irrefl → Ybo, le_of_lt → Ybs, le_trans → Ybw, lt_or_ge → YbI, zero_add → YbV, min_eq_left → Yb0, ne_of_gt → Yb4, lt_succ_self → Ycw, not_lt_zero → YcG, sub_self → YcT, sub_zero → Ydc, le_succ → Ydm, add_sub_cancel_left → Ydn, eq_zero_or_pos → YdS, lt_succ_of_lt → Yd0, min_eq_right → Yef, max_eq_right → Yeg, le_of_not_lt → Yeh, strongRecOn → Yez, mul_comm → Ye6, mul_le_mul_right → Yfd, div_mul_le_self → Yfm, add_mul → Yfn, add_lt_add_left → Yfo, lt_or_eq_of_le → Yft, lt_of_le_of_lt → Yfu, lt_trichotomy → YfB
open Array renaming getElem?_toList → Yan, length_toList → Ya4, getD_eq_getD_getElem? → Ya6, toList_append → Ya9, toList_reverse → Ycn, getElem?_eq_getElem → Ycq, toList_push → YcM, toList_extract → YcW, toList_setIfInBounds → Yeu, perm_iff_toList_perm → Yev, getElem?_eq_some_iff → Yew
open Int renaming mul_le_mul_of_nonneg_right → YaE, toNat_natCast → YaS, mul_le_mul_of_nonneg_left → YaX, le_refl → Ybd, add_mul → YbC, mul_sub → YbT, mul_nonneg → YbY, mul_comm → Ycb, le_trans → Ycc, zero_add → Yck, pow_succ → Ycl, mul_one → Ycy, natCast_add → YcH, emod_nonneg → YcI, emod_lt_of_pos → YcJ, mul_add → YcN, add_zero → YdD, one_mul → YdJ, toNat → YdT, self_le_toNat → Yd3, pow_zero → Yea, le_of_eq → Yeb, natCast_succ → Yej, pow_one → YeB, pow_add → YeC, le_antisymm → YeD, fdiv_eq_ediv_of_nonneg → YeK, add_assoc → YeT, ediv_one → Yfb
open Or renaming inl → YaI, inr → Yde
open Bool renaming false_ne_true → YaJ, false_eq_true → YaQ, and_eq_true → Ycu, not_true → YcE, eq_iff_iff → YcF, or_eq_true → Yet, not_eq_true' → Yfy
open Option.some renaming inj → YaL
open PySem.Builtin.Int renaming intBits → YaT
open PySem renaming boot_len → Ya1, mem_of_lookup → YbJ, call → Yfj
open PySem.PassesOwn renaming never → Ya5
open PySem.Builtin.SmallTypes renaming nextOf → Ya7, ownedTupleIsFree → YbO, ownedTupleHandOut → Yc6
open PySem.Builtin.Range renaming rangeFitsLong → Ybc, rangeSize → YbP, rangeSize → Yb1, small → Yel
open ForInStep renaming yield → Ybi, done → Ycm
open Ne renaming symm → Ybl
open PySem.F renaming plainAttrs_list → Ybm, type_list_append → Ybz, slot_list_append → YbA, args_tuple_add_2 → Yc7, entry_tuple_add → Ydd, slot_tuple_add → Ydi
open Classical renaming byContradiction → Ybp
open PyProof.Rows renaming callWith_type1 → Ybr, slot_tuple_getitem → Ycv, envOfC → Ydk
open PySem.Value renaming ref → Ybt, none → YbU, type → YdP, bool → YdQ, str → Yec, int → Yed, builtin → YeM
open Option renaming toList_some → Yby, getD_some → Yfk, getD_none → Yfl
open List.Perm renaming append_left → YbK, refl → Yb8, swap → YcZ, eq_of_pairwise → Yc5, append_right → Ydf, trans → Ydj, of_eq → Yfa
open PySem.Builtin.List renaming listTooLong → YbL
open PySem.PyData renaming depthAll → YbN
open PySem.Obj renaming mapSeq → YbZ, data_mapFields → Yfs
open List.Pairwise renaming nil → Ycd, imp_of_mem → YcY
open PySem.Builtin.Slice renaming slicePlaces → Ycf, sliceAdjust → YcU, sliceApplied → YdH
open PySem.NameKind renaming free → Ycg, cell → Yfv
open PyProof.Rows.KeyOrd renaming kle_refl → Ych, kle_of_klt → Yci, kle_trans → YcS, kle_antisymm → YeX
open PySem.Builtin.Tuple renaming tupleExact → Ycj
open PySem.AutoSeq1 renaming wpAny_loadPart' → Ycp
open PySem.Shared renaming heap → Ycr
open False renaming elim → Ycx
open PySem.Str renaming ofString → Ydb, empty → YdR
open PyProof.Rows.SortSt renaming mk' → YdK
open True renaming intro → YdU
open PySem.Heap.IsSliceOf renaming new → Yek
open PySem.Heap.SameBut renaming update → Yep
open PySem.SeqAt.EqAt renaming same → Yer, of_refs → Ye0, int_int → Ye1
open PySem.Calls renaming Name_function_global → Yes, spliced_cons → Yfi, spliced_nil → Yfr
open Sum renaming inr → Yex, inl → Yey
open PySem.SeqAt.RcNeAt renaming tuples → YeE
open PyProof renaming noPylong_small → YeG
open PySem.Heap.IsTuple renaming push → YeL
open PySem.Heap.IsList renaming push → YeR
open Function renaming comp_def → YeZ
open PySem.Walks renaming range → Ye2
open PySem.Data renaming fields → Yfh
set_option Elab.async false
set_option linter.all false
set_option maxRecDepth 100000
namespace L2
open PySem PySem.Spec PyProof.Rows
abbrev Key:=Sum Int Str
def Znk:Key->Value->Bool
 | .inl k,v=>Value.isInt k v
 | .inr x,v=>Value.isStrOf x v
def keyH (w:World):Key->Int
 | .inl k=>hashInt k
 | .inr x=>hashStr w x
theorem ZaK:∀ {k:Key}{v:Value},Znk k v=true->(∃ i t,k=Yey i/\v=Yed i t)∨(∃ x t,k=Yex x/\v=Yec x t)
 | .inl i,v,h=>by
  obtain⟨t,e⟩:=Value.isInt_shape (k:=i) (v:=v) h;exact .inl ⟨i,t,rfl,e⟩
 | .inr x,v,h=>by
  obtain⟨t,e⟩:=Value.isStrOf_shape (x:=x) (v:=v) h;exact .inr ⟨x,t,rfl,e⟩
theorem Znj (a b:Int):decide ((Yey a:Key)=Yey b)=(a == b):=by
 by_cases e:a=b
 ·subst e;simp
 ·have h:¬ (Yey a:Key)=Yey b:=fun q=>e (Sum.inl.inj q);rw[decide_eq_false h];exact (beq_eq_false_iff_ne.mpr e).symm
theorem Zng (a b:Str):decide ((Yex a:Key)=Yex b)=decide (a=b):=by
 by_cases e:a=b
 ·subst e;simp
 ·have h:¬ (Yex a:Key)=Yex b:=fun q=>e (Sum.inr.inj q);rw[decide_eq_false h,decide_eq_false e]
theorem Zni (a:Int) (b:Str):decide ((Yey a:Key)=Yex b)=false:=decide_eq_false (fun q=>nomatch q)
theorem Znh (a:Str) (b:Int):decide ((Yex a:Key)=Yey b)=false:=decide_eq_false (fun q=>nomatch q)
def Zf9 (prog:Program) (w:World):PySem.KeyKind prog w Key where
 is:=Znk
 hash:=keyH w
 inj:=fun v a b ha hb=>by
  rcases ZaK ha with ⟨i,t,rfl,rfl⟩ | ⟨x,t,rfl,rfl⟩
  ·rcases ZaK hb with ⟨j,u,rfl,e⟩ | ⟨y,u,rfl,e⟩
   ·injection e with e1 _;rw[e1]
   ·exact nomatch e
  ·rcases ZaK hb with ⟨j,u,rfl,e⟩ | ⟨y,u,rfl,e⟩
   ·exact nomatch e
   ·injection e with e1 _;rw[e1]
 byValue:=fun k v h=>by
  rcases ZaK h with ⟨i,t,rfl,rfl⟩ | ⟨x,t,rfl,rfl⟩ <;> rfl
 pyHash:=fun hv h=>by
  rcases ZaK hv with ⟨i,t,rfl,rfl⟩ | ⟨x,t,rfl,rfl⟩
  ·exact wpAny_pyHash_int h
  ·exact wpAny_pyHash_str h
 eqBool:=fun hu hv h=>by
  rcases ZaK hu with ⟨i,t,rfl,rfl⟩ | ⟨x,t,rfl,rfl⟩
  ·rcases ZaK hv with ⟨j,u,rfl,rfl⟩ | ⟨y,u,rfl,rfl⟩
   ·rw[Znj] at h;exact wpAny_eqBool_int h
   ·rw[Zni] at h;exact SeqAt.EqAt.int_str i t y u _ _ _ _ h
  ·rcases ZaK hv with ⟨j,u,rfl,rfl⟩ | ⟨y,u,rfl,rfl⟩
   ·rw[Znh] at h;exact SeqAt.EqAt.str_int x t j u _ _ _ _ h
   ·rw[Zng] at h;exact wpAny_eqBool_str h
 «strs»:=fun k x t v h=>by
  rcases ZaK h with ⟨i,u,rfl,e⟩ | ⟨y,u,rfl,e⟩
  ·exact nomatch e
  ·injection e with e1 _;subst e1;cases v <;> rfl
end L2
namespace L2
open PySem PySem.Spec PyProof.Rows
inductive V where
 | non | bl (b:Bool) | int (i:Int) | str (x:Str) | byt (b:Array UInt8) | flt (b:UInt64) | ref (a:Addr) | ty (n:String)
 deriving DecidableEq
def RelV:V->Value->Prop
 | .non,u=>u=YbU
 | .bl b,u=>u=YdQ b
 | .int i,u=>∃ t,u=Yed i t
 | .str x,u=>∃ t,u=Yec x t
 | .byt b,u=>∃ t,u=Value.bytes b t
 | .flt b,u=>∃ t,u=Value.float b t
 | .ref a,u=>u=Ybt a
 | .ty n,u=>u=YdP n
abbrev Vals:List V->List Value->Prop:=Paired RelV
theorem Vals.length {xs:List V}{us:List Value} (r:Vals xs us):xs.length=us.length:=Paired.length r
theorem Vals.get:∀ {xs:List V}{us:List Value}{i:Nat}{x:V},Vals xs us->xs[i]?=some x->∃ u,us[i]?=some u/\RelV x u
 | _,_,_,_,.nil,e=>by simp at e
 | _,_,0,_,.cons r _,e=>by simp at e;subst e;exact⟨_,rfl,r⟩
 | _,_,i+1,x,.cons _ t,e=>by
  obtain⟨u,h1,h2⟩:=Vals.get (i:=i) (x:=x) t (by simpa using e);exact⟨u,by simpa using h1,h2⟩
theorem Vals.set {x:V}{u:Value} (r:RelV x u):∀ {xs:List V}{us:List Value} (i:Nat),Vals xs us->Vals (xs.set i x) (us.set i u)
 | _,_,_,.nil=>.nil
 | _,_,0,.cons _ t=>.cons r t
 | _,_,i+1,.cons q t=>.cons q (Vals.set r i t)
theorem Vals.append:∀ {xs ys:List V}{us ws:List Value},Vals xs us->Vals ys ws->Vals (xs++ys) (us++ws)
 | _,_,_,_,.nil,s=>s
 | _,_,_,_,.cons r t,s=>.cons r (Vals.append t s)
theorem Vals.take:∀ {xs:List V}{us:List Value} (n:Nat),Vals xs us->Vals (xs.take n) (us.take n)
 | _,_,0,_=>.nil
 | _,_,_+1,.nil=>.nil
 | _,_,n+1,.cons r t=>.cons r (Vals.take n t)
theorem Vals.drop:∀ {xs:List V}{us:List Value} (n:Nat),Vals xs us->Vals (xs.drop n) (us.drop n)
 | _,_,0,r=>r
 | _,_,_+1,.nil=>.nil
 | _,_,n+1,.cons _ t=>Vals.drop n t
theorem Vals.none_of:∀ {xs:List V}{us:List Value}{i:Nat},Vals xs us->xs[i]?=none->us[i]?=none:=fun {xs us i} r e=>by
 have h1:=r.length;have h2:xs.length<=i:=YeJ.mp e;exact YeJ.mpr (by omega)
def RelO:Option V->Option Value->Prop
 | some v,some u=>RelV v u
 | none,none=>True
 | _,_=>False
def KV {κ:Type}:List (κ × V)->List (κ × Value)->Prop:=Paired fun (p:κ × V) (q:κ × Value)=>p.1=q.1/\RelV p.2 q.2
def kV:Key->V
 | .inl i=>.int i
 | .inr x=>.str x
inductive HO where
 | lst (xs:List V)
 | tup (xs:List V)
 | dK (kvs:List (Key × V)) | dT (kvs:List (List Key × V))
 | set (S:Int->Bool) (n:Nat)
 | ins (C dx:Addr) (fs:List (Str × V))
 | own (x:Addr)
 | xd (fs:List (Str × V))
 | met (f x:Addr)
 | rng (lo hi:Int)
 | frz (o:Obj) (u:HO)
 | tbl (ps:Array Value)
 | ext (φ:Heap->Prop)
abbrev Hp:=Addr->Option HO
def upd (H:Hp) (a:Addr) (o:HO):Hp:=fun b=>if b=a then some o else H b
theorem Zab {H:Hp}{a:Addr}{o:HO}:upd H a o a=some o:=by unfold upd;rw[if_pos rfl]
theorem Zag {H:Hp}{a b:Addr}{o:HO} (h:b≠a):upd H a o b=H b:=by unfold upd;rw[if_neg h]
theorem Zaf {H:Hp}{a b:Addr}{o:HO} (h:H a=some o) (h':H b=none):a≠b:=by
 intro e;subst e;rw[h] at h';cases h'
def IsTupD (h:Heap) (a:Addr) (items:Array Value):Prop:=∃ o,h.get? a=some o/\o.cls=.type "tuple"/\o.dict=none/\∃ n,o.data=.seq items n
theorem IsTupD.tup {h:Heap}{a:Addr}{items:Array Value} (x:IsTupD h a items):IsTup h a items:=let ⟨o,e,c,_,d⟩:=x;⟨o,e,c,d⟩
theorem IsTupD.new (h:Heap) (items:Array Value):IsTupD (h.push { cls:=.type "tuple",data:=.seq items }) h.objs.size items:=⟨_,YaB _ rfl,rfl,rfl,_,rfl⟩
section
variable (P:Program) (w:World)
def ObjOk (H:Hp) (h:Heap) (a:Addr):HO->Prop
 | .lst xs=>xs.length<=sizeLine/\∃ (its:List Value) (n:Nat),Vals xs its/\h.get? a=some { cls:=.type "list",data:=.seq its.toArray n }
 | .tup xs=>xs.length<=sizeLine/\∃ its:List Value,Vals xs its/\IsTupD h a its.toArray
 | .dK kvs=>kvs.length<=sizeLine/\(a == sysModules)=false/\∃ vs,KV kvs vs/\h.DictOf (Zf9 P w) a vs
 | .dT kvs=>kvs.length<=sizeLine/\(a == sysModules)=false/\∃ xs:List (List Key × Addr × Value),
   Paired (fun (p:List Key × V) (q:List Key × Addr × Value)=>p.1=q.1/\H q.2.1=some (.tup (p.1.map kV))/\RelV p.2 q.2.2) kvs xs /\
   ∃ o es ep,h.get? a=some o/\o.ExactDict/\o.data=.dict es ep/\es.toList=xs.map (entryOfKey (tupleKind (Zf9 P w)))/\(xs.map (·.1)).Nodup
 | .set S n=>h.SetOf (intKind P w) a S n
 | .ins C dx fs=>H dx=some (.own a)/\fs.length<=1000/\dx≠a/\h.get? a=some (YdY C dx) /\
   ∃ mA,h.Ns1 dx mA/\(∀ f,RelO (fs.lookup f) (mA f))/\PySem.Within mA (fs.map (·.1))
 | .own _=>∃ o,h.get? a=some o
 | .xd fs=>∃ mA,h.Ns1 a mA/\∀ f,RelO (fs.lookup f) (mA f)
 | .rng lo hi=>∃ t u v,h.get? a=some { cls:=.type "range",data:=.fields #[.int lo t,.int hi u,.int 1 v] }
 | .frz o u=>h.get? a=some o/\ObjOk H h a u
 | .tbl ps=>h.get? a=some { cls:=.none,data:=.fields ps }
 | .met f x=>h.get? a=some (YdI (.ref f) (.ref x))
 | .ext φ=>φ h/\(∃ o,h.get? a=some o)/\∀ h1 h2:Heap,φ h1->(∀ o,h1.get? a=some o->h2.get? a=some o)->φ h2
def HOk (H:Hp) (h:Heap):Prop:=∀ a o,H a=some o->ObjOk P w H h a o
end
section
variable {P:Program}{w:World}{H H':Hp}{h h':Heap}{a:Addr}{o:HO}
theorem ObjOk.lt (x:ObjOk P w H h a o):a<h.objs.size:=by
 cases o with
 | lst xs=>obtain⟨_,_,_,_,e⟩:=x;exact Yap e
 | tup xs=>obtain⟨_,_,_,p⟩:=x;exact p.tup.lt
 | dK kvs=>obtain⟨_,_,_,_,o,_,_,e,_⟩:=x;exact Yap e
 | dT kvs=>obtain⟨_,_,_,_,o,_,_,e,_⟩:=x;exact Yap e
 | set S n=>obtain⟨o,_,_,_,e,_⟩:=x;exact Yap e
 | ins C dx fs=>obtain⟨_,_,_,e,_⟩:=x;exact Yap e
 | own y=>obtain⟨_,e⟩:=x;exact Yap e
 | xd fs=>obtain⟨_,⟨_,_,_,e,_⟩,_⟩:=x;exact Yap e
 | rng lo hi=>obtain⟨_,_,_,e⟩:=x;exact Yap e
 | frz ob u=>obtain⟨e,_⟩:=x;exact Yap e
 | tbl ps=>exact Yap (show h.get? a=some _ from x)
 | met f y=>exact Yap (show h.get? a=some _ from x)
 | ext φ=>obtain⟨_,⟨_,e⟩,_⟩:=x;exact Yap e
theorem Paired.mapP {α β:Type}{F G:α->β->Prop}:∀ {l₁:List α}{l₂:List β},Paired F l₁ l₂->(∀ a b,F a b->G a b)->Paired G l₁ l₂
 | _,_,.nil,_=>.nil
 | _,_,.cons r t,f=>.cons (f _ _ r) (Paired.mapP t f)
theorem ObjOk.stay (x:ObjOk P w H h a o) (k:∀ b u,(b=a∨H b=some (.own a))->h.get? b=some u->h'.get? b=some u)
  (ho:∀ b,H b=some (.own a)->H' b=some (.own a)) (ht:∀ b xs,H b=some (.tup xs)->H' b=some (.tup xs)):ObjOk P w H' h' a o:=by
 induction o with
 | lst xs=>obtain⟨z,its,n,r,e⟩:=x;exact⟨z,its,n,r,k _ _ (.inl rfl) e⟩
 | tup xs=>obtain⟨z,its,r,ob,e,c⟩:=x;exact⟨z,its,r,ob,k _ _ (.inl rfl) e,c⟩
 | dK kvs=>obtain⟨z,y,vs,r,ob,es,ep,e,c⟩:=x;exact⟨z,y,vs,r,ob,es,ep,k _ _ (.inl rfl) e,c⟩
 | dT kvs=>
  obtain⟨z,y,xs,r,ob,es,ep,e,c⟩:=x;exact⟨z,y,xs,Paired.mapP r fun p q z=>⟨z.1,ht _ _ z.2.1,z.2.2⟩,ob,es,ep,k _ _ (.inl rfl) e,c⟩
 | set S n=>obtain⟨ob,es,ep,t,e,c⟩:=x;exact⟨ob,es,ep,t,k _ _ (.inl rfl) e,c⟩
 | ins C dx fs=>
  obtain⟨d,z,ne,e,mA,⟨od,es,ep,e2,c⟩,r⟩:=x;exact⟨ho _ d,z,ne,k _ _ (.inl rfl) e,mA,⟨od,es,ep,k _ _ (.inr d) e2,c⟩,r⟩
 | own y=>obtain⟨ob,e⟩:=x;exact⟨ob,k _ _ (.inl rfl) e⟩
 | xd fs=>obtain⟨mA,⟨od,es,ep,e,c⟩,r⟩:=x;exact⟨mA,⟨od,es,ep,k _ _ (.inl rfl) e,c⟩,r⟩
 | rng lo hi=>obtain⟨t,u,v,e⟩:=x;exact⟨t,u,v,k _ _ (.inl rfl) e⟩
 | frz ob u ih=>obtain⟨e,q⟩:=x;exact⟨k _ _ (.inl rfl) e,ih q⟩
 | tbl ps=>
  have e:h.get? a=some { cls:=.none,data:=.fields ps }:=x;show h'.get? a=some { cls:=.none,data:=.fields ps };exact k a _ (.inl rfl) e
 | met f y=>
  have e:h.get? a=some (YdI (.ref f) (.ref y)):=x;show h'.get? a=some (YdI (.ref f) (.ref y));exact k a _ (.inl rfl) e
 | ext φ=>obtain⟨p,⟨o,e⟩,st⟩:=x;exact⟨st _ _ p fun o q=>k _ _ (.inl rfl) q,⟨o,k _ _ (.inl rfl) e⟩,st⟩
theorem HOk.lt (x:HOk P w H h) (e:H a=some o):a<h.objs.size:=(x a o e).lt
theorem HOk.fresh (x:HOk P w H h) (e:h.objs.size<=a):H a=none:=by
 cases q:H a with
 | none=>rfl
 | some u=>exact absurd (Yaw (x.lt q) e) (Ybo _)
theorem HOk.kept (x:HOk P w H h) (k:∀ b u,h.get? b=some u->h'.get? b=some u):HOk P w H h':=fun a o e=>
 (x a o e).stay (fun b u _ q=>k b u q) (fun _ q=>q) fun _ _ q=>q
theorem HOk.laid (x:HOk P w H h) (k:∀ b u,h.get? b=some u->h'.get? b=some u) (hp:h.objs.size<=a) (new:ObjOk P w (upd H a o) h' a o):HOk P w (upd H a o) h':=fun b u e=>by
 have hn:=x.fresh hp;by_cases hb:b=a
 ·subst hb;rw[Zab] at e;cases e;exact new
 ·rw[Zag hb] at e;exact (x b u e).stay (fun c v _ q=>k c v q) (fun c q=>by rw[Zag (Zaf q hn)];exact q) fun c xs q=>by rw[Zag (Zaf q hn)];exact q
end
def Rd (H:Hp) (a:Addr) (u:HO):Prop:=H a=some u∨∃ o,H a=some (.frz o u)
theorem Rd.ok {P:Program}{w:World}{H:Hp}{h:Heap}{a:Addr}{u:HO} (r:Rd H a u) (x:HOk P w H h):ObjOk P w H h a u:=by
 rcases r with r | ⟨o,r⟩
 ·exact x a u r
 ·obtain⟨_,q⟩:=x a _ r;exact q
def Mut:Option HO->Prop
 | some (.lst _)=>True
 | some (.dK _)=>True
 | some (.dT _)=>True
 | some (.set _ _)=>True
 | some (.ins _ _ _)=>True
 | some (.ext _)=>True
 | _=>False
section
variable {P:Program}{w:World}{H:Hp}{h h':Heap}{x e:Addr}{o':HO}
theorem HOk.write (ok:HOk P w H h) (mu:Mut (H x)) (he:e=x∨H e=some (.own x)) (k:∀ b u,b≠e->h.get? b=some u->h'.get? b=some u) (heo:∃ u,h'.get? e=some u)
  (new:ObjOk P w (upd H x o') h' x o'):HOk P w (upd H x o') h':=fun b u q=>by
 have nown:∀ c y,H c=some (.own y)->c≠x:=fun c y r z=>by subst z;rw[r] at mu;exact mu
 have ntup:∀ c xs,H c=some (.tup xs)->c≠x:=fun c xs r z=>by subst z;rw[r] at mu;exact mu
 by_cases hb:b=x
 ·subst hb;rw[Zab] at q;cases q;exact new
 ·rw[Zag hb] at q;by_cases hbe:b=e
  ·have q':H b=some (.own x):=by
    rcases he with z | z
    ·exact absurd (hbe.trans z) hb
    ·rw[hbe];exact z
   rw[q] at q';cases q';obtain⟨v,hv⟩:=heo;exact⟨v,by rw[hbe];exact hv⟩
  ·refine (ok b u q).stay (fun c v hc r=>k c v ?_ r) (fun c r=>by rw[Zag (nown c b r)];exact r) fun c xs r=>by rw[Zag (ntup c xs r)];exact r
   rcases hc with rfl | hc
   ·exact hbe
   ·rintro rfl;rcases he with z | z
    ·exact nown c b hc z
    ·rw[hc] at z;cases z;exact hb rfl
end
structure Un (fs ex:List Addr) (H H':Hp) (h h':Heap):Prop where
 keep:∀ b o,h.get? b=some o->H b=none->b ∉ fs->b ∉ ex->h'.get? b=some o
 slot:∀ b o,h.get? b=some o->H b=none->b∈fs->b ∉ ex->∃ sl,h'.get? b=some { o with slots:=sl }
 free:∀ b o,h.get? b=some o->H b=none->b ∉ ex->H' b=none
 there:∀ b o,h.get? b=some o->b ∉ ex->∃ o',h'.get? b=some o'
 tups:∀ b xs,H b=some (.tup xs)->H' b=some (.tup xs)
 frzs:∀ b o u,H b=some (.frz o u)->H' b=some (.frz o u)
 tbls:∀ b ps,H b=some (.tbl ps)->∃ more,H' b=some (.tbl (ps++more))
section
variable {fs fs' ex ex':List Addr}{H H1 H2:Hp}{h h1 h2 h':Heap}{a x e:Addr}{o:HO}
theorem Un.any (u:Un fs ex H H1 h h1) {b:Addr}{ob:Obj} (q:h.get? b=some ob) (n:H b=none) (hx:b ∉ ex):∃ sl,h1.get? b=some { ob with slots:=sl }:=by
 by_cases hb:b∈fs
 ·exact u.slot b ob q n hb hx
 ·exact⟨ob.slots,u.keep b ob q n hb hx⟩
theorem Un.kept (k:∀ b u,h.get? b=some u->h'.get? b=some u):Un fs ex H H h h' :=
 ⟨fun b ob q _ _ _=>k b ob q,fun b ob q _ _ _=>⟨ob.slots,k b ob q⟩,fun _ _ _ n _=>n,fun b ob q _=>⟨ob,k b ob q⟩,fun _ _ q=>q,fun _ _ _ q=>q,fun _ ps q=>⟨#[],by rw[q];simp⟩⟩
theorem Un.refl:Un fs ex H H h h:=Un.kept fun _ _ q=>q
theorem Un.laid (k:∀ b u,h.get? b=some u->h'.get? b=some u) (hp:h.objs.size<=a) (hn:H a=none):Un fs ex H (upd H a o) h h' where
 keep:=fun b u q _ _ _=>k b u q
 slot:=fun b u q _ _ _=>⟨u.slots,k b u q⟩
 free:=fun b u q n _=>by rw[Zag (YaU (Yaw (Yap q) hp))];exact n
 there:=fun b u q _=>⟨u,k b u q⟩
 tups:=fun b xs q=>by rw[Zag (Zaf q hn)];exact q
 frzs:=fun b u xs q=>by rw[Zag (Zaf q hn)];exact q
 tbls:=fun b ps q=>⟨#[],by rw[Zag (Zaf q hn),q];simp⟩
theorem Un.write (mu:Mut (H x)) (he:e=x∨H e=some (.own x)) (k:∀ b u,b≠e->h.get? b=some u->h'.get? b=some u) (heo:∃ u,h'.get? e=some u):Un fs ex H (upd H x o) h h':=by
 have hx:∀ b,H b=none->b≠x:=fun b n z=>by subst z;rw[n] at mu;exact mu
 have hb:∀ b,H b=none->b≠e:=fun b n z=>by
  subst z;rcases he with r | r
  ·exact hx b n r
  ·rw[n] at r;cases r
 have hm:∀ b u,H b=some u->¬ Mut (some u)->b≠x:=fun b u q nm z=>by subst z;rw[q] at mu;exact nm mu
 refine⟨fun b u q n _ _=>k b u (hb b n) q,fun b u q n _ _=>⟨u.slots,k b u (hb b n) q⟩,fun b u q n _=>by rw[Zag (hx b n)];exact n,fun b u q _=>?_,
  fun b xs q=>by rw[Zag (hm b _ q fun z=>z)];exact q,fun b u xs q=>by rw[Zag (hm b _ q fun z=>z)];exact q,fun b ps q=>⟨#[],by rw[Zag (hm b _ q fun z=>z),q];simp⟩⟩
 by_cases hbe:b=e
 ·subst hbe;exact heo
 ·exact⟨u,k b u hbe q⟩
end
def trk (h:Heap) (H:Hp):List Addr:=(YaG h.objs.size).filter fun a=>(H a).isSome
def hidT (h:Heap) (H:Hp):Heap:=PySem.W.hideAll h (trk h H)
theorem Zjj (h:Heap) (H:Hp):(hidT h H).objs.size=h.objs.size:=PySem.W.hideAll_size _ _
theorem ZkR {h:Heap}{H:Hp}{b:Addr}{o:Obj} (e:h.get? b=some o) (n:H b=none):(hidT h H).get? b=some o :=
 PySem.W.hideAll_get _ e fun hm=>by
  have q:(H b).isSome=true:=(Ycz.mp hm).2
  rw[n] at q;simp at q
theorem Zmd {h:Heap}{H:Hp}{b:Addr}{o:Obj} (e:(hidT h H).get? b=some o):h.get? b=some o/\H b=none:=by
 have e':h.get? b=some o:=PySem.W.of_hideAll (trk h H) e;refine⟨e',?_⟩
 cases q:H b with
 | none=>rfl
 | some x=>
  have hm:b∈trk h H:=Ycz.mpr ⟨Ya8.mpr (Yap e'),by simp[q]⟩;have z:(hidT h H).get? b=none:=PySem.W.hideAll_none (trk h H) hm;rw[z] at e;cases e
def ZmD (g h:Heap) (L:Addr):List (Addr × Obj):=(YaG h.objs.size).filterMap fun a=>if a=L∨(g.get? a).isSome=true then none else (h.get? a).map fun o=>(a,o)
def rest (g h:Heap) (L d:Addr):List (Addr × Obj):=(ZmD g h L).filter fun p=>decide (p.1≠d)
end L2
namespace L2
open PySem PySem.Spec PyProof.Rows
structure Mod (K:Yac) (mg:Str->Option Value) (base:Heap):Prop where
 kin:K.In base
 glob:base.Ns mainGlobals mg
 blt:∃ mb,base.Ns builtinsNs mb/\∀ x:Str,x≠"__name__"->mb x=bootBuiltins x
 nolimit:base.NoLimit
structure Cx where
 prog:Program
 w:World
 K:Yac
 mg:Str->Option Value
 base:Heap
 A:Around
 N:List Str
 s₀:Shared
 H₀:Hp
 env:Env
 outer:List Env
 stack:List Env
 ex:List Addr
 fn:Str->Bool
 calm:Bool
 pn:List (Addr × Obj)
 xe:Value->Shared->Prop
def frs (l:List Env):List Addr:=l.filterMap (·.frame)
abbrev Cx.fs (X:Cx):List Addr:=frs X.outer
def Vis (sc:Scope) (x:Str):Prop:=sc.names.lookup x=some .local ∨ sc.names.lookup x=some .cell∨sc.names.lookup x=some .free
def Loc (sc:Scope) (x:Str):Prop:=sc.names.lookup x=some .local ∨ sc.names.lookup x=some .cell
def Look (env:Env) (h:Heap) (m:Str->Option Value) (x:Str) (u:Value):Prop :=
 (env.kindOf x=some .local /\ m x=some u)∨((env.kindOf x=some .cell∨env.kindOf x=some .free)/\∃ c,env.cells.lookup x=some c/\h.IsCell c (some u))
structure Cx.Ok (X:Cx):Prop where
 mod:Mod X.K X.mg X.base
 kind:X.env.scope.kind=.function
 glob:X.env.globals=mainGlobals
 blt:X.env.builtins=builtinsNs
 above:X.s₀.heap.objs.size<=X.env.locals
 inj:∀ x y c,X.env.cells.lookup x=some c->X.env.cells.lookup y=some c->x=y
 has:∀ x,(X.env.kindOf x=some .cell∨X.env.kindOf x=some .free)->∃ c,X.env.cells.lookup x=some c
 cab:∀ x c,X.fn x=true->X.env.cells.lookup x=some c->X.s₀.heap.objs.size<=c
 hd:X.calm=true->X.A.handled=none
 frames:X.A.frames=some X.stack
 stk:X.stack=X.outer∨(X.stack=X.env::X.outer/\X.env.frame=some X.env.locals)
 exf:∀ b∈X.ex,b≠X.env.locals/\∀ x c,X.env.cells.lookup x=some c->c≠b
 bs:∀ b o,X.base.get? b=some o->X.s₀.heap.get? b=some o/\X.H₀ b=none
 bsz:X.base.objs.size<=X.s₀.heap.objs.size
 noex:∀ b o,X.base.get? b=some o->b ∉ X.ex
 exfs:∀ b∈X.ex,b ∉ X.fs
 funs:X.s₀.heap.FunFrames X.base X.outer
 frf:∀ b∈X.fs,X.H₀ b=none
structure Inv (X:Cx) (pins:List (Addr × Obj)) (σ:List (Option V)) (H:Hp) (s:Shared):Prop where
 ok:X.Ok
 os:s.os=X.s₀.os
 bare:AllBare s.gens
 base:Un X.fs X.ex X.H₀ H X.s₀.heap s.heap
 loc:∃ m,s.heap.Ns X.env.locals m/\∀ (i:Nat) (x:Str) (v:V),X.N[i]?=some x->σ[i]?=some (some v)->Vis X.env.scope x->∃ u,RelV v u/\Look X.env s.heap m x u
 cell:∀ x c,X.env.cells.lookup x=some c->∃ v,s.heap.IsCell c v
 free:H X.env.locals=none
 freeC:∀ x c,X.env.cells.lookup x=some c->H c=none
 pin:∀ p∈X.pn++pins,s.heap.get? p.1=some p.2/\H p.1=none/\p.1≠X.env.locals/\p.1 ∉ X.fs/\∀ v,p.2.data≠.cell v
 hok:HOk X.prog X.w H s.heap
 len:σ.length=X.N.length
section
variable {X:Cx}{pins:List (Addr × Obj)}{σ:List (Option V)}{H H':Hp}{s:Shared}{h':Heap}
theorem Cx.Ok.nofr (ok:X.Ok) {b:Addr}{o:Obj} (e:X.base.get? b=some o):b ∉ X.fs:=fun hb=>by
 have:=(ok.funs.mem hb).1
 rw[e] at this;cases this
theorem Inv.bs (I:Inv X pins σ H s):∀ b o,X.base.get? b=some o->s.heap.get? b=some o/\H b=none:=fun b o e=>
 ⟨I.base.keep b o (I.ok.bs b o e).1 (I.ok.bs b o e).2 (I.ok.nofr e) (I.ok.noex b o e),I.base.free b o (I.ok.bs b o e).1 (I.ok.bs b o e).2 (I.ok.noex b o e)⟩
theorem Inv.bk (I:Inv X pins σ H s):∀ b o,X.base.get? b=some o->s.heap.get? b=some o:=fun b o e=>(I.bs b o e).1
theorem Inv.mod (I:Inv X pins σ H s):Mod X.K X.mg X.base:=I.ok.mod
theorem Inv.kIn (I:Inv X pins σ H s):X.K.In s.heap:=I.ok.mod.kin.keeps I.bk
theorem Inv.lt (I:Inv X pins σ H s):X.env.locals<s.heap.objs.size:=let ⟨_,hn,_⟩:=I.loc;hn.lt
theorem Inv.sz (I:Inv X pins σ H s):X.s₀.heap.objs.size<=s.heap.objs.size:=Ybw I.ok.above (Ybs I.lt)
theorem Inv.nofs (I:Inv X pins σ H s) {a:Addr} (h:s.heap.objs.size<=a):a ∉ X.fs:=fun hb=>by
 obtain⟨_,o,ho,_⟩:=I.ok.funs.mem hb;exact absurd (Yaw (Yap ho) (Ybw I.sz h)) (Ybo _)
theorem Inv.cne (I:Inv X pins σ H s):∀ x c,X.env.cells.lookup x=some c->c≠X.env.locals:=fun x c e z=>by
 obtain⟨v,o,ho,hd⟩:=I.cell x c e;obtain⟨m,⟨o',es,ep,ho',hd',_⟩,_⟩:=I.loc;rw[z,ho'] at ho;cases ho;rw[hd'] at hd;cases hd
theorem Inv.funs (I:Inv X pins σ H s):s.heap.FunFrames X.base X.outer:=by
 have all:∀ (l:List Env),(∀ b∈frs l,b∈X.fs)->X.s₀.heap.FunFrames X.base l->s.heap.FunFrames X.base l:=by
  intro l
  induction l with
  | nil=>intro _ _;trivial
  | cons env r ih=>
   intro hs hl;obtain⟨hk,⟨L,o,hf,hn,ho,hd⟩,hr⟩:=hl;have hL:L∈X.fs:=hs L (by unfold frs;rw[Yca,hf];exact Yal);obtain⟨sl,e⟩:=I.base.slot L o ho (I.ok.frf L hL) hL fun z=>I.ok.exfs L z hL;exact⟨hk,⟨L,_,hf,hn,e,hd⟩,ih (fun b hb=>hs b (by unfold frs;rw[Yca,hf];exact Yag _ hb)) hr⟩
 exact all X.outer (fun _ hb=>hb) I.ok.funs
theorem Inv.stack (I:Inv X pins σ H s):s.heap.FunFrames X.base X.stack:=by
 rcases I.ok.stk with e | ⟨e,hf⟩
 ·rw[e];exact I.funs
 ·rw[e];obtain⟨m,hn,_⟩:=I.loc;refine .cons (by rw[I.ok.kind];decide) hf hn ?_ I.funs;exact Heap.get?_none_of_le (Ybw I.ok.bsz I.ok.above)
theorem Inv.stkSub (I:Inv X pins σ H s):∀ b∈frs X.stack,b∈X.env.locals::X.fs:=fun b hb=>by
 rcases I.ok.stk with e | ⟨e,hf⟩
 ·rw[e] at hb;exact Yag _ hb
 ·rw[e] at hb;unfold frs at hb;rw[Yca,hf] at hb;exact hb
theorem Inv.stkFree (I:Inv X pins σ H s):∀ b∈frs X.stack,H b=none:=fun b hb=>by
 rcases YaC.mp (I.stkSub b hb) with e | hb
 ·rw[e];exact I.free
 ·obtain⟨_,o,ho,_⟩:=I.ok.funs.mem hb;exact I.base.free b o ho (I.ok.frf b hb) fun z=>I.ok.exfs b z hb
theorem Inv.step {g':Array GenState}{t':Nat}{d':Drawn}{ch:List Addr} (I:Inv X pins σ H s)
  (hch:∀ b∈ch,(b∈X.ex∨X.s₀.heap.objs.size<=b)/\b≠X.env.locals/\(∀ x c,X.env.cells.lookup x=some c->c≠b)/\∀ p∈X.pn++pins,p.1≠b)
  (keep:∀ b o,b≠X.env.locals->b ∉ X.fs->b ∉ ch->s.heap.get? b=some o->H b=none->h'.get? b=some o)
  (slot:∀ b o,b≠X.env.locals->b∈X.fs->b ∉ ch->s.heap.get? b=some o->H b=none->∃ sl,h'.get? b=some { o with slots:=sl }) (free:∀ b o,b ∉ ch->s.heap.get? b=some o->H b=none->H' b=none)
  (there:∀ b o,b ∉ ch->s.heap.get? b=some o->∃ o',h'.get? b=some o')
  (tups:∀ b xs,H b=some (.tup xs)->H' b=some (.tup xs)) (frzs:∀ b o u,H b=some (.frz o u)->H' b=some (.frz o u)) (tbls:∀ b ps,H b=some (.tbl ps)->∃ more,H' b=some (.tbl (ps++more)))
  (ns:∀ m,s.heap.Ns X.env.locals m->h'.Ns X.env.locals m) (hok:HOk X.prog X.w H' h') (hg:AllBare g') :
  Inv X pins σ H' { s with heap:=h',gens:=g',drawn:=d',toks:=t' }:=by
 have neL:∀ b o,X.s₀.heap.get? b=some o->b≠X.env.locals:=fun b o e=>YaU (Yaw (Yap e) I.ok.above);have neC:∀ b o,X.s₀.heap.get? b=some o->b ∉ X.ex->b ∉ ch:=fun b o e hx hb=>by
  rcases (hch b hb).1 with z | z
  ·exact hx z
  ·exact absurd (Yaw (Yap e) z) (Ybo _)
 have cellK:∀ x c,X.env.cells.lookup x=some c->∀ v,s.heap.IsCell c v->h'.IsCell c v:=fun x c e v ⟨o,ho,hd⟩=>by
  have nch:c ∉ ch:=fun z=>(hch c z).2.2.1 x c e rfl;by_cases hc:c∈X.fs
  ·obtain⟨sl,q⟩:=slot c o (I.cne x c e) hc nch ho (I.freeC x c e);exact⟨_,q,hd⟩
  ·exact⟨o,keep c o (I.cne x c e) hc nch ho (I.freeC x c e),hd⟩
 refine⟨I.ok,I.os,hg,⟨fun b o e n hb hx=>?_,fun b o e n hb hx=>?_,fun b o e n hx=>?_,fun b o e hx=>?_,fun b xs e=>tups b xs (I.base.tups b xs e),fun b o xs e=>frzs b o xs (I.base.frzs b o xs e),fun b ps e=>?_⟩,?_,fun x c e=>?_,?_,fun x c e=>?_,fun p hp=>?_,hok,I.len⟩
 ·exact keep b o (neL b o e) hb (neC b o e hx) (I.base.keep b o e n hb hx) (I.base.free b o e n hx)
 ·obtain⟨sl,e1⟩:=I.base.slot b o e n hb hx;obtain⟨sl',e2⟩:=slot b _ (neL b o e) hb (neC b o e hx) e1 (I.base.free b o e n hx);exact⟨sl',e2⟩
 ·obtain⟨o',e1⟩:=I.base.there b o e hx;exact free b o' (neC b o e hx) e1 (I.base.free b o e n hx)
 ·obtain⟨o',e1⟩:=I.base.there b o e hx;exact there b o' (neC b o e hx) e1
 ·obtain⟨m1,e1⟩:=I.base.tbls b ps e;obtain⟨m2,e2⟩:=tbls b _ e1;exact⟨m1++m2,by rw[e2,Array.append_assoc]⟩
 ·obtain⟨m,hn,hl⟩:=I.loc;refine⟨m,ns m hn,fun i x v e1 e2 e3=>?_⟩;obtain⟨u,r,l⟩:=hl i x v e1 e2 e3;refine⟨u,r,?_⟩;rcases l with l | ⟨k,c,e,z⟩
  ·exact .inl l
  ·exact .inr ⟨k,c,e,cellK x c e _ z⟩
 ·obtain⟨v,z⟩:=I.cell x c e;exact⟨v,cellK x c e v z⟩
 ·obtain⟨m,⟨o,_,_,ho,_⟩,_⟩:=I.loc;exact free _ o (fun z=>(hch _ z).2.1 rfl) ho I.free
 ·obtain⟨v,o,ho,hd⟩:=I.cell x c e;exact free c o (fun z=>(hch c z).2.2.1 x c e rfl) ho (I.freeC x c e)
 ·obtain⟨e,n,ne,nf,d⟩:=I.pin p hp;have nch:p.1 ∉ ch:=fun z=>(hch p.1 z).2.2.2 p hp rfl;exact⟨keep p.1 p.2 ne nf nch e n,free p.1 p.2 nch e n,ne,nf,d⟩
theorem Inv.un {t':Nat} (I:Inv X pins σ H s) (u:Un X.fs [] H H' s.heap h') (hok:HOk X.prog X.w H' h'):Inv X pins σ H' { s with heap:=h',toks:=t' }:=by
 obtain⟨m,⟨o,es,ep,ho,r⟩,_⟩:=id I.loc;obtain⟨sl,hL⟩:=u.any ho I.free (by simp);exact I.step (g':=s.gens) (d':=s.drawn) (ch:=[]) (fun _ z=>nomatch z) (fun b o _ hb _ e n=>u.keep b o e n hb (by simp)) (fun b o _ hb _ e n=>u.slot b o e n hb (by simp)) (fun b o _ e n=>u.free b o e n (by simp)) (fun b o _ e=>u.there b o e (by simp)) u.tups u.frzs u.tbls (fun m' hm=>by
  obtain⟨o',es',ep',ho',r'⟩:=hm;rw[ho] at ho';cases ho';exact⟨_,es',ep',hL,r'⟩) hok I.bare
theorem Inv.call {g':Array GenState}{t':Nat}{d':Drawn}{ch:List Addr} (I:Inv X pins σ H s) (u:Un (frs X.stack) ch H H' s.heap h') (hok:HOk X.prog X.w H' h') (hg:AllBare g')
  (hch:∀ b∈ch,(b∈X.ex∨X.s₀.heap.objs.size<=b)/\b≠X.env.locals/\(∀ x c,X.env.cells.lookup x=some c->c≠b)/\∀ p∈X.pn++pins,p.1≠b) :
  Inv X pins σ H' { s with heap:=h',gens:=g',drawn:=d',toks:=t' }:=by
 obtain⟨m,⟨o,es,ep,ho,r⟩,_⟩:=id I.loc;obtain⟨sl,hL⟩:=u.any ho I.free fun z=>(hch _ z).2.1 rfl;exact I.step (ch:=ch) hch (fun b o hL hb hc e n=>u.keep b o e n (fun z=>(YaC.mp (I.stkSub b z)).elim hL hb) hc) (fun b o _ _ hc e n=>u.any e n hc) (fun b o hc e n=>u.free b o e n hc) (fun b o hc e=>u.there b o e hc) u.tups u.frzs u.tbls (fun m' hm=>by
  obtain⟨o',es',ep',ho',r'⟩:=hm;rw[ho] at ho';cases ho';exact⟨_,es',ep',hL,r'⟩) hok hg
theorem Inv.turned {t':Nat}{it:Addr} (I:Inv X pins σ H s) (k:∀ b o,b≠it->s.heap.get? b=some o->h'.get? b=some o) (hn:H it=none) (hL:it≠X.env.locals)
  (h1:it∈X.ex∨X.s₀.heap.objs.size<=it) (h2:∀ x c,X.env.cells.lookup x=some c->c≠it) (h3:∀ p∈X.pn++pins,p.1≠it):Inv X pins σ H { s with heap:=h',toks:=t' }:=by
 have nit:∀ b u,H b=some u->b≠it:=fun b u e z=>by rw[z,hn] at e;cases e
 refine I.step (g':=s.gens) (d':=s.drawn) (ch:=[it]) (fun b hb=>?_) (fun b o _ _ hc e _=>k b o (fun z=>hc (by simp[z])) e) (fun b o _ _ hc e _=>⟨o.slots,k b o (fun z=>hc (by simp[z])) e⟩) (fun _ _ _ _ n=>n)
  (fun b o hc e=>⟨o,k b o (fun z=>hc (by simp[z])) e⟩) (fun _ _ e=>e) (fun _ _ _ e=>e) (fun b ps e=>⟨#[],by rw[e];simp⟩) (fun m hm=>?_) (fun b u e=>?_) I.bare
 ·have e:b=it:=by simpa using hb
  subst e;exact⟨h1,hL,h2,h3⟩
 ·obtain⟨o,es,ep,ho,r⟩:=hm;exact⟨o,es,ep,k _ o (Ybl hL) ho,r⟩
 ·refine (I.hok b u e).stay (fun c v hc q=>k c v ?_ q) (fun _ q=>q) fun _ _ q=>q;rcases hc with z | z
  ·rw[z];exact nit b u e
  ·exact nit c _ z
theorem Inv.tok (I:Inv X pins σ H s) (t:Nat):Inv X pins σ H { s with toks:=t }:=I.un (h':=s.heap) (t':=t) Un.refl I.hok
theorem Inv.kept {t':Nat} (I:Inv X pins σ H s) (k:∀ b u,s.heap.get? b=some u->h'.get? b=some u):Inv X pins σ H { s with heap:=h',toks:=t' }:=I.un (Un.kept k) (I.hok.kept k)
theorem Inv.laid {a:Addr}{o:HO}{t':Nat} (I:Inv X pins σ H s) (k:∀ b u,s.heap.get? b=some u->h'.get? b=some u) (hp:s.heap.objs.size<=a) (new:ObjOk X.prog X.w (upd H a o) h' a o) :
  Inv X pins σ (upd H a o) { s with heap:=h',toks:=t' }:=I.un (Un.laid k hp (I.hok.fresh hp)) (I.hok.laid k hp new)
theorem Inv.write {x e:Addr}{o:HO}{t':Nat} (I:Inv X pins σ H s) (mu:Mut (H x)) (he:e=x∨H e=some (.own x)) (k:∀ b u,b≠e->s.heap.get? b=some u->h'.get? b=some u) (heo:∃ u,h'.get? e=some u)
  (new:ObjOk X.prog X.w (upd H x o) h' x o):Inv X pins σ (upd H x o) { s with heap:=h',toks:=t' }:=I.un (Un.write mu he k heo) (I.hok.write mu he k heo new)
theorem Inv.weak {σ':List (Option V)} (I:Inv X pins σ H s) (hl:σ'.length=σ.length) (w:∀ (i:Nat) v,σ'[i]?=some (some v)->σ[i]?=some (some v)):Inv X pins σ' H s :=
 ⟨I.ok,I.os,I.bare,I.base,let ⟨m,hn,hl'⟩:=I.loc;⟨m,hn,fun i x v e1 e2 e3=>hl' i x v e1 (w i v e2) e3⟩,I.cell,I.free,I.freeC,I.pin,I.hok,hl.trans I.len⟩
theorem Inv.pins_of {pins':List (Addr × Obj)} (I:Inv X pins σ H s) (h:∀ p∈pins',s.heap.get? p.1=some p.2/\H p.1=none/\p.1≠X.env.locals/\p.1 ∉ X.fs/\∀ v,p.2.data≠.cell v):Inv X pins' σ H s :=
 ⟨I.ok,I.os,I.bare,I.base,I.loc,I.cell,I.free,I.freeC,fun p hp=>(Yam.mp hp).elim (fun z=>I.pin p (YaF _ z)) (h p),I.hok,I.len⟩
theorem ZgU {N:List Str} (hN:N.Nodup) {i j:Nat}{x:Str} (a:N[i]?=some x) (b:N[j]?=some x):i=j:=by
 obtain⟨h1,e1⟩:=Yab.mp a;obtain⟨h2,e2⟩:=Yab.mp b;exact (YfD hN).mp (e1.trans e2.symm)
theorem Zdk {M:Model}{A:Around}{E:Value->Shared->Prop}{i:Nat}{x:Str}{v:V}{u:Value}{Q:Unit->Shared->Prop} (I:Inv X pins σ H s) (hN:X.N.Nodup) (hi:X.N[i]?=some x) (hx:Loc X.env.scope x) (r:RelV v u)
  (h:∀ s',Inv X pins (σ.set i (some v)) H s'->(∃ a,YdB a s.heap s'.heap/\(a=X.env.locals∨X.env.cells.lookup x=some a))->Q () s') (hf:X.fn x=true∨X.env.scope.names.lookup x=some .local:=by first | exact .inl rfl | exact .inr rfl | assumption):wpAny M A (storeName X.env x u) Q E s:=by
 obtain⟨m,hn,hl⟩:=id I.loc;have hcls:(X.env.scope.kind == .class || (X.env.scope.kind == .module && X.env.locals != X.env.globals))=false:=by rw[I.ok.kind];rfl
 have hiσ:i<σ.length:=by rw[I.len];exact (Yab.mp hi).1
 have cne:=I.cne;have tracked:∀ {a:Addr}{h':Heap},(∃ o,s.heap.get? a=some o/\H a=none)->YdB a s.heap h'->HOk X.prog X.w H h':=fun {a h'} ha hs b ob e=>by
  obtain⟨_,_,hfree⟩:=ha;refine (I.hok b ob e).stay (fun c w' hc q=>(hs.2 c ?_).trans q) (fun _ q=>q) fun _ _ q=>q;rintro rfl;rcases hc with rfl | hc
  ·rw[hfree] at e;cases e
  ·rw[hfree] at hc;cases hc
 rcases hx with hk | hk
 ·refine wpAny_storeName_local hk hn (fun h' hn' hs=>?_) hcls;obtain⟨oL,_,_,hoL,_⟩:=id hn;refine h _ ⟨I.ok,I.os,I.bare,⟨fun b o e n hb hx=>?_,fun b o e n hb hx=>?_,I.base.free,fun b o e hx=>?_,I.base.tups,I.base.frzs,I.base.tbls⟩,⟨_,hn',fun j y v' e1 e2 e3=>?_⟩,fun y c e=>?_,I.free,I.freeC,fun p hp=>?_,tracked ⟨oL,hoL,I.free⟩ hs,by simpa using I.len⟩ ⟨_,hs,.inl rfl⟩
  ·exact (hs.2 b (YaU (Yaw (Yap e) I.ok.above))).trans (I.base.keep b o e n hb hx)
  ·obtain⟨sl,e1⟩:=I.base.slot b o e n hb hx;exact⟨sl,(hs.2 b (YaU (Yaw (Yap e) I.ok.above))).trans e1⟩
  ·obtain⟨o',e1⟩:=I.base.there b o e hx;exact⟨o',(hs.2 b (YaU (Yaw (Yap e) I.ok.above))).trans e1⟩
  ·by_cases hj:j=i
   ·subst hj;rw[hi] at e1;cases e1;rw[YcL hiσ] at e2;cases e2;exact⟨u,r,.inl ⟨hk,by simp⟩⟩
   ·rw[YaZ (Ybl hj)] at e2;obtain⟨u',r',q⟩:=hl j y v' e1 e2 e3;refine⟨u',r',?_⟩;rcases q with ⟨k,e⟩ | ⟨k,c,e,z⟩
    ·refine .inl ⟨k,?_⟩;have:y≠x:=fun e=>hj (ZgU hN e1 (e ▸ hi));simp[this,e]
    ·exact .inr ⟨k,c,e,z.sameBut hs (cne y c e)⟩
  ·obtain⟨w',z⟩:=I.cell y c e;exact⟨w',z.sameBut hs (cne y c e)⟩
  ·obtain⟨e,n,ne,nf,d⟩:=I.pin p hp;exact⟨(hs.2 p.1 ne).trans e,n,ne,nf,d⟩
 ·have hfn:X.fn x=true:=by
   rcases hf with z | z
   ·exact z
   ·rw[z] at hk;cases hk
  obtain⟨c,hc⟩:=I.ok.has x (.inl hk);obtain⟨w',z⟩:=I.cell x c hc;refine wpAny_storeName_cell I.ok.kind hk hc z (fun h' hc' hs=>?_);obtain⟨oc,hoc,hocd⟩:=id z;refine h { s with heap:=h' } ⟨I.ok,I.os,I.bare,⟨fun b o e n hb hx=>?_,fun b o e n hb hx=>?_,I.base.free,fun b o e hx=>?_,I.base.tups,I.base.frzs,I.base.tbls⟩,⟨m,hn.sameBut hs (Ybl (cne x c hc)),fun j y v' e1 e2 e3=>?_⟩,fun y c' e=>?_,I.free,I.freeC,fun p hp=>?_,tracked ⟨oc,hoc,I.freeC x c hc⟩ hs,by simpa using I.len⟩ ⟨c,hs,.inr hc⟩
  ·exact (hs.2 b (YaU (Yaw (Yap e) (I.ok.cab x c hfn hc)))).trans (I.base.keep b o e n hb hx)
  ·obtain⟨sl,e1⟩:=I.base.slot b o e n hb hx;exact⟨sl,(hs.2 b (YaU (Yaw (Yap e) (I.ok.cab x c hfn hc)))).trans e1⟩
  ·obtain⟨o',e1⟩:=I.base.there b o e hx;exact⟨o',(hs.2 b (YaU (Yaw (Yap e) (I.ok.cab x c hfn hc)))).trans e1⟩
  ·by_cases hj:j=i
   ·subst hj;rw[hi] at e1;cases e1;rw[YcL hiσ] at e2;cases e2;exact⟨u,r,.inr ⟨.inl hk,c,hc,hc'⟩⟩
   ·rw[YaZ (Ybl hj)] at e2;obtain⟨u',r',q⟩:=hl j y v' e1 e2 e3;refine⟨u',r',?_⟩;rcases q with q | ⟨k,c',e,z'⟩
    ·exact .inl q
    ·refine .inr ⟨k,c',e,z'.sameBut hs ?_⟩;rintro rfl;exact hj (ZgU hN e1 (I.ok.inj _ _ _ e hc ▸ hi))
  ·by_cases hcc:c'=c
   ·subst hcc;exact⟨_,hc'⟩
   ·obtain⟨w2,z2⟩:=I.cell y c' e;exact⟨w2,z2.sameBut hs hcc⟩
  ·obtain⟨e,n,ne,nf,d⟩:=I.pin p hp;refine⟨(hs.2 p.1 ?_).trans e,n,ne,nf,d⟩;intro q;rw[q,hoc] at e;have q':oc=p.2:=YaL e;exact d w' (by rw[<- q'];exact hocd)
theorem Zer {M:Model}{A:Around}{E:Value->Shared->Prop}{i:Nat}{x:Str}{v:V}{u:Value}{Q:Unit->Shared->Prop} (I:Inv X pins σ H s) (hN:X.N.Nodup) (hi:X.N[i]?=some x) (hx:Loc X.env.scope x) (r:RelV v u)
  (h:∀ s',Inv X pins (σ.set i (some v)) H s'->Q () s') (hf:X.fn x=true∨X.env.scope.names.lookup x=some .local:=by first | exact .inl rfl | exact .inr rfl | assumption):wpAny M A (storeName X.env x u) Q E s :=
 Zdk I hN hi hx r (fun s' I' _=>h s' I') hf
theorem Inv.call' {s':Shared}{ch:List Addr} (I:Inv X pins σ H s) (ho:s'.os=s.os) (u:Un (frs X.stack) ch H H' s.heap s'.heap) (hok:HOk X.prog X.w H' s'.heap) (hg:AllBare s'.gens)
  (hch:∀ b∈ch,(b∈X.ex∨X.s₀.heap.objs.size<=b)/\b≠X.env.locals/\(∀ x c,X.env.cells.lookup x=some c->c≠b)/\∀ p∈X.pn++pins,p.1≠b):Inv X pins σ H' s':=by
 obtain⟨h',g',d',t',o'⟩:=s';have e:o'=s.os:=ho;subst e;exact I.call (g':=g') (t':=t') (d':=d') u hok hg hch
end
abbrev XK:=Value->Option Addr->Hp->Prop
abbrev St:=List (Option V)
abbrev VK:=V->Hp->Prop
abbrev TE:=St->Hp->VK->Prop
abbrev TT:=St->Hp->(Bool->Hp->Prop)->Prop
abbrev TA:=St->Hp->(List V->Hp->Prop)->Prop
structure Ends where
 nx:St->Hp->Prop
 rt:VK
 bk:St->Hp->Prop:=fun _ _=>False
 ct:St->Hp->Prop:=fun _ _=>False
abbrev TS:=Ends->St->Hp->Prop
def EP (X:Cx) (pins:List (Addr × Obj)) (σ:St) (Q:VK) (u:Value) (s':Shared):Prop:=∃ v H',Inv X pins σ H' s'/\RelV v u/\Q v H'
def TP (X:Cx) (pins:List (Addr × Obj)) (σ:St) (Q:Bool->Hp->Prop) (b:Bool) (s':Shared):Prop:=∃ H',Inv X pins σ H' s'/\Q b H'
def AP (X:Cx) (pins:List (Addr × Obj)) (σ:St) (Q:List V->Hp->Prop) (us:List Value) (s':Shared):Prop:=∃ vs H',Inv X pins σ H' s'/\Vals vs us/\Q vs H'
def SP (X:Cx) (pins:List (Addr × Obj)) (D:Ends) (f:Flow) (s':Shared):Prop :=
 match f with
 | .next=>∃ σ' H',Inv X pins σ' H' s'/\D.nx σ' H'
 | .brk=>∃ σ' H',Inv X pins σ' H' s'/\D.bk σ' H'
 | .cont=>∃ σ' H',Inv X pins σ' H' s'/\D.ct σ' H'
 | .ret u=>∃ v σ' H',Inv X pins σ' H' s'/\RelV v u/\D.rt v H'
def PE (X:Cx) (e:Expr) (t:TE):Prop :=
 ∀ (pins:List (Addr × Obj)) (s:Shared) (σ:St) (H:Hp) (Q:VK),Inv X pins σ H s->t σ H Q->wpAny (model X.prog X.w) X.A (eval e X.env) (EP X pins σ Q) X.xe s
def PT (X:Cx) (e:Expr) (t:TT):Prop :=
 ∀ (pins:List (Addr × Obj)) (s:Shared) (σ:St) (H:Hp) (Q:Bool->Hp->Prop),Inv X pins σ H s->t σ H Q->wpAny (model X.prog X.w) X.A (isTrue e X.env (eval e X.env)) (TP X pins σ Q) X.xe s
def PW (X:Cx) (e:Expr) (t:TT):Prop :=
 ∀ (whole:Sem Value) (pins:List (Addr × Obj)) (s:Shared) (σ:St) (H:Hp) (Q:Bool->Hp->Prop),Inv X pins σ H s->t σ H Q->wpAny (model X.prog X.w) X.A (isTrue e X.env whole) (TP X pins σ Q) X.xe s
theorem PW.pt {X:Cx}{e:Expr}{t:TT} (h:PW X e t):PT X e t:=h _
def PA (X:Cx) (es:List Expr) (t:TA):Prop :=
 ∀ (pos:Pos) (pins:List (Addr × Obj)) (s:Shared) (σ:St) (H:Hp) (Q:List V->Hp->Prop),Inv X pins σ H s->t σ H Q->wpAny (model X.prog X.w) X.A (spliced (backTo pos (starEach es X.env))) (AP X pins σ Q) X.xe s
def PS (X:Cx) (st:Stmt) (t:TS):Prop :=
 ∀ (pins:List (Addr × Obj)) (s:Shared) (σ:St) (H:Hp) (D:Ends),Inv X pins σ H s->t D σ H->wpAny (model X.prog X.w) X.A (exec st X.env) (SP X pins D) X.xe s
def PSs (X:Cx) (st:List Stmt) (t:TS):Prop :=
 ∀ (pins:List (Addr × Obj)) (s:Shared) (σ:St) (H:Hp) (D:Ends),Inv X pins σ H s->t D σ H->wpAny (model X.prog X.w) X.A (execs st X.env) (SP X pins D) X.xe s
theorem thn {α:Type}{t:Sem α}{Q Q':α->Shared->Prop}{M:Model}{A:Around}{E:Value->Shared->Prop}{s:Shared} (h:wpAny M A t Q E s) (hQ:∀ a s,Q a s->Q' a s):wpAny M A t Q' E s:=wpAny_mono h hQ fun _ _ x=>x
end L2
namespace L2
open PySem PySem.Spec PyProof.Rows
section
variable {X:Cx}
def tVar (i:Nat):TE:=fun σ H Q=>∃ v,σ[i]?=some (some v)/\Q v H
def tC (v:V):TE:=fun _ H Q=>Q v H
theorem Zlj {i:Nat}{x:Str}{pos:Pos} (hN:X.N[i]?=some x) (hv:Vis X.env.scope x) (hd:(x == ("__debug__":Str))=false:=by decide) (hcd:(x == ("__classdict__":Str))=false:=by decide):PE X (.Name x pos) (tVar i):=by
 intro pins s σ H Q I h;obtain⟨v,e,h⟩:=h;obtain⟨m,hn,hl⟩:=I.loc;obtain⟨u,r,l⟩:=hl i x v hN e hv;have fin:EP X pins σ Q u s:=⟨v,H,I,r,h⟩
 rcases l with ⟨hk,hm⟩ | ⟨hk,c,hc,hcell⟩
 ·exact wpAny_Name (wpAny_loadName_local I.ok.kind hk hn hm fin) hd
 ·rcases hk with hk | hk
  ·exact wpAny_Name (wpAny_loadName_cell I.ok.kind hk hc hcell fin) hd
  ·exact wpAny_Name (wpAny_loadName_free I.ok.kind hk hc hcell fin hcd) hd
theorem Zae {i j pos}:PE X (.Constant (.int i) j pos) (tC (.int i)):=fun _ _ _ H _ I h=>wpAny_Constant_int ⟨.int i,H,I.tok _,⟨_,rfl⟩,h⟩
theorem ZnX {b j pos}:PE X (.Constant (.bool b) j pos) (tC (.bl b)):=fun _ _ _ H _ I h=>Constant_bool ⟨.bl b,H,I,rfl,h⟩
theorem ZgN {j pos}:PE X (.Constant .none j pos) (tC .non):=fun _ _ _ H _ I h=>Constant_none ⟨.non,H,I,rfl,h⟩
def Gl (X:Cx) (x:Str):Prop:=X.env.kindOf x=some .globalImplicit
theorem Zi5 {E:Value->Shared->Prop}{pins:List (Addr × Obj)}{s:Shared}{σ:St}{H:Hp}{x:Str}{u:Value}{pos:Pos}{Q:Value->Shared->Prop} (I:Inv X pins σ H s) (hg:Gl X x) (hm:X.mg x=some u) (h:Q u s)
  (hd:(x == ("__debug__":Str))=false:=by decide):wpAny (model X.prog X.w) X.A (eval (.Name x pos) X.env) Q E s :=
 Yes I.ok.kind hg (Calls.loadGlobal_global (by rw[I.ok.glob];exact I.mod.glob.keeps I.bk) hm h) hd
theorem Zcs {E:Value->Shared->Prop}{pins:List (Addr × Obj)}{s:Shared}{σ:St}{H:Hp}{x:Str}{u:Value}{pos:Pos}{Q:Value->Shared->Prop} (I:Inv X pins σ H s) (hg:Gl X x) (hm:X.mg x=none) (hv:bootBuiltins x=some u) (h:Q u s)
  (hn:x≠"__name__":=by decide) (hd:(x == ("__debug__":Str))=false:=by decide):wpAny (model X.prog X.w) X.A (eval (.Name x pos) X.env) Q E s:=by
 obtain⟨mb,h1,h2⟩:=I.mod.blt;exact Yes I.ok.kind hg (Calls.loadGlobal_builtin (by rw[I.ok.glob];exact I.mod.glob.keeps I.bk) hm (by rw[I.ok.blt];exact h1.keeps I.bk) ((h2 x hn).trans hv) h) hd
theorem Ziz {x:Str}{v:V}{u:Value}{pos:Pos} (hg:Gl X x) (hm:X.mg x=some u) (r:RelV v u) (hd:(x == ("__debug__":Str))=false:=by decide):PE X (.Name x pos) (tC v) :=
 fun _ _ _ H _ I h=>Zi5 I hg hm ⟨v,H,I,r,h⟩ hd
theorem ZlY {x:Str}{v:V}{u:Value}{pos:Pos} (hg:Gl X x) (hm:X.mg x=none) (hv:bootBuiltins x=some u) (r:RelV v u) (hn:x≠"__name__":=by decide) (hd:(x == ("__debug__":Str))=false:=by decide):PE X (.Name x pos) (tC v) :=
 fun _ _ _ H _ I h=>Zcs I hg hm hv ⟨v,H,I,r,h⟩ hn hd
variable {a b:Expr}{ta tb:TE}{pos:Pos}
def PC (X:Cx) (op:CmpOp) (a b:Expr) (t:TE):Prop :=
 ∀ (pins:List (Addr × Obj)) (s:Shared) (σ:St) (H:Hp) (Q:VK),Inv X pins σ H s->t σ H Q ->
  wpAny (model X.prog X.w) X.A (eval a X.env) (fun v s₁=>wpAny (model X.prog X.w) X.A (eval b X.env) (fun u s₂=>wpAny (model X.prog X.w) X.A (compareOp op v u) (EP X pins σ Q) X.xe s₂) X.xe s₁) X.xe s
theorem ZkG (b:Expr) {op:CmpOp} (h:op≠.In) (h2:op≠.NotIn):behindInMarks op b=false:=by
 have e1:(op == CmpOp.In)=false:=by cases op <;> first | rfl | exact absurd rfl h
 have e2:(op == CmpOp.NotIn)=false:=by cases op <;> first | rfl | exact absurd rfl h2
 cases b <;> simp[behindInMarks,e1,e2]
def tIsN (ta:TE):TE:=fun σ H Q=>ta σ H fun x H1=>Q (.bl (decide (x=.non))) H1
theorem RelV.none_iff {x:V}{v:Value} (r:RelV x v):(v == YbU)=decide (x=.non):=by
 cases x with
 | non=>cases r;rfl
 | bl _=>cases r;rfl
 | int _=>obtain⟨t,rfl⟩:=r;rfl
 | str _=>obtain⟨t,rfl⟩:=r;rfl
 | byt _=>obtain⟨t,rfl⟩:=r;rfl
 | flt _=>obtain⟨t,rfl⟩:=r;rfl
 | ref _=>cases r;rfl
 | ty _=>cases r;rfl
theorem Zll {j pos'} (ha:PE X a ta):PC X .Is a (.Constant .none j pos') (tIsN ta):=by
 intro pins s σ H Q I h;refine thn (ha pins s σ H _ I h) fun v s1 ⟨x,H1,I1,r1,q1⟩=>?_;exact Constant_none (is_none_gen ⟨.bl _,H1,I1,by rw[r1.none_iff];rfl,q1⟩)
def tB (t:TE):TT:=fun σ H Q=>t σ H fun x H1=>∃ c,x=.bl c/\Q c H1
theorem Zlf {op:CmpOp}{t:TE} (h:PC X op a b t) (h1:behindInMarks op b=false:=by first | exact ZkG _ (by decide) (by decide) | rfl):PT X (.Compare a [op] [b] pos) (tB t):=by
 intro pins s σ H Q I hw;refine wpAny_isTrue_Compare1 (thn (h pins s σ H _ I hw) fun v s1 h1=>thn h1 fun u s2 h2=>thn h2 fun c s3 ⟨x,H1,I1,r1,q1⟩=>?_) h1;obtain⟨d,rfl,q⟩:=q1;cases r1;exact wpAny_truthy_bool ⟨H1,I1,q⟩
theorem Zd9 {e:Expr}{t:TE} (h:PE X e t) (he:∀ whole,isTrue e X.env whole=(do let v <- whole;standAt e.pos;holding [v] (truthy v)):=by intro _;rfl):PT X e (tB t):=by
 intro pins s σ H Q I hw;refine isTrue_plain (thn (h pins s σ H _ I hw) fun v s1 ⟨x,H1,I1,r1,q1⟩=>?_) (he _);obtain⟨d,rfl,q⟩:=q1;cases r1;exact wpAny_truthy_bool ⟨H1,I1,q⟩
variable {tA tB':TT}{rest:List Expr}
def tOr (t u:TT):TT:=fun σ H Q=>t σ H fun c H1=>if c=true then Q true H1 else u σ H1 Q
def tNot (t:TT):TT:=fun σ H Q=>t σ H fun c H1=>Q (!c) H1
theorem ZgI (ha:PT X a tA):PW X (.BoolOp .Or [a] pos) tA:=by
 intro wh pins s σ H Q I h;refine isTrue_or (thn (ha pins s σ H Q I h) fun c s1 e=>?_)
 cases c with
 | false=>exact isTrue_or_nil e
 | true=>exact e
theorem Zkd (ha:PT X a tA) (hb:PW X (.BoolOp .Or (b::rest) pos) tB'):PW X (.BoolOp .Or (a::b::rest) pos) (tOr tA tB'):=by
 intro wh pins s σ H Q I h;refine isTrue_or (thn (ha pins s σ H _ I h) fun c s1 ⟨H1,I1,q1⟩=>?_)
 cases c with
 | true=>exact⟨H1,I1,q1⟩
 | false=>exact hb wh pins s1 σ H1 Q I1 q1
theorem Zea (ha:PT X a tA):PT X (.UnaryOp .Not a pos) (tNot tA):=by
 intro pins s σ H Q I h;exact isTrue_not (ha pins s σ H (fun c H1=>Q (!c) H1) I h)
def ZnL (ta tb:TE):TE:=fun σ H Q=>ta σ H fun x H1=>∃ c,x=.bl c/\if c=true then tb σ H1 Q else Q (.bl false) H1
def ZnI (ta:TE):TE:=fun σ H Q=>ta σ H fun x H1=>∃ c,x=.bl c/\Q (.bl (!c)) H1
theorem Ziy {op}{t:TE} (h:PE X a t):PE X (.BoolOp op [a] pos) t:=fun pins s σ H Q I hw=>BoolOp_one (h pins s σ H Q I hw)
theorem ZgP (ha:PE X a ta) (hb:PE X (.BoolOp .And (b::rest) pos) tb):PE X (.BoolOp .And (a::b::rest) pos) (ZnL ta tb):=by
 intro pins s σ H Q I h;refine BoolOp_and (thn (ha pins s σ H _ I h) fun v s1 ⟨x,H1,I1,r1,q1⟩=>?_);obtain⟨c,rfl,q1⟩:=q1;cases r1;refine wpAny_truthy_bool ?_
 cases c with
 | true=>exact hb pins s1 σ H1 Q I1 q1
 | false=>exact⟨.bl false,H1,I1,rfl,q1⟩
theorem Zm3 (ha:PE X a ta):PE X (.UnaryOp .Not a pos) (ZnI ta):=by
 intro pins s σ H Q I h;refine UnaryOp_ (thn (ha pins s σ H _ I h) fun v s1 ⟨x,H1,I1,r1,q1⟩=>?_);obtain⟨c,rfl,q1⟩:=q1;cases r1;exact not_of (wpAny_truthy_bool ⟨.bl (!c),H1,I1,rfl,q1⟩)
def tIf (t:TT) (ta tb:TE):TE:=fun σ H Q=>t σ H fun c H1=>if c=true then ta σ H1 Q else tb σ H1 Q
theorem ZeK {c:Expr} (hc:PT X c tA) (ha:PE X a ta) (hb:PE X b tb):PE X (.IfExp c a b pos) (tIf tA ta tb):=by
 intro pins s σ H Q I h;refine wpAny_IfExp (thn (hc pins s σ H _ I h) fun d s1 ⟨H1,I1,q1⟩=>?_)
 cases d with
 | true=>exact ha pins s1 σ H1 Q I1 q1
 | false=>exact hb pins s1 σ H1 Q I1 q1
end
end L2
namespace L2
open PySem PySem.Spec PyProof.Rows
def SqL (K:Yac) (H:Hp) (a:Addr) (xs:List V):Prop :=
 Rd H a (.lst xs) ∨
  ∃ (o:Obj) (its:Array Value) (n:Nat),K.lookup a=some o/\o.cls=.type "list"/\o.dict=none/\o.data=.seq its n/\its.size<=sizeLine/\Vals xs its.toList
def SqT (K:Yac) (H:Hp) (a:Addr) (xs:List V):Prop :=
 Rd H a (.tup xs) ∨
  ∃ (o:Obj) (its:Array Value) (n:Nat),K.lookup a=some o/\o.cls=.type "tuple"/\o.data=.seq its n/\its.size<=sizeLine/\Vals xs its.toList
def absV:Value->Option V
 | .none=>some .non
 | .bool b=>some (.bl b)
 | .int i _=>some (.int i)
 | .str x _=>some (.str x)
 | .bytes b _=>some (.byt b)
 | .float b _=>some (.flt b)
 | .ref a=>some (.ref a)
 | .type n=>some (.ty n)
 | _=>none
theorem RelV.abs {x:V}{u:Value} (r:RelV x u):absV u=some x:=by
 cases x with
 | non=>cases r;rfl
 | bl _=>cases r;rfl
 | int _=>obtain⟨t,rfl⟩:=r;rfl
 | str _=>obtain⟨t,rfl⟩:=r;rfl
 | byt _=>obtain⟨t,rfl⟩:=r;rfl
 | flt _=>obtain⟨t,rfl⟩:=r;rfl
 | ref _=>cases r;rfl
 | ty _=>cases r;rfl
theorem RelV.inj {x y:V}{u:Value} (r:RelV x u) (q:RelV y u):x=y:=YaL (r.abs.symm.trans q.abs)
theorem Vals.inj:∀ {xs ys:List V}{us:List Value},Vals xs us->Vals ys us->xs=ys
 | _,_,_,.nil,.nil=>rfl
 | _,_,_,.cons r t,.cons r' t'=>by rw[r.inj r',Vals.inj t t']
section
variable {X:Cx}{pins:List (Addr × Obj)}{σ:St}{H:Hp}{s:Shared}{a:Addr}{xs ys:List V}
theorem SqL.of {K:Yac} (h:H a=some (.lst xs)):SqL K H a xs:=.inl (.inl h)
theorem SqT.of {K:Yac} (h:H a=some (.tup xs)):SqT K H a xs:=.inl (.inl h)
theorem Inv.list (I:Inv X pins σ H s) (h:SqL X.K H a xs):∃ its:List Value,Vals xs its/\PlainL s.heap a its.toArray/\xs.length<=sizeLine:=by
 rcases h with h | ⟨o,its,n,hk,hc,hd,hs,hz,r⟩
 ·obtain⟨z,its,n,r,e⟩:=h.ok I.hok;exact⟨its,r,⟨_,n,e,rfl,rfl,rfl⟩,z⟩
 ·refine⟨its.toList,r,⟨o,n,I.kIn a o hk,hc,hd,by simpa using hs⟩,?_⟩;have e:=r.length;simp only[Ya4] at e;omega
theorem Inv.tuple (I:Inv X pins σ H s) (h:SqT X.K H a xs):∃ its:List Value,Vals xs its/\IsTup s.heap a its.toArray/\xs.length<=sizeLine:=by
 rcases h with h | ⟨o,its,n,hk,hc,hs,hz,r⟩
 ·obtain⟨z,its,r,p⟩:=h.ok I.hok;exact⟨its,r,p.tup,z⟩
 ·refine⟨its.toList,r,⟨o,I.kIn a o hk,hc,n,by simpa using hs⟩,?_⟩;have e:=r.length;simp only[Ya4] at e;omega
theorem Inv.list_inj (I:Inv X pins σ H s) (h:SqL X.K H a xs) (h':SqL X.K H a ys):xs=ys:=by
 obtain⟨its,r,⟨o,n,e,_,_,d⟩,_⟩:=I.list h;obtain⟨its',r',⟨o',n',e',_,_,d'⟩,_⟩:=I.list h';rw[e] at e';cases e';rw[d] at d';injection d' with d1 _;have:its=its':=by simpa using congrArg Array.toList d1
 subst this;exact r.inj r'
theorem Inv.tuple_inj (I:Inv X pins σ H s) (h:SqT X.K H a xs) (h':SqT X.K H a ys):xs=ys:=by
 obtain⟨its,r,⟨o,e,_,n,d⟩,_⟩:=I.tuple h;obtain⟨its',r',⟨o',e',_,n',d'⟩,_⟩:=I.tuple h';rw[e] at e';cases e';rw[d] at d';injection d' with d1 _;have:its=its':=by simpa using congrArg Array.toList d1
 subst this;exact r.inj r'
end
abbrev Cx.wish (X:Cx) (E:Value->Shared->Prop):Cx:={ X with xe:=E }
abbrev Cx.nox (X:Cx):Cx:=X.wish fun _ _=>False
theorem Cx.Ok.wish {X:Cx} (ok:X.Ok) (E:Value->Shared->Prop):(X.wish E).Ok :=
 ⟨ok.mod,ok.kind,ok.glob,ok.blt,ok.above,ok.inj,ok.has,ok.cab,ok.hd,ok.frames,ok.stk,ok.exf,ok.bs,ok.bsz,ok.noex,ok.exfs,ok.funs,ok.frf⟩
theorem Cx.Ok.unwish {X:Cx}{E:Value->Shared->Prop} (ok:(X.wish E).Ok):X.Ok :=
 ⟨ok.mod,ok.kind,ok.glob,ok.blt,ok.above,ok.inj,ok.has,ok.cab,ok.hd,ok.frames,ok.stk,ok.exf,ok.bs,ok.bsz,ok.noex,ok.exfs,ok.funs,ok.frf⟩
section
variable {X:Cx}{pins:List (Addr × Obj)}{σ:St}{H:Hp}{s:Shared}{E:Value->Shared->Prop}
theorem Inv.wish (I:Inv X pins σ H s) (E:Value->Shared->Prop):Inv (X.wish E) pins σ H s:=⟨I.ok.wish E,I.os,I.bare,I.base,I.loc,I.cell,I.free,I.freeC,I.pin,I.hok,I.len⟩
theorem Inv.unwish (I:Inv (X.wish E) pins σ H s):Inv X pins σ H s:=⟨I.ok.unwish,I.os,I.bare,I.base,I.loc,I.cell,I.free,I.freeC,I.pin,I.hok,I.len⟩
theorem SP.unwish {D:Ends}{f:Flow}{s':Shared} (h:SP (X.wish E) pins D f s'):SP X pins D f s':=by
 cases f with
 | next=>obtain⟨σ',H',I,q⟩:=h;exact⟨σ',H',I.unwish,q⟩
 | brk=>obtain⟨σ',H',I,q⟩:=h;exact⟨σ',H',I.unwish,q⟩
 | cont=>obtain⟨σ',H',I,q⟩:=h;exact⟨σ',H',I.unwish,q⟩
 | ret u=>obtain⟨v,σ',H',I,r,q⟩:=h;exact⟨v,σ',H',I.unwish,r,q⟩
theorem PSs.nox {st:List Stmt}{t:TS} (h:PSs X.nox st t):PSs X st t:=fun pins s σ H D I hw=>
 wpAny_mono (h pins s σ H D (I.wish _) hw) (fun _ _ q=>q.unwish) fun _ _ z=>Ycx z
end
section
variable {X:Cx}{st:Stmt}{rest:List Stmt}{t u:TS}{e:Expr}{te:TE}{pos:Pos}
def ZmL:TS:=fun D σ H=>D.nx σ H
def tSeq (t u:TS):TS:=fun D σ H=>t { D with nx:=u D } σ H
theorem ZbC:PSs X [] ZmL:=fun _ _ σ H _ I h=>wpAny_execs_nil ⟨σ,H,I,h⟩
theorem Zai (h1:PS X st t) (h2:PSs X rest u):PSs X (st::rest) (tSeq t u):=by
 intro pins s σ H D I h;refine wpAny_execs_cons (thn (h1 pins s σ H { D with nx:=u D } I h) fun f s1 q=>?_)
 cases f with
 | next=>
  obtain⟨σ',H',I',q⟩:=q;exact h2 pins s1 σ' H' D I' q
 | ret v=>exact q
 | brk=>exact q
 | cont=>exact q
theorem Zan (h1:PS X st t):PSs X [st] t:=by
 intro pins s σ H D I h;refine wpAny_execs_cons (thn (h1 pins s σ H D I h) fun f s1 q=>?_)
 cases f with
 | next=>exact wpAny_execs_nil q
 | ret v=>exact q
 | brk=>exact q
 | cont=>exact q
theorem Inv.quiet {pins:List (Addr × Obj)}{σ:St}{H:Hp}{s:Shared} (I:Inv X pins σ H s):interactive X.env=false:=by simp[interactive,I.ok.kind]
def ZnJ (te:TE):TS:=fun D σ H=>te σ H fun _ H1=>D.nx σ H1
theorem ZaD (he:PE X e te) (hs:swapsWith e none pos.line X.env=pure false:=by rfl):PS X (.Expr e pos) (ZnJ te):=by
 intro pins s σ H D I h;exact wpAny_Expr_any (thn (he pins s σ H _ I h) fun v s1 ⟨x,H1,I1,r1,q1⟩=>⟨σ,H1,I1,q1⟩) I.quiet hs
def tRet (te:TE):TS:=fun D σ H=>te σ H D.rt
theorem Zav (he:PE X e te):PS X (.Return (some e) pos) (tRet te):=by
 intro pins s σ H D I h;exact wpAny_Return_some (thn (he pins s σ H _ I h) fun v s1 ⟨x,H1,I1,r1,q1⟩=>⟨x,σ,H1,I1,r1,q1⟩)
def tIfS (c:TT) (t u:TS):TS:=fun D σ H=>c σ H fun b H1=>if b=true then t D σ H1 else u D σ H1
theorem Zfj {c:Expr}{a b:List Stmt}{tc:TT} (hc:PT X c tc) (ha:PSs X a t) (hb:PSs X b u):PS X (.If c a b pos) (tIfS tc t u):=by
 intro pins s σ H D I h;refine wpAny_If (thn (hc pins s σ H _ I h) fun d s1 ⟨H1,I1,q1⟩=>?_)
 cases d with
 | true=>exact ha pins s1 σ H1 D I1 q1
 | false=>exact hb pins s1 σ H1 D I1 q1
def ZmM:TS:=fun _ _ _=>False
theorem ZaY {sts:List Stmt}:PSs X sts ZmM:=fun _ _ _ _ _ _ h=>h.elim
end
abbrev TG:=V->St->Hp->(St->Hp->Prop)->Prop
abbrev TGs:=List V->St->Hp->(St->Hp->Prop)->Prop
def PG (X:Cx) (target:Expr) (t:TG):Prop :=
 ∀ (pins:List (Addr × Obj)) (s:Shared) (σ:St) (H:Hp) (v:V) (u:Value) (Q:St->Hp->Prop),Inv X pins σ H s->RelV v u->t v σ H Q ->
  wpAny (model X.prog X.w) X.A (assign target X.env u) (fun _ s'=>∃ σ' H',Inv X pins σ' H' s'/\Q σ' H') X.xe s
def PGs (X:Cx) (ts:List Expr) (t:TGs):Prop :=
 ∀ (pins:List (Addr × Obj)) (s:Shared) (σ:St) (H:Hp) (vs:List V) (us:List Value) (Q:St->Hp->Prop),Inv X pins σ H s->Vals vs us->t vs σ H Q ->
  wpAny (model X.prog X.w) X.A (assignInOrder ((assignEach ts X.env).map (·.2)) us) (fun _ s'=>∃ σ' H',Inv X pins σ' H' s'/\Q σ' H') X.xe s
abbrev TSet:=V->V->V->Hp->(Hp->Prop)->Prop
def PSet (X:Cx) (t:TSet):Prop :=
 ∀ (pins:List (Addr × Obj)) (s:Shared) (σ:St) (H:Hp) (o i v:V) (ov iv u:Value) (Q:Hp->Prop),Inv X pins σ H s->RelV o ov->RelV i iv->RelV v u->t o i v H Q ->
  wpAny (model X.prog X.w) X.A (setItem ov iv u) (fun _ s'=>∃ H',Inv X pins σ H' s'/\Q H') X.xe s
abbrev TIp:=V->V->Hp->VK->Prop
def PIp (X:Cx) (op:Operator) (t:TIp):Prop :=
 ∀ (pins:List (Addr × Obj)) (s:Shared) (σ:St) (H:Hp) (x y:V) (v u:Value) (Q:VK),Inv X pins σ H s->RelV x v->RelV y u->t x y H Q ->
  wpAny (model X.prog X.w) X.A (inplaceOp op v u) (EP X pins σ Q) X.xe s
section
variable {X:Cx}{pos:Pos}
def ZbH (i:Nat):TG:=fun v σ H Q=>Q (σ.set i (some v)) H
theorem Zaj {i:Nat}{x:Str} (hN:X.N.Nodup) (hi:X.N[i]?=some x) (hx:Loc X.env.scope x) (hf:X.fn x=true∨X.env.scope.names.lookup x=some .local:=by first | exact .inl rfl | exact .inr rfl | assumption):PG X (.Name x pos) (ZbH i):=by
 intro pins s σ H v u Q I r h;exact wpAny_assign_Name (Zer I hN hi hx r (fun s' I'=>⟨_,H,I',h⟩) hf)
def gNil:TGs:=fun vs σ H Q=>vs=[]/\Q σ H
def ZdC (t:TG) (u:TGs):TGs:=fun vs σ H Q=>∃ v r,vs=v::r/\t v σ H fun σ' H'=>u r σ' H' Q
theorem ZaO:PGs X [] gNil:=by
 intro pins s σ H vs us Q I r h;obtain⟨e,h⟩:=h;subst e;cases r;exact assignInOrder_nil ⟨σ,H,I,h⟩
theorem Zar {e:Expr}{es:List Expr}{t:TG}{u:TGs} (h1:PG X e t) (h2:PGs X es u)
  (hs:(assignEach (e::es) X.env).map (·.2)=assign e X.env::(assignEach es X.env).map (·.2):=by rfl):PGs X (e::es) (ZdC t u):=by
 intro pins s σ H vs us Q I r h;obtain⟨v,vr,e1,h⟩:=h;subst e1
 cases r with
 | cons r rr=>
  rw[hs];refine assignInOrder_cons (thn (h1 pins s σ H _ _ _ I r h) fun _ s1 ⟨σ1,H1,I1,q1⟩=>?_);exact h2 pins s1 σ1 H1 _ _ Q I1 rr q1
def gTup (K:Yac) (n:Nat) (t:TGs):TG:=fun v σ H Q=>∃ a xs,v=.ref a/\SqT K H a xs/\xs.length=n/\t xs σ H Q
theorem Zdt {es:List Expr}{k:Nat}{t:TGs}{n:Nat} (hc:X.calm=true) (h:PGs X es t)
  (hn:(assignEach es X.env).length=n:=by rfl) (hst:(assignEach es X.env).findIdx? (·.1)=none:=by rfl):PG X (.Tuple es k pos) (gTup X.K n t):=by
 intro pins s σ H v u Q I r hw;obtain⟨a,xs,e1,hq,hl,hw⟩:=hw;subst e1;cases r;obtain⟨its,rv,ht,hz⟩:=I.tuple hq;refine assign_Tuple_tuple (I.ok.hd hc) ht (by simp[hn,<- hl,rv.length]) hst fun h' hx=>?_;have I1:Inv X pins σ H { s with heap:=h' }:=I.kept (t':=s.toks) fun b o e=>hx b o (YaU (Yap e)) e;exact h pins _ σ H xs _ Q I1 (by simpa using rv) hw
def gSub (to ti:TE) (t:TSet):TG:=fun v σ H Q=>to σ H fun o H1=>ti σ H1 fun i H2=>t o i v H2 fun H3=>Q σ H3
theorem ZgM {o i:Expr}{to ti:TE}{t:TSet} (ho:PE X o to) (hi:PE X i ti) (hs:PSet X t)
  (ha:∀ v,assign (.Subscript o i pos) X.env v=(do
   let ov <- holding [v] (eval o X.env)
   let iv <- holding [v,ov] (eval i X.env)
   standAt pos
   holding [v,ov,iv] (setItem ov iv v)
   release [v,ov,iv] []):=by intro _;rfl):PG X (.Subscript o i pos) (gSub to ti t):=by
 intro pins s σ H v u Q I r h;rw[ha];refine wpAny_bind (wpAny_holding (thn (ho pins s σ H _ I h) fun ov s1 ⟨x,H1,I1,r1,q1⟩=>?_));refine wpAny_bind (wpAny_holding (thn (hi pins s1 σ H1 _ I1 q1) fun iv s2 ⟨y,H2,I2,r2,q2⟩=>?_));refine wpAny_bind (wpAny_standAt (wpAny_bind (wpAny_holding (thn (hs pins s2 σ H2 x y v ov iv u _ I2 r1 r2 r q2) fun _ s3 ⟨H3,I3,q3⟩=>?_))));exact wpAny_release ⟨σ,H3,I3,q3⟩
def tAsg (te:TE) (g:TG):TS:=fun D σ H=>te σ H fun x H1=>g x σ H1 D.nx
theorem Zeb {tg e:Expr}{te:TE}{g:TG} (he:PE X e te) (hg:PG X tg g) (hs:swapsWithSole [tg] e pos.line X.env=pure false:=by rfl) (hw:swappedStores [tg] e X.env=pure none:=by rfl)
  (h1:(assignEach [tg] X.env).map (·.2)=[assign tg X.env]:=by rfl):PS X (.Assign [tg] e pos) (tAsg te g):=by
 intro pins s σ H D I h;refine wpAny_Assign_stores (thn (he pins s σ H _ I h) fun v s1 ⟨x,H1,I1,r1,q1⟩=>?_) hs hw;rw[h1];exact thn (hg pins s1 σ H1 x v _ I1 r1 q1) fun _ s2 q=>q
theorem Zaq {i:Nat}{x:Str}{e:Expr}{te:TE}{pos':Pos} (hN:X.N.Nodup) (hi:X.N[i]?=some x) (hx:Loc X.env.scope x) (he:PE X e te) (hs:swapsWith e (some (.Name x pos')) pos.line X.env=pure false:=by rfl) (hf:X.fn x=true∨X.env.scope.names.lookup x=some .local:=by first | exact .inl rfl | exact .inr rfl | assumption) :
  PS X (.Assign [.Name x pos'] e pos) (tAsg te (ZbH i)):=by
 intro pins s σ H D I h;refine wpAny_Assign_Name (thn (he pins s σ H _ I h) fun v s1 ⟨y,H1,I1,r1,q1⟩=>?_) hs;exact Zer I1 hN hi hx r1 (fun s2 I2=>⟨_,H1,I2,q1⟩) hf
def tAug (i:Nat) (te:TE) (ti:TIp):TS:=fun D σ H=>∃ x,σ[i]?=some (some x)/\te σ H fun y H1=>ti x y H1 fun z H2=>D.nx (σ.set i (some z)) H2
theorem Zm0 {i:Nat}{x:Str}{e:Expr}{te:TE}{op:Operator}{ti:TIp}{pos':Pos} (hN:X.N.Nodup) (hi:X.N[i]?=some x) (hx:Loc X.env.scope x) (he:PE X e te) (ho:PIp X op ti) (hf:X.fn x=true∨X.env.scope.names.lookup x=some .local:=by first | exact .inl rfl | exact .inr rfl | assumption) :
  PS X (.AugAssign (.Name x pos') op e pos) (tAug i te ti):=by
 intro pins s σ H D I h;obtain⟨v,e1,h⟩:=h;obtain⟨m,hn,hl⟩:=I.loc;have vis:Vis X.env.scope x:=by rcases hx with k | k;exact .inl k;exact .inr (.inl k)
 obtain⟨u,r,l⟩:=hl i x v hi e1 vis;refine wpAny_AugAssign_Name ?_;have go:wpAny (model X.prog X.w) X.A (eval e X.env) (fun w s₂=>wpAny (model X.prog X.w) X.A (inplaceOp op u w) (fun r s₃=>wpAny (model X.prog X.w) X.A (storeName X.env x r) (fun _=>SP X pins D .next) X.xe s₃) X.xe s₂) X.xe s:=by
  refine thn (he pins s σ H _ I h) fun w s1 ⟨y,H1,I1,r1,q1⟩=>?_;refine thn (ho pins s1 σ H1 v y u w _ I1 r r1 q1) fun z s2 ⟨zv,H2,I2,r2,q2⟩=>?_;exact Zer I2 hN hi hx r2 (fun s3 I3=>⟨_,H2,I3,q2⟩) hf
 rcases l with ⟨hk,hm⟩ | ⟨hk,c,hc,hcell⟩
 ·exact wpAny_loadName_local I.ok.kind hk hn hm go
 ·rcases hk with hk | hk
  ·exact wpAny_loadName_cell I.ok.kind hk hc hcell go
  ·rcases hx with k | k
   ·have:X.env.scope.names.lookup x=some .free:=hk;rw[k] at this;cases this
   ·have:X.env.scope.names.lookup x=some .free:=hk;rw[k] at this;cases this
def ZnK (to ti te:TE) (tget:V->V->Hp->VK->Prop) (tip:TIp) (tset:TSet):TS:=fun D σ H=>to σ H fun o H1=>ti σ H1 fun i H2=>tget o i H2 fun x H3=>te σ H3 fun y H4=>tip x y H4 fun z H5=>tset o i z H5 fun H6=>D.nx σ H6
def PGet (X:Cx) (t:V->V->Hp->VK->Prop):Prop :=
 ∀ (pins:List (Addr × Obj)) (s:Shared) (σ:St) (H:Hp) (o i:V) (ov iv:Value) (Q:VK),Inv X pins σ H s->RelV o ov->RelV i iv->t o i H Q ->
  wpAny (model X.prog X.w) X.A (getItem ov iv) (EP X pins σ Q) X.xe s
theorem ZlT {o i e:Expr}{to ti te:TE}{tget:V->V->Hp->VK->Prop}{tip:TIp}{tset:TSet}{op:Operator}{tpos:Pos} (ho:PE X o to) (hi:PE X i ti) (hg:PGet X tget) (he:PE X e te) (hp:PIp X op tip) (hs:PSet X tset)
  (ha:∀ ov iv new,augStore i ov iv new=(do holding [new,ov,iv] (setItem ov iv new);release [new,ov,iv] [];pure .next):=by intros;rfl):PS X (.AugAssign (.Subscript o i tpos) op e pos) (ZnK to ti te tget tip tset):=by
 intro pins s σ H D I h;refine wpAny_AugAssign_SubscriptAny (thn (ho pins s σ H _ I h) fun ov s1 ⟨x1,H1,I1,r1,q1⟩=>?_) ha;refine thn (hi pins s1 σ H1 _ I1 q1) fun iv s2 ⟨x2,H2,I2,r2,q2⟩=>?_;refine thn (hg pins s2 σ H2 x1 x2 ov iv _ I2 r1 r2 q2) fun old s3 ⟨x3,H3,I3,r3,q3⟩=>?_;refine thn (he pins s3 σ H3 _ I3 q3) fun v s4 ⟨x4,H4,I4,r4,q4⟩=>?_;refine thn (hp pins s4 σ H4 x3 x4 old v _ I4 r3 r4 q4) fun new s5 ⟨x5,H5,I5,r5,q5⟩=>?_;exact thn (hs pins s5 σ H5 x1 x2 x5 ov iv new _ I5 r1 r2 r5 q5) fun _ s6 ⟨H6,I6,q6⟩=>⟨σ,H6,I6,q6⟩
def ipI (f:Int->Int->Int):TIp:=fun x y H Q=>∃ i j,x=.int i/\y=.int j/\Q (.int (f i j)) H
theorem Zls:PIp X .Add (ipI fun i j=>i+j):=by
 intro pins s σ H x y v u Q I r1 r2 h;obtain⟨i,j,e1,e2,q⟩:=h;subst e1;subst e2;obtain⟨t,rfl⟩:=r1;obtain⟨t',rfl⟩:=r2;exact iadd_int ⟨.int _,H,I.tok _,⟨_,rfl⟩,q⟩
end
section
variable {X:Cx}{pos:Pos}
def ZmJ (c:TT) (tb:TS):TS:=fun D σ H=>∃ W:Nat->St->Hp->Prop,(∃ m,W m σ H)/\∀ m σ H,W m σ H ->
 c σ H fun b H1=>if b=true then ∃ N:St->Hp->Prop,(∀ σ' H',N σ' H'->∃ m',m'<m/\W m' σ' H')/\tb { D with nx:=N,ct:=N,bk:=D.nx } σ H1 else D.nx σ H1
theorem Zdc {c:Expr}{body:List Stmt}{tc:TT}{tb:TS} (hp:PassesOwn (model X.prog X.w) X.A X.env X.xe) (hc:PT X c tc) (hb:PSs X body tb):PS X (.While c body [] pos) (ZmJ tc tb):=by
 intro pins s σ H D I h;obtain⟨W,⟨m0,w0⟩,turn⟩:=h;refine wpAny_While (codeAny_whileLoop (fun n s'=>∃ σ' H',Inv X pins σ' H' s'/\W n σ' H') ?_ m0 ⟨σ,H,I,w0⟩);rintro n s1 ⟨σ1,H1,I1,w1⟩;refine wpAny_passesOwn hp (thn (hc pins s1 σ1 H1 _ I1 (turn n σ1 H1 w1)) fun b s2 ⟨H2,I2,q2⟩=>?_)
 cases b with
 | true=>
  obtain⟨N,hN,q2⟩:=q2;rw[if_pos rfl];refine wpAny_passesOwn hp (thn (hb pins s2 σ1 H2 _ I2 q2) fun f s3 q3=>?_)
  cases f with
  | next=>
   obtain⟨σ3,H3,I3,n3⟩:=q3;obtain⟨m',hm,w3⟩:=hN σ3 H3 n3;exact⟨m',hm,σ3,H3,I3,w3⟩
  | cont=>
   obtain⟨σ3,H3,I3,n3⟩:=q3;obtain⟨m',hm,w3⟩:=hN σ3 H3 n3;exact⟨m',hm,σ3,H3,I3,w3⟩
  | brk=>exact q3
  | ret v=>exact q3
 | false=>
  rw[if_neg YaJ];exact wpAny_execs_nil ⟨σ1,H2,I2,q2⟩
end
structure It where
 go:Nat->Hp->Prop
 yld:Nat->Hp->V->Hp->Prop
 stop:Nat->Hp->Prop
def FpOk (X:Cx) (pins:List (Addr × Obj)) (H:Hp) (b:Addr):Prop :=
 H b=none/\b≠X.env.locals/\b ∉ X.fs/\(b∈X.ex∨X.s₀.heap.objs.size<=b)/\(∀ x c,X.env.cells.lookup x=some c->c≠b)/\∀ p∈X.pn++pins,p.1≠b
theorem Inv.fpOk {X:Cx}{pins:List (Addr × Obj)}{σ:St}{H H':Hp}{s:Shared}{b:Addr} (I:Inv X pins σ H s) (hb:s.heap.objs.size<=b) (hn:H' b=none):FpOk X pins H' b:=by
 refine⟨hn,Yb4 (Yaw I.lt hb),I.nofs hb,.inr (Ybw I.sz hb),fun x c e z=>?_,fun p hp z=>?_⟩
 ·obtain⟨v,q⟩:=I.cell x c e;exact absurd (Yaw q.lt (by rw[z];exact hb)) (Ybo _)
 ·exact absurd (Yaw (Yap (I.pin p hp).1) (by rw[z];exact hb)) (Ybo _)
structure Turn (P:Program) (w:World) (K:Yac) (tg:Expr) (J:It) (fp:List Addr) (it:Addr) (tn:Nat->Heap->Prop):Prop where
 mem:it∈fp
 obj:∀ i h,tn i h->∀ b∈fp,∃ o,h.get? b=some o/\∀ v,o.data≠.cell v
 keep:∀ i h h',tn i h->(∀ b∈fp,∀ o,h.get? b=some o->h'.get? b=some o)->tn i h'
 item:∀ (X:Cx),X.prog=P->X.w=w->X.K=K->X.calm=true->∀ (i:Nat) (pins:List (Addr × Obj)) (s:Shared) (σ:St) (H:Hp) (E:Value->Shared->Prop),Inv X pins σ H s->(∀ b∈fp,FpOk X pins H b)->tn i s.heap->J.go i H ->
  wpAny (model P w) X.A (pyNext (.ref it)) (fun r s1=>∃ u,r=some u /\
   wpAny (model P w) X.A (letOwnedTupleGo tg (.ref it) u) (fun _ s2=>∃ x H',Inv X pins σ H' s2/\RelV x u/\J.yld i H x H'/\tn (i+1) s2.heap/\∀ b∈fp,H' b=none) E s1) E s
 done:∀ (X:Cx),X.prog=P->X.w=w->X.K=K->X.calm=true->∀ (i:Nat) (pins:List (Addr × Obj)) (s:Shared) (σ:St) (H:Hp) (E:Value->Shared->Prop),Inv X pins σ H s->(∀ b∈fp,FpOk X pins H b)->tn i s.heap->J.stop i H ->
  wpAny (model P w) X.A (pyNext (.ref it)) (fun r s1=>r=none/\Inv X pins σ H s1) E s
 self:∀ (A:Around) (i:Nat) (s:Shared) (Q:Value->Shared->Prop) (E:Value->Shared->Prop),tn i s.heap->Q (.ref it) s->wpAny (model P w) A (pyIter (.ref it)) Q E s
abbrev TI:=St->Hp->(It->Hp->Prop)->Prop
def PIE (X:Cx) (pins:List (Addr × Obj)) (σ:St) (tg:Expr) (R:It->Hp->Prop) (itv:Value) (s2:Shared):Prop :=
 ∃ (it:Addr) (fp:List Addr) (tn:Nat->Heap->Prop) (J:It) (H':Hp),itv=.ref it/\Inv X pins σ H' s2/\Turn X.prog X.w X.K tg J fp it tn/\tn 0 s2.heap/\(∀ b∈fp,FpOk X pins H' b)/\R J H'
def PI (X:Cx) (tg iter:Expr) (wi:TI):Prop :=
 ∀ (pins:List (Addr × Obj)) (s:Shared) (σ:St) (H:Hp) (R:It->Hp->Prop),Inv X pins σ H s->wi σ H R ->
  wpAny (model X.prog X.w) X.A (eval iter X.env) (fun v s1=>wpAny (model X.prog X.w) X.A (pyIter v) (PIE X pins σ tg R) X.xe s1) X.xe s
theorem Zjl {M:Model}{A:Around}{E:Value->Shared->Prop}{s:Shared}{tg:Expr}{it:Addr}{u:Value}{o:Obj}{n:String}{vs:Array Value}{Q:Unit->Shared->Prop} (ho:s.heap.get? it=some o) (hc:o.cls=.type n) (hd:o.data=.fields vs)
    (hn:["enumerate","zip","dict_itemiterator","dict_reverseitemiterator","odict_iterator","itertools.zip_longest","itertools.pairwise"].contains n=false) (hQ:Q () s):wpAny M A (letOwnedTupleGo tg (.ref it) u) Q E s:=by
  unfold letOwnedTupleGo;cases tg <;> first
    | exact wpAny_pure hQ
    | (cases u <;> first
        | exact wpAny_pure hQ
        | (refine wpAny_bind (wpAny_load ho ?_)
           rw[hc,hd];show wpAny M A (if (["enumerate","zip","dict_itemiterator","dict_reverseitemiterator","odict_iterator","itertools.zip_longest","itertools.pairwise"].contains n && vs[0]? == some (rawInt _))=true then _ else _) Q E s;rw[if_neg (by intro h;rw[hn,Bool.false_and] at h;cases h)];exact wpAny_pure hQ))
def Itl (K:Yac) (a:Addr):It :=
 ⟨fun i H=>∃ xs x,SqL K H a xs/\xs[i]?=some x,fun i H x H'=>H'=H/\∀ xs,SqL K H a xs->xs[i]?=some x,fun i H=>∃ xs,SqL K H a xs/\xs.length<=i⟩
def Itt (K:Yac) (a:Addr):It :=
 ⟨fun i H=>∃ xs x,SqT K H a xs/\xs[i]?=some x,fun i H x H'=>H'=H/\∀ xs,SqT K H a xs->xs[i]?=some x,fun i H=>∃ xs,SqT K H a xs/\xs.length<=i⟩
def Itr (lo:Int) (n:Nat):It:=⟨fun i _=>i<n,fun i H x H'=>H'=H/\x=.int (lo+i),fun i _=>n<=i⟩
theorem ZhZ {P:Program}{w:World}{K:Yac}{tg:Expr} (a it:Addr):Turn P w K tg (Itl K a) [it] it (fun i h=>h.IsListIter it a i) where
 mem:=by simp
 obj:=fun i h st b hb=>by
  have e:b=it:=by simpa using hb
  subst e;obtain⟨o,e,c,d⟩:=st;exact⟨o,e,fun v z=>by rw[d] at z;cases z⟩
 keep:=fun i h h' st k=>st.at fun o e=>k it (by simp) o e
 item:=by
  intro X hP hw hK hc i pins s σ H E I hf st hg;subst hP hw hK;obtain⟨xs,x,hq,hx⟩:=hg;obtain⟨its,rv,p,hz⟩:=I.list hq;obtain⟨u,hu,ru⟩:=rv.get hx;obtain⟨f0,f1,f2,f3,f4,f5⟩:=hf it (by simp);refine wpAny_pyNext_list_item st p.isList (x:=u) (by simpa using hu) fun h' st' sb=>?_;have I1:Inv X pins σ H { s with heap:=h' }:=I.turned (t':=s.toks) (fun b o hb e=>(sb.2 b hb).trans e) f0 f1 f3 f4 f5;obtain⟨o,e,c,d⟩:=id st';exact⟨u,rfl,Zjl (s:={ s with heap:=h' }) e c d (by decide) ⟨x,H,I1,ru,⟨rfl,fun ys hy=>by rw[I.list_inj hy hq];exact hx⟩,st',fun b hb=>(hf b hb).1⟩⟩
 done:=by
  intro X hP hw hK hc i pins s σ H E I hf st hg;subst hP hw hK;obtain⟨xs,hq,hx⟩:=hg;obtain⟨its,rv,p,hz⟩:=I.list hq;obtain⟨f0,f1,f2,f3,f4,f5⟩:=hf it (by simp);have hl:=rv.length;exact wpAny_pyNext_list_end (I.ok.hd hc) st p.isList (by simp;(clear f3 f2 f1 hz;omega)) fun h' eb=>⟨rfl,I.turned (t':=s.toks) (fun b o hb e=>eb b o hb e) f0 f1 f3 f4 f5⟩
 self:=fun _ _ _ _ _ st h=>wpAny_pyIter_listiter st h
theorem ZdT {P:Program}{w:World}{K:Yac}{tg:Expr} (a it:Addr):Turn P w K tg (Itt K a) [it] it (fun i h=>h.IsTupleIter it a i) where
 mem:=by simp
 obj:=fun i h st b hb=>by
  have e:b=it:=by simpa using hb
  subst e;obtain⟨o,e,c,d⟩:=st;exact⟨o,e,fun v z=>by rw[d] at z;cases z⟩
 keep:=fun i h h' st k=>st.at fun o e=>k it (by simp) o e
 item:=by
  intro X hP hw hK hc i pins s σ H E I hf st hg;subst hP hw hK;obtain⟨xs,x,hq,hx⟩:=hg;obtain⟨its,rv,p,hz⟩:=I.tuple hq;obtain⟨u,hu,ru⟩:=rv.get hx;obtain⟨f0,f1,f2,f3,f4,f5⟩:=hf it (by simp);refine wpAny_pyNext_tuple_item st (show s.heap.IsTuple a its.toArray from p) (x:=u) (by simpa using hu) fun h' st' sb=>?_;have I1:Inv X pins σ H { s with heap:=h' }:=I.turned (t':=s.toks) (fun b o hb e=>(sb.2 b hb).trans e) f0 f1 f3 f4 f5;obtain⟨o,e,c,d⟩:=id st';exact⟨u,rfl,Zjl (s:={ s with heap:=h' }) e c d (by decide) ⟨x,H,I1,ru,⟨rfl,fun ys hy=>by rw[I.tuple_inj hy hq];exact hx⟩,st',fun b hb=>(hf b hb).1⟩⟩
 done:=by
  intro X hP hw hK hc i pins s σ H E I hf st hg;subst hP hw hK;obtain⟨xs,hq,hx⟩:=hg;obtain⟨its,rv,p,hz⟩:=I.tuple hq;obtain⟨f0,f1,f2,f3,f4,f5⟩:=hf it (by simp);have hl:=rv.length;exact wpAny_pyNext_tuple_end (I.ok.hd hc) st (show s.heap.IsTuple a its.toArray from p) (by simp;(clear f3 f2 f1 hz;omega)) fun h' eb=>⟨rfl,I.turned (t':=s.toks) (fun b o hb e=>eb b o hb e) f0 f1 f3 f4 f5⟩
 self:=fun _ _ _ _ _ st h=>wpAny_pyIter_tupleiter st h
theorem Zhm {P:Program}{w:World}{K:Yac}{tg:Expr} (it:Addr) (lo:Int) (n:Nat):Turn P w K tg (Itr lo n) [it] it (fun i h=>IsRangeIter h it (lo+(i:Nat)*1) ((n:Int) - (i:Nat)) 1) where
 mem:=by simp
 obj:=fun i h st b hb=>by
  have e:b=it:=by simpa using hb
  subst e;exact⟨_,st,fun v z=>by
   have z':Yfh _=Data.cell v:=z;cases z'⟩
 keep:=fun i h h' st k=>k it (by simp) _ st
 item:=by
  intro X hP hw hK hc i pins s σ H E I hf st hg;subst hP hw hK;obtain⟨f0,f1,f2,f3,f4,f5⟩:=hf it (by simp);have W:=Ye2 (prog:=X.prog) (w:=X.w) (I.ok.hd hc) it lo 1 n;refine W.item i s _ _ hg st fun v h' tk hv st' kk=>?_;obtain⟨t,rfl⟩:=hv;have I1:Inv X pins σ H { s with heap:=h',toks:=tk }:=I.turned (fun b o hb e=>kk b o (by simpa using hb) e) f0 f1 f3 f4 f5;refine⟨_,rfl,Zjl (s:={ s with heap:=h',toks:=tk }) (n:="range_iterator") st' rfl rfl (by decide) ⟨.int (lo+i),H,I1,⟨t,?_⟩,⟨rfl,rfl⟩,st',fun b hb=>(hf b hb).1⟩⟩;rw[Ycy]
 done:=by
  intro X hP hw hK hc i pins s σ H E I hf st hg;subst hP hw hK;obtain⟨f0,f1,f2,f3,f4,f5⟩:=hf it (by simp);exact wpAny_pyNext_range_end (I.ok.hd hc) st (by have:n<=i:=hg;(clear f3 f2 f1;omega)) fun h' eb=>⟨rfl,I.turned (t':=s.toks) (fun b o hb e=>eb b o hb e) f0 f1 f3 f4 f5⟩
 self:=fun _ _ _ _ _ st h=>wpAny_pyIter_rangeiter st h
end L2
namespace L2
open PySem PySem.Spec PyProof.Rows
section
variable {X:Cx}{tg:Expr}
def iTup (K:Yac) (tl:TE):TI:=fun σ H R=>tl σ H fun x H1=>∃ a,x=.ref a/\(∃ xs,SqT K H1 a xs)/\R (Itt K a) H1
theorem Zc1 {l:Expr}{tl:TE} (hl:PE X l tl):PI X tg l (iTup X.K tl):=by
 intro pins s σ H R I h;refine thn (hl pins s σ H _ I h) fun v s1 ⟨x,H1,I1,r1,q1⟩=>?_;obtain⟨a,e,⟨xs,hq⟩,q⟩:=q1;subst e;cases r1;obtain⟨its,rv,p,hz⟩:=I1.tuple hq;refine wpAny_pyIter_tuple (show s1.heap.IsTuple a its.toArray from p) ?_;refine⟨s1.heap.objs.size,[s1.heap.objs.size],_,_,H1,rfl,I1.kept (t':=s1.toks) fun b o e=>Yae _ e,ZdT a _,⟨_,YaB _ rfl,rfl,rfl⟩,fun b hb=>?_,q⟩;have e:b=s1.heap.objs.size:=by simpa using hb
 subst e;exact I1.fpOk (Yak _) (I1.hok.fresh (Yak _))
theorem Zka {pins:List (Addr × Obj)}{σ:St}{H:Hp}{s:Shared}{R:It->Hp->Prop}{E:Value->Shared->Prop}{lo hi:Int}{t u v:Tok}{tk:Nat} (I:Inv X pins σ H s) (h1:-(2 ^ 62)<=lo) (h2:lo<2 ^ 62) (h3:-(2 ^ 62)<=hi) (h4:hi<2 ^ 62)
  (q:R (Itr lo (hi - lo).toNat) H):wpAny (model X.prog X.w) X.A (pyIter (.ref s.heap.objs.size)) (PIE X pins σ tg R) E { s with heap:=s.heap.push { cls:=.type "range",data:=.fields #[.int lo t,.int hi u,.int 1 v] },toks:=tk }:=by
 refine wpAny_pyIter_range (IsRange.new ..) (small_one h1 h2 h3 h4) ?_;have I1:Inv X pins σ H { s with heap:=s.heap.push { cls:=.type "range",data:=.fields #[.int lo t,.int hi u,.int 1 v] },toks:=tk }:=I.kept fun b o e=>Yae _ e;refine⟨(s.heap.push { cls:=.type "range",data:=.fields #[.int lo t,.int hi u,.int 1 v] }).objs.size,[(s.heap.push { cls:=.type "range",data:=.fields #[.int lo t,.int hi u,.int 1 v] }).objs.size],_,_,H,rfl,
  I1.kept (t':=tk) fun b o e=>Yae _ e,Zhm _ lo (hi - lo).toNat,?_,fun b hb=>?_,q⟩
 ·have e1:lo+((0:Nat):Int)*1=lo:=by simp
  have e2:(((hi - lo).toNat:Nat):Int) - ((0:Nat):Int)=YbP lo hi 1:=by rw[rangeSize_one];split <;> (clear e1 h4 h3 h2 h1;omega)
  show IsRangeIter _ _ (lo+((0:Nat):Int)*1) ((((hi - lo).toNat:Nat):Int) - ((0:Nat):Int)) 1;rw[e1,e2];exact YaB _ rfl
 ·have e:b=(s.heap.push { cls:=.type "range",data:=.fields #[.int lo t,.int hi u,.int 1 v] }).objs.size:=by simpa using hb
  subst e;exact I1.fpOk (Yak _) (I1.hok.fresh (Yak _))
def Zoa (ta:TA):TI:=fun σ H R=>ta σ H fun vs H1=>∃ j:Int,vs=[.int j]/\-(2 ^ 62)<=j/\j<2 ^ 62/\R (Itr 0 j.toNat) H1
theorem ZaR {a:Expr}{ta:TA}{p pos:Pos} (hg:Gl X "range") (hm:X.mg "range"=none) (ha:PA X [a] ta) (hs:starEach [a] X.env=[(false,eval a X.env)]:=by rfl):PI X tg (.Call (.Name "range" p) [a] [] pos) (Zoa ta):=by
 intro pins s σ H R I h;refine Call_ (Zcs I hg hm boot_range (Ybr (thn (ha pos pins s σ H _ I h) fun us s1 ⟨vs,H1,I1,r1,q1⟩=>?_) hs rfl));obtain⟨j,e,q1,q2,q⟩:=q1;subst e
 cases r1 with
 | cons r rr=>
  cases rr;obtain⟨t,rfl⟩:=r;exact call_range_1 (Zka I1 (by (clear q2 q1;omega)) (by (clear q2 q1;omega)) q1 q2 (by simpa using q))
def tFor (wi:TI) (g:TG) (tb:TS):TS:=fun D σ H=>wi σ H fun J H1=>∃ W:Nat->Nat->St->Hp->Prop,(∃ m,W 0 m σ H1)/\∀ i m σ H,W i m σ H ->
 (J.stop i H/\D.nx σ H)∨(J.go i H/\∃ N:St->Hp->Prop,(∀ σ' H',N σ' H'->∃ m',m'<m/\W (i+1) m' σ' H')/\∀ x H',J.yld i H x H'->g x σ H' fun σ2 H2=>tb { D with nx:=N,ct:=N,bk:=D.nx } σ2 H2)
def Zdr (fp:List Addr) (h:Heap):List (Addr × Obj):=fp.filterMap fun b=>(h.get? b).map fun o=>(b,o)
theorem ZaW {fp:List Addr}{h:Heap}{b:Addr}{o:Obj} (hb:b∈fp) (e:h.get? b=some o):(b,o)∈Zdr fp h:=Yfp.mpr ⟨b,hb,by rw[e];rfl⟩
theorem ZiP {fp:List Addr}{h:Heap}{p:Addr × Obj} (hp:p∈Zdr fp h):p.1∈fp/\h.get? p.1=some p.2:=by
 obtain⟨b,hb,e⟩:=Yfp.mp hp
 cases q:h.get? b with
 | none=>rw[q] at e;cases e
 | some o=>
  rw[q] at e;have e':(b,o)=p:=YaL e;subst e';exact⟨hb,q⟩
theorem Inv.pinned {pins:List (Addr × Obj)}{σ:St}{H:Hp}{s:Shared}{fp:List Addr} (I:Inv X pins σ H s) (hf:∀ b∈fp,FpOk X pins H b) (ho:∀ b∈fp,∃ o,s.heap.get? b=some o/\∀ v,o.data≠.cell v):Inv X (pins++Zdr fp s.heap) σ H s :=
 I.pins_of fun p hp=>(Yam.mp hp).elim (fun z=>I.pin p (Yao _ z)) fun z=>by
  obtain⟨hb,e⟩:=ZiP z;obtain⟨f0,f1,f2,_⟩:=hf p.1 hb;obtain⟨o,e',d⟩:=ho p.1 hb;rw[e] at e';cases e';exact⟨e,f0,f1,f2,d⟩
theorem Inv.unpinned {pins pl:List (Addr × Obj)}{σ:St}{H:Hp}{s:Shared} (I:Inv X (pins++pl) σ H s):Inv X pins σ H s:=I.pins_of fun p hp=>I.pin p (Yao _ (YaF _ hp))
theorem Zbd {iter:Expr}{body:List Stmt}{wi:TI}{g:TG}{tb:TS}{pos:Pos} (hp:PassesOwn (model X.prog X.w) X.A X.env X.xe) (hc:X.calm=true) (hi:PI X tg iter wi) (hg:PG X tg g) (hb:PSs X body tb)
  (hs:∀ x,foldedSetIterable iter X.env x=pure x:=by intro _;rfl):PS X (.For tg iter body [] pos) (tFor wi g tb):=by
 intro pins s σ H D I h;refine wpAny_For (thn (hi pins s σ H _ I h) fun v s1 h1=>thn h1 fun itv s2 h2=>?_) hs;obtain⟨it,fp,tn,J,H2,e,I2,T,st2,f2,W,⟨m0,w0⟩,turn⟩:=h2;subst e;have stat:∀ {H':Hp},(∀ b∈fp,H' b=none)->∀ b∈fp,FpOk X pins H' b:=fun hn b hb=>⟨hn b hb,(f2 b hb).2⟩
 refine codeAny_forLoop_any (fun n s'=>∃ i σ' H',Inv X pins σ' H' s'/\tn i s'.heap/\(∀ b∈fp,H' b=none)/\W i n σ' H') ?_ m0 ⟨0,σ,H2,I2,st2,fun b hb=>(f2 b hb).1,w0⟩;rintro n s3 ⟨i,σ3,H3,I3,st3,fr3,w3⟩;rcases turn i n σ3 H3 w3 with ⟨stop,qn⟩ | ⟨go,N,hN,step⟩
 ·refine wpAny_passesOwn hp (thn (T.done X rfl rfl rfl hc i pins s3 σ3 H3 X.xe I3 (stat fr3) st3 stop) fun r s4 ⟨hr,I4⟩=>?_);subst hr;exact wpAny_execs_nil ⟨σ3,H3,I4,qn⟩
 ·refine wpAny_passesOwn hp (thn (T.item X rfl rfl rfl hc i pins s3 σ3 H3 X.xe I3 (stat fr3) st3 go) fun r s4 ⟨u,hr,h4⟩=>?_);subst hr;refine wpAny_passesOwn hp (thn h4 fun _ s5 ⟨x,H5,I5,r5,y5,st5,fr5⟩=>?_);have I5':=I5.pinned (stat fr5) (T.obj _ _ st5);refine wpAny_passesOwn hp (thn (hg _ s5 σ3 H5 x u _ I5' r5 (step x H5 y5)) fun _ s6 ⟨σ6,H6,I6,q6⟩=>?_);refine wpAny_passesOwn hp (thn (hb _ s6 σ6 H6 _ I6 q6) fun f s7 q7=>?_);have again:∀ {σ7:St}{H7:Hp},Inv X (pins++Zdr fp s5.heap) σ7 H7 s7->N σ7 H7->∃ m,m<n/\∃ i σ' H',Inv X pins σ' H' s7/\tn i s7.heap/\(∀ b∈fp,H' b=none)/\W i m σ' H':=fun {σ7 H7} I7 n7=>by
   obtain⟨m',hm,w7⟩:=hN σ7 H7 n7;refine⟨m',hm,i+1,σ7,H7,I7.unpinned,T.keep _ _ _ st5 fun b hb o e=>(I7.pin (b,o) (Yao _ (Yao _ (ZaW hb e)))).1,fun b hb=>?_,w7⟩;obtain⟨o,e,d⟩:=T.obj _ _ st5 b hb;exact (I7.pin (b,o) (Yao _ (Yao _ (ZaW hb e)))).2.1
  cases f with
  | next=>obtain⟨σ7,H7,I7,n7⟩:=q7;exact again I7 n7
  | cont=>obtain⟨σ7,H7,I7,n7⟩:=q7;exact again I7 n7
  | brk=>obtain⟨σ7,H7,I7,q7⟩:=q7;exact⟨σ7,H7,I7.unpinned,q7⟩
  | ret v=>obtain⟨x7,σ7,H7,I7,r7,q7⟩:=q7;exact⟨x7,σ7,H7,I7.unpinned,r7,q7⟩
end
theorem Zgf {K:Yac}{a:Addr}{xs:List V}{g:TG}{tb:TS}{D:Ends}{σ:St}{H:Hp} (Pv:Nat->St->Hp->Prop) (h0:Pv 0 σ H) (hl:∀ i σ H,i<=xs.length->Pv i σ H->SqT K H a xs)
  (hs:∀ i x σ H,xs[i]?=some x->Pv i σ H->g x σ H fun σ2 H2=>tb { D with nx:=Pv (i+1),ct:=Pv (i+1),bk:=D.nx } σ2 H2) (hd:∀ σ H,Pv xs.length σ H->D.nx σ H) :
  ∃ W:Nat->Nat->St->Hp->Prop,(∃ m,W 0 m σ H)/\∀ i m σ H,W i m σ H ->
   ((Itt K a).stop i H/\D.nx σ H)∨((Itt K a).go i H/\∃ N:St->Hp->Prop,(∀ σ' H',N σ' H'->∃ m',m'<m/\W (i+1) m' σ' H')/\∀ x H',(Itt K a).yld i H x H'->g x σ H' fun σ2 H2=>tb { D with nx:=N,ct:=N,bk:=D.nx } σ2 H2):=by
 refine⟨fun i m σ H=>m=xs.length - i/\i<=xs.length/\Pv i σ H,⟨xs.length,by simp,YaY _,h0⟩,?_⟩;rintro i m σ H ⟨rfl,hi,p⟩;have q:=hl i σ H hi p;by_cases hlt:i<xs.length
 ·refine .inr ⟨⟨xs,xs[i],q,by simp[hlt]⟩,Pv (i+1),fun σ' H' p'=>⟨xs.length - (i+1),by (clear hi;omega),rfl,hlt,p'⟩,fun x H' y=>?_⟩;obtain⟨e,y⟩:=y;subst e;exact hs i x σ _ (y xs q) p
 ·have e:i=xs.length:=by omega
  subst e;exact .inl ⟨⟨xs,q,Yak _⟩,hd σ H p⟩
theorem Zbo {lo:Int}{n:Nat}{g:TG}{tb:TS}{D:Ends}{σ:St}{H:Hp} (Pv:Nat->St->Hp->Prop) (h0:Pv 0 σ H)
  (hs:∀ i σ H,i<n->Pv i σ H->g (.int (lo+i)) σ H fun σ2 H2=>tb { D with nx:=Pv (i+1),ct:=Pv (i+1),bk:=D.nx } σ2 H2) (hd:∀ σ H,Pv n σ H->D.nx σ H) :
  ∃ W:Nat->Nat->St->Hp->Prop,(∃ m,W 0 m σ H)/\∀ i m σ H,W i m σ H ->
   ((Itr lo n).stop i H/\D.nx σ H)∨((Itr lo n).go i H/\∃ N:St->Hp->Prop,(∀ σ' H',N σ' H'->∃ m',m'<m/\W (i+1) m' σ' H')/\∀ x H',(Itr lo n).yld i H x H'->g x σ H' fun σ2 H2=>tb { D with nx:=N,ct:=N,bk:=D.nx } σ2 H2):=by
 refine⟨fun i m σ H=>m=n - i/\i<=n/\Pv i σ H,⟨n,by simp,YaY _,h0⟩,?_⟩;rintro i m σ H ⟨rfl,hi,p⟩;by_cases hlt:i<n
 ·refine .inr ⟨hlt,Pv (i+1),fun σ' H' p'=>⟨n - (i+1),by (clear hi;omega),rfl,hlt,p'⟩,fun x H' y=>?_⟩;obtain⟨e,y⟩:=y;subst e y;exact hs i σ _ hlt p
 ·have e:i=n:=by omega
  subst e;exact .inl ⟨Yak _,hd σ H p⟩
end L2
namespace L2
open PySem PySem.Spec PyProof.Rows
abbrev R2:=V->V->Hp->VK->Prop
def OpR (X:Cx) (f:Value->Value->Sem Value) (r:R2):Prop :=
 ∀ (pins:List (Addr × Obj)) (s:Shared) (σ:St) (H:Hp) (x y:V) (v u:Value) (Q:VK),Inv X pins σ H s->RelV x v->RelV y u->r x y H Q ->
  wpAny (model X.prog X.w) X.A (f v u) (EP X pins σ Q) X.xe s
def UnR (X:Cx) (f:Value->Sem Value) (r:V->Hp->VK->Prop):Prop :=
 ∀ (pins:List (Addr × Obj)) (s:Shared) (σ:St) (H:Hp) (x:V) (v:Value) (Q:VK),Inv X pins σ H s->RelV x v->r x H Q ->
  wpAny (model X.prog X.w) X.A (f v) (EP X pins σ Q) X.xe s
def Zcz (X:Cx) (f:Value) (r:List V->Hp->VK->Prop):Prop :=
 ∀ (pins:List (Addr × Obj)) (s:Shared) (σ:St) (H:Hp) (xs:List V) (us:List Value) (Q:VK),Inv X pins σ H s->Vals xs us->r xs H Q ->
  wpAny (model X.prog X.w) X.A (call f us) (EP X pins σ Q) X.xe s
def TruR (X:Cx) (r:V->Hp->(Bool->Hp->Prop)->Prop):Prop :=
 ∀ (pins:List (Addr × Obj)) (s:Shared) (σ:St) (H:Hp) (x:V) (v:Value) (Q:Bool->Hp->Prop),Inv X pins σ H s->RelV x v->r x H Q ->
  wpAny (model X.prog X.w) X.A (truthy v) (TP X pins σ Q) X.xe s
def tOp (r:R2) (ta tb:TE):TE:=fun σ H Q=>ta σ H fun x H1=>tb σ H1 fun y H2=>r x y H2 Q
def tUn (r:V->Hp->VK->Prop) (ta:TE):TE:=fun σ H Q=>ta σ H fun x H1=>r x H1 Q
def rI (C:Int->Int->Prop) (g:Int->Int->V):R2:=fun x y H Q=>∃ i j,x=.int i/\y=.int j/\C i j/\Q (g i j) H
def rI0 (g:Int->Int->V):R2:=fun x y H Q=>∃ i j,x=.int i/\y=.int j/\Q (g i j) H
def rU (g:Int->V):V->Hp->VK->Prop:=fun x H Q=>∃ i,x=.int i/\Q (g i) H
section
variable {X:Cx}{a b c:Expr}{ta tb tc:TE}{pos:Pos}
theorem binT (ha:PE X a ta) (hb:PE X b tb) {pins:List (Addr × Obj)}{s:Shared}{σ:St}{H:Hp}{R:V->V->Hp->Prop} (I:Inv X pins σ H s)
  (h:ta σ H fun x H1=>tb σ H1 fun y H2=>R x y H2) {Q:Value->Shared->Prop}{f:Value->Value->Sem Value}
  (hf:∀ v u s2 x y H2,Inv X pins σ H2 s2->RelV x v->RelV y u->R x y H2->wpAny (model X.prog X.w) X.A (f v u) Q X.xe s2) :
  wpAny (model X.prog X.w) X.A (eval a X.env) (fun v s₁=>wpAny (model X.prog X.w) X.A (eval b X.env) (fun u s₂=>wpAny (model X.prog X.w) X.A (f v u) Q X.xe s₂) X.xe s₁) X.xe s:=by
 refine thn (ha pins s σ H _ I h) fun v s1 ⟨x,H1,I1,r1,q1⟩=>?_;refine thn (hb pins s1 σ H1 _ I1 q1) fun u s2 ⟨y,H2,I2,r2,q2⟩=>?_;exact hf v u s2 x y H2 I2 r1 r2 q2
theorem Zat {op:Operator}{r:R2} (ho:OpR X (binaryOp op) r) (ha:PE X a ta) (hb:PE X b tb):PE X (.BinOp a op b pos) (tOp r ta tb):=by
 intro pins s σ H Q I h;exact wpAny_BinOp (binT ha hb I h fun v u s2 x y H2 I2 rx ry q=>ho pins s2 σ H2 x y v u Q I2 rx ry q)
theorem Zf6 {op:UnaryOp}{r:V->Hp->VK->Prop} (ho:UnR X (unaryOp op) r) (ha:PE X a ta):PE X (.UnaryOp op a pos) (tUn r ta):=by
 intro pins s σ H Q I h;exact UnaryOp_ (thn (ha pins s σ H _ I h) fun v s1 ⟨x,H1,I1,r1,q1⟩=>ho pins s1 σ H1 x v Q I1 r1 q1)
theorem opI {f:Value->Value->Sem Value}{C:Int->Int->Prop}{g:Int->Int->Int}
  (rule:∀ (i j:Int) (t u:Tok) (s:Shared) (Q:Value->Shared->Prop) (E:Value->Shared->Prop),C i j->Q (.int (g i j) s.toks) { s with toks:=s.toks+1 }->wpAny (model X.prog X.w) X.A (f (.int i t) (.int j u)) Q E s) :
  OpR X f (rI C fun i j=>.int (g i j)):=by
 intro pins s σ H x y v u Q I rx ry h;obtain⟨i,j,rfl,rfl,hc,q⟩:=h;obtain⟨t,rfl⟩:=rx;obtain⟨t',rfl⟩:=ry;exact rule i j t t' s _ _ hc ⟨.int (g i j),H,I.tok _,⟨_,rfl⟩,q⟩
theorem opI0 {f:Value->Value->Sem Value}{g:Int->Int->Int}
  (rule:∀ (i j:Int) (t u:Tok) (s:Shared) (Q:Value->Shared->Prop) (E:Value->Shared->Prop),Q (.int (g i j) s.toks) { s with toks:=s.toks+1 }->wpAny (model X.prog X.w) X.A (f (.int i t) (.int j u)) Q E s) :
  OpR X f (rI0 fun i j=>.int (g i j)):=by
 intro pins s σ H x y v u Q I rx ry h;obtain⟨i,j,rfl,rfl,q⟩:=h;obtain⟨t,rfl⟩:=rx;obtain⟨t',rfl⟩:=ry;exact rule i j t t' s _ _ ⟨.int (g i j),H,I.tok _,⟨_,rfl⟩,q⟩
theorem opB0 {f:Value->Value->Sem Value}{g:Int->Int->Bool}
  (rule:∀ (i j:Int) (t u:Tok) (s:Shared) (Q:Value->Shared->Prop) (E:Value->Shared->Prop),Q (.bool (g i j)) s->wpAny (model X.prog X.w) X.A (f (.int i t) (.int j u)) Q E s) :
  OpR X f (rI0 fun i j=>.bl (g i j)):=by
 intro pins s σ H x y v u Q I rx ry h;obtain⟨i,j,rfl,rfl,q⟩:=h;obtain⟨t,rfl⟩:=rx;obtain⟨t',rfl⟩:=ry;exact rule i j t t' s _ _ ⟨.bl (g i j),H,I,rfl,q⟩
def CDiv (i j:Int):Prop:=0<j/\j<1073741824
def CPow (i j:Int):Prop:=0<=j/\j<=1000000/\i.natAbs<2 ^ 64
def CMul (i j:Int):Prop:=(-(2 ^ 64)<i/\i<2 ^ 64)∨(-(2 ^ 64)<j/\j<2 ^ 64)
theorem CMul.ok {i j:Int} (h:CMul i j):IntMulOk i j:=by
 rcases h with ⟨h1,h2⟩ | ⟨h1,h2⟩
 ·exact .of_left (intBits_le_64 h1 h2)
 ·exact .of_right (intBits_le_64 h1 h2)
theorem ZaQ:OpR X (binaryOp .Add) (rI0 fun i j=>.int (i+j)):=opI0 fun _ _ _ _ _ _ _ q=>add_int q
theorem Zc3:OpR X (binaryOp .Sub) (rI0 fun i j=>.int (i - j)):=opI0 fun _ _ _ _ _ _ _ q=>sub_int q
theorem Zc4:OpR X (binaryOp .Mult) (rI CMul fun i j=>.int (i*j)):=opI fun _ _ _ _ _ _ _ hc q=>mul_int q hc.ok
theorem Zl2:OpR X (binaryOp .FloorDiv) (rI CDiv fun i j=>.int (i / j)):=opI fun i j _ _ _ _ _ hc q=>by
 have h1:(0:Int)<j:=hc.1;have h2:j<1073741824:=hc.2;exact floordiv_int (by (clear h2;omega)) (by rw[YeK i (by (clear h2;omega))];exact q) (.inl (YeG (by omega)))
theorem Zdu:OpR X (binaryOp .Mod) (rI (fun _ j=>0<j) fun i j=>.int (i % j)):=opI fun i j _ _ _ _ _ hc q=>by
 have h1:(0:Int)<j:=hc;exact mod_int' (by (clear h1;omega)) (by rw[Int.fmod_eq_emod_of_nonneg i (by (clear h1;omega))];exact q)
theorem ZiC:OpR X (binaryOp .Pow) (rI CPow fun i j=>.int (i ^ j.toNat)):=opI fun _ _ _ _ _ _ _ hc q=>pow_int_small hc.1 hc.2.1 hc.2.2 q
theorem unI {f:Value->Sem Value}{g:Int->Int}
  (rule:∀ (i:Int) (t:Tok) (s:Shared) (Q:Value->Shared->Prop) (E:Value->Shared->Prop),Q (.int (g i) s.toks) { s with toks:=s.toks+1 }->wpAny (model X.prog X.w) X.A (f (.int i t)) Q E s) :
  UnR X f (rU fun i=>.int (g i)):=by
 intro pins s σ H x v Q I rx h;obtain⟨i,rfl,q⟩:=h;obtain⟨t,rfl⟩:=rx;exact rule i t s _ _ ⟨.int (g i),H,I.tok _,⟨_,rfl⟩,q⟩
theorem Zdh:UnR X (unaryOp .USub) (rU fun i=>.int (-i)):=unI fun _ _ _ _ _ q=>neg_int q
end
def scal:V->V->Bool
 | .non,.non=>true | .non,.int _=>true | .int _,.non=>true | .non,.bl _=>true | .bl _,.non=>true | .non,.str _=>true | .str _,.non=>true
 | .int _,.int _=>true | .bl _,.bl _=>true | .str _,.str _=>true | .byt _,.byt _=>true
 | .int _,.str _=>true | .str _,.int _=>true | .bl _,.str _=>true | .str _,.bl _=>true
 | _,_=>false
def rEq:R2:=fun x y H Q=>scal x y=true/\Q (.bl (decide (x=y))) H
theorem Zgo {i j:Int}:decide (V.int i=V.int j)=(i == j):=by
 rw[YcF];simp
theorem Znr {i j:Bool}:decide (V.bl i=V.bl j)=(i == j):=by
 rw[YcF];simp
theorem Zmx {i j:Str}:decide (V.str i=V.str j)=(i == j):=by
 rw[YcF];simp
theorem Zmy {i j:Array UInt8}:decide (V.byt i=V.byt j)=(i.toList == j.toList):=by
 rw[YcF];cases i;cases j;simp
section
variable {X:Cx}{a b c:Expr}{ta tb tc:TE}{pos:Pos}
theorem Zbh {pins:List (Addr × Obj)}{σ:St}{H:Hp}{s:Shared}{Q:VK}{k k':Bool} (I:Inv X pins σ H s) (q:Q (.bl k) H) (e:k=k'):EP X pins σ Q (.bool k') s:=by
 subst e;exact⟨.bl k,H,I,rfl,q⟩
theorem Zm8:OpR X (compareOp .Eq) rEq:=by
 intro pins s σ H x y v u Q I rx ry h;obtain⟨hs,q⟩:=h
 cases x with
 | non=>
  cases rx
  cases y with
  | non=>cases ry;exact PySem.EqNone.eq_none_none (Zbh I q (by simp))
  | bl j=>cases ry;exact PySem.EqNone.eq_none_bool (Zbh I q (by simp))
  | int j=>obtain⟨t',rfl⟩:=ry;exact PySem.EqNone.eq_none_int (Zbh I q (by simp))
  | str j=>obtain⟨t',rfl⟩:=ry;exact PySem.EqNone.eq_none_str (Zbh I q (by simp))
  | _=>exact absurd (show false=true from hs) YaJ
 | bl i=>
  cases rx
  cases y with
  | non=>cases ry;exact PySem.EqNone.eq_bool_none (Zbh I q (by simp))
  | bl j=>cases ry;exact eq_bool (Zbh I q Znr)
  | str j=>obtain⟨t',rfl⟩:=ry;exact PySem.EqMixed.eq_bool_str (Zbh I q (by simp))
  | _=>exact absurd (show false=true from hs) YaJ
 | int i=>
  obtain⟨t,rfl⟩:=rx
  cases y with
  | non=>cases ry;exact PySem.EqNone.eq_int_none (Zbh I q (by simp))
  | int j=>obtain⟨t',rfl⟩:=ry;exact eq_int (Zbh I q Zgo)
  | str j=>obtain⟨t',rfl⟩:=ry;exact PySem.EqMixed.eq_int_str (Zbh I q (by simp))
  | _=>exact absurd (show false=true from hs) YaJ
 | str i=>
  obtain⟨t,rfl⟩:=rx
  cases y with
  | non=>cases ry;exact PySem.EqNone.eq_str_none (Zbh I q (by simp))
  | bl j=>cases ry;exact PySem.EqMixed.eq_str_bool (Zbh I q (by simp))
  | int j=>obtain⟨t',rfl⟩:=ry;exact PySem.EqMixed.eq_str_int (Zbh I q (by simp))
  | str j=>obtain⟨t',rfl⟩:=ry;exact eq_str (Zbh I q Zmx)
  | _=>exact absurd (show false=true from hs) YaJ
 | byt i=>
  obtain⟨t,rfl⟩:=rx
  cases y with
  | byt j=>obtain⟨t',rfl⟩:=ry;exact PySem.W.eq_bytes (Zbh I q Zmy)
  | _=>exact absurd (show false=true from hs) YaJ
 | _=>cases y <;> exact absurd (show false=true from hs) YaJ
theorem Zkr:OpR X (compareOp .Lt) (rI0 fun i j=>.bl (decide (i<j))):=opB0 fun _ _ _ _ _ _ _ q=>lt_int q
theorem Zdv:OpR X (compareOp .LtE) (rI0 fun i j=>.bl (decide (i<=j))):=opB0 fun _ _ _ _ _ _ _ q=>le_int q
theorem ZhI:OpR X (compareOp .Gt) (rI0 fun i j=>.bl (decide (j<i))):=opB0 fun _ _ _ _ _ _ _ q=>gt_int q
theorem Zks:OpR X (compareOp .GtE) (rI0 fun i j=>.bl (decide (j<=i))):=opB0 fun _ _ _ _ _ _ _ q=>ge_int q
theorem ZaN (b:Expr) {op:CmpOp} (h:op≠.In:=by decide) (h2:op≠.NotIn:=by decide):behindInMarks op b=false:=by
 have e1:(op == CmpOp.In)=false:=by cases op <;> first | rfl | exact absurd rfl h
 have e2:(op == CmpOp.NotIn)=false:=by cases op <;> first | rfl | exact absurd rfl h2
 cases b <;> simp[behindInMarks,e1,e2]
theorem ZcN {op:CmpOp}{r:R2} (ho:OpR X (compareOp op) r) (ha:PE X a ta) (hb:PE X b tb) (hm:behindInMarks op b=false):PE X (.Compare a [op] [b] pos) (tOp r ta tb):=by
 intro pins s σ H Q I h;exact wpAny_Compare1 (binT ha hb I h fun v u s2 x y H2 I2 rx ry q=>ho pins s2 σ H2 x y v u Q I2 rx ry q) hm
def ZmK (t:TE):TT:=fun σ H Q=>t σ H fun x H'=>∃ k,x=.bl k/\Q k H'
theorem ZaL {op:CmpOp}{r:R2} (ho:OpR X (compareOp op) r) (ha:PE X a ta) (hb:PE X b tb) (hm:behindInMarks op b=false):PT X (.Compare a [op] [b] pos) (ZmK (tOp r ta tb)):=by
 intro pins s σ H Q I h;refine wpAny_isTrue_Compare1 (thn (ha pins s σ H _ I h) fun v s1 ⟨x,H1,I1,r1,q1⟩=>thn (hb pins s1 σ H1 _ I1 q1) fun u s2 ⟨y,H2,I2,r2,q2⟩=>
  thn (ho pins s2 σ H2 x y v u _ I2 r1 r2 q2) fun c s3 ⟨z,H3,I3,r3,k,e,q3⟩=>?_) hm
 subst e;cases r3;exact wpAny_truthy_bool ⟨H3,I3,q3⟩
def Zla (r r':R2) (ta tb tc:TE):TE:=fun σ H Q=>ta σ H fun x H1=>tb σ H1 fun y H2=>r x y H2 fun z H3=>∃ k,z=.bl k /\
 (if k=true then tc σ H3 fun w' H4=>r' y w' H4 Q else Q (.bl false) H3)
theorem Zko {op op':CmpOp}{r r':R2} (ho:OpR X (compareOp op) r) (ho':OpR X (compareOp op') r') (ha:PE X a ta) (hb:PE X b tb) (hc:PE X c tc)
  (hm:lastMarks [op,op'] [b,c]=false:=by with_unfolding_all rfl):PE X (.Compare a [op,op'] [b,c] pos) (Zla r r' ta tb tc):=by
 intro pins s σ H Q I h;refine Compare_chain (thn (ha pins s σ H _ I h) fun v s1 ⟨x,H1,I1,r1,q1⟩=>chain_link (thn (hb pins s1 σ H1 _ I1 q1) fun u s2 ⟨y,H2,I2,r2,q2⟩=>
  thn (ho pins s2 σ H2 x y v u _ I2 r1 r2 q2) fun d s3 ⟨z,H3,I3,r3,k,e,q3⟩=>?_)) hm
 subst e;cases r3;refine wpAny_truthy_bool ?_
 cases k with
 | false=>exact ite_ff ⟨.bl false,H3,I3,rfl,q3⟩
 | true=>exact ite_tt (chain_last (thn (hc pins s3 σ H3 _ I3 q3) fun w' s4 ⟨z',H4,I4,r4,q4⟩=>ho' pins s4 σ H4 y z' u w' Q I4 r2 r4 q4))
theorem ZgL {op op':CmpOp}{r r':R2} (ho:OpR X (compareOp op) r) (ho':OpR X (compareOp op') r') (ha:PE X a ta) (hb:PE X b tb) (hc:PE X c tc)
  (hm:lastMarks [op,op'] [b,c]=false:=by with_unfolding_all rfl):PT X (.Compare a [op,op'] [b,c] pos) (ZmK (Zla r r' ta tb tc)):=by
 intro pins s σ H Q I h;refine isTrue_chain (thn (ha pins s σ H _ I h) fun v s1 ⟨x,H1,I1,r1,q1⟩=>test_link (thn (hb pins s1 σ H1 _ I1 q1) fun u s2 ⟨y,H2,I2,r2,q2⟩=>
  thn (ho pins s2 σ H2 x y v u _ I2 r1 r2 q2) fun d s3 ⟨z,H3,I3,r3,k,e,q3⟩=>?_)) hm
 subst e;cases r3;refine wpAny_truthy_bool ?_
 cases k with
 | false=>
  obtain⟨k',e',q'⟩:=q3;cases e';exact ite_ff ⟨H3,I3,q'⟩
 | true=>
  refine ite_tt (test_last (thn (hc pins s3 σ H3 _ I3 q3) fun w' s4 ⟨z',H4,I4,r4,q4⟩=>thn (ho' pins s4 σ H4 y z' u w' _ I4 r2 r4 q4) fun d' s5 ⟨z2,H5,I5,r5,k2,e2,q5⟩=>?_));subst e2;cases r5;exact wpAny_truthy_bool ⟨H5,I5,q5⟩
def TruV (K:Yac) (x:V) (H:Hp) (k:Bool):Prop :=
 match x with
 | .non=>k=false
 | .bl b=>k=b
 | .int i=>k=(i != 0)
 | .str y=>y.length<=sizeLine/\k=((y.length:Int) != 0)
 | .byt y=>y.size<=sizeLine/\k=((y.size:Int) != 0)
 | .ref p=>(∃ xs,SqL K H p xs/\k = !xs.isEmpty)∨(∃ xs,SqT K H p xs/\k = !xs.isEmpty)∨∃ kvs,H p=some (.dK kvs)/\k = !kvs.isEmpty
 | _=>False
theorem ZhM {κ:Type}{kvs:List (κ × V)}{vs:List (κ × Value)} (r:KV kvs vs):(!vs.isEmpty) = !kvs.isEmpty:=by
 cases r <;> rfl
theorem Zej {xs:List V}{its:List Value} (r:Vals xs its):(!its.toArray.isEmpty) = !xs.isEmpty:=by
 cases r <;> simp
theorem Zef:(sizeLine:Nat)<2 ^ 63:=by rw[sizeLine_eq];decide
theorem ZmH:TruR X (fun x H Q=>∃ k,TruV X.K x H k/\Q k H):=by
 intro pins s σ H x v Q I rx h;obtain⟨k,e,q⟩:=h;have hl:=Zef;have hs:sizeLine=16777216:=sizeLine_eq
 cases x with
 | non=>
  cases rx;have e':k=false:=e;subst e';exact truthy_none ⟨H,I,q⟩
 | bl b=>
  cases rx;have e':k=b:=e;subst e';exact wpAny_truthy_bool ⟨H,I,q⟩
 | int i=>
  obtain⟨t,rfl⟩:=rx;have e':k=(i != 0):=e;subst e';exact PySem.P.truthy_int ⟨H,I,q⟩
 | str y=>
  obtain⟨t,rfl⟩:=rx;obtain⟨hy,e'⟩:y.length<=sizeLine/\k=((y.length:Int) != 0):=e;subst e';exact PySem.P.truthy_str (by (clear hs;omega)) ⟨H,I.tok _,q⟩
 | byt y=>
  obtain⟨t,rfl⟩:=rx;obtain⟨hy,e'⟩:y.size<=sizeLine/\k=((y.size:Int) != 0):=e;subst e';exact PySem.W.truthy_bytes (by (clear hl;omega)) ⟨H,I.tok _,q⟩
 | ref p=>
  cases rx;have e':(∃ xs,SqL X.K H p xs/\k = !xs.isEmpty)∨(∃ xs,SqT X.K H p xs/\k = !xs.isEmpty)∨∃ kvs,H p=some (.dK kvs)/\k = !kvs.isEmpty:=e;rcases e' with ⟨xs,hx,e'⟩ | ⟨xs,hx,e'⟩ | ⟨kvs,hx,e'⟩
  ·subst e';obtain⟨its,r,pl,hz⟩:=I.list hx;have hlen:=r.length;exact wpAny_truthy_list pl.isList (by simp only[Yah];(clear hs;omega)) ⟨H,I.tok _,by rw[Zej r];exact q⟩
  ·subst e';obtain⟨its,r,pl,hz⟩:=I.tuple hx;have hlen:=r.length;exact truthy_tuple pl (by simp only[Yah];(clear hs;omega)) ⟨H,I.tok _,by rw[Zej r];exact q⟩
  ·subst e';obtain⟨hz,hS,vs,r,m⟩:kvs.length<=sizeLine/\(p == sysModules)=false/\∃ vs,KV kvs vs/\s.heap.DictOf (Zf9 X.prog X.w) p vs:=I.hok p _ hx;have hlen:kvs.length=vs.length:=Paired.length r;exact wpAny_truthy_dict hS m (by (clear hs;omega)) ⟨H,I.tok _,by rw[ZhM r];exact q⟩
 | _=>exact (show False from e).elim
theorem Zke (ha:PE X a ta) (he:∀ whole,isTrue a X.env whole=(do let v <- whole;standAt a.pos;holding [v] (truthy v))) :
  PT X a (fun σ H Q=>ta σ H fun x H'=>∃ k,TruV X.K x H' k/\Q k H'):=by
 intro pins s σ H Q I h;exact isTrue_plain (thn (ha pins s σ H _ I h) fun v s1 ⟨x,H1,I1,r1,q1⟩=>ZmH pins s1 σ H1 x v Q I1 r1 q1) (he _)
theorem Zep {x:V}{us:List Value} (r:Vals [x] us):∃ u,us=[u]/\RelV x u:=by
 cases r with
 | cons r1 r2=>cases r2;exact⟨_,rfl,r1⟩
theorem ZjR {x y:V}{us:List Value} (r:Vals [x,y] us):∃ u w',us=[u,w']/\RelV x u/\RelV y w':=by
 cases r with
 | cons r1 r2=>
  cases r2 with
  | cons r3 r4=>cases r4;exact⟨_,_,rfl,r1,r3⟩
theorem ZfD (hc:X.calm=true):Zcz X (.builtin "max") (fun xs H Q=>∃ i j,xs=[.int i,.int j]/\Q (.int (if j > i then j else i)) H):=by
 intro pins s σ H xs us Q I r h;obtain⟨i,j,rfl,q⟩:=h;obtain⟨u,w',rfl,⟨t,rfl⟩,⟨t',rfl⟩⟩:=ZjR r;refine max_two_ints (I.ok.hd hc) fun h' tk k=>⟨_,H,I.kept k,?_,q⟩
 by_cases hj:j > i
 ·rw[if_pos hj,if_pos hj];exact⟨_,rfl⟩
 ·rw[if_neg hj,if_neg hj];exact⟨_,rfl⟩
theorem ZfC (hc:X.calm=true):Zcz X (.builtin "min") (fun xs H Q=>∃ i j,xs=[.int i,.int j]/\Q (.int (if j<i then j else i)) H):=by
 intro pins s σ H xs us Q I r h;obtain⟨i,j,rfl,q⟩:=h;obtain⟨u,w',rfl,⟨t,rfl⟩,⟨t',rfl⟩⟩:=ZjR r;refine min_two_ints (I.ok.hd hc) fun h' tk k=>⟨_,H,I.kept k,?_,q⟩
 by_cases hj:j<i
 ·rw[if_pos hj,if_pos hj];exact⟨_,rfl⟩
 ·rw[if_neg hj,if_neg hj];exact⟨_,rfl⟩
end
end L2
namespace L2
open PySem PySem.Spec PyProof.Rows
structure ObjM (h:Heap) (x dx C:Addr) (mA:Str->Option Value):Prop where
 obj:h.get? x=some (YdY C dx)
 ns:h.Ns1 dx mA
 ne:dx≠x
theorem Zi1 {h:Heap}{dx:Addr}{mA:Str->Option Value} (n:h.Ns1 dx mA):∃ od,h.get? dx=some od/\∀ name,Yee name od=some (mA name):=by
 obtain⟨o,es,ep,ho,hd,hk,_,hm⟩:=n;refine⟨o,ho,fun name=>?_⟩;have e:=hm name;unfold nsFind findBy at e;rw[<- Array.find?_toList] at e;unfold Yee;rw[hd];dsimp only;split
 ·rename_i y q;rw[q] at e;exact congrArg some e
 ·rename_i q;rw[q] at e;have a:es.toList.any (·.refKey)=false:=by
   rw[Yfx];intro y hy;obtain⟨z,t,hkey⟩:=hk y (Array.mem_toList_iff.mp hy);simp[DictEntry.refKey,hkey]
  have a':¬ es.toList.any (·.refKey)=true:=by rw[a];exact YaJ
  rw[if_neg a'];exact congrArg some e
theorem ObjM.look {h:Heap}{x dx C:Addr}{mA:Str->Option Value} (I:ObjM h x dx C mA):∃ od,PySem.W.InstAt h x (YdY C dx) C (some od)/\∀ name,Yee name od=some (mA name) :=
 let ⟨od,ho,hl⟩:=Zi1 I.ns
 ⟨od,⟨I.obj,rfl,rfl,ho⟩,hl⟩
section
variable {prog:Program}{w:World}{A:Around}{E:Value->Shared->Prop}{s:Shared}{K:Yac}{x dx C f:Addr}{mA:Str->Option Value}{name:Str}{v:Value}
end
section
variable {P:Program}{w:World}{H H':Hp}{h h':Heap}{a C dx:Addr}{fs fs':List (Str × V)}
theorem Zmp (hok:HOk P w H h) (e:H a=some (.ins C dx fs)):∃ mA,ObjM h a dx C mA/\(∀ f,RelO (fs.lookup f) (mA f))/\PySem.Within mA (fs.map (·.1))/\fs.length<=1000/\H dx=some (.own a):=by
 obtain⟨d,z,ne,ob,mA,n,r,q⟩:=(show ObjOk P w H h a (.ins C dx fs) from hok a _ e)
 exact⟨mA,⟨ob,n,ne⟩,r,q,z,d⟩
end
structure Cls (K:Yac) (C:Addr):Prop where
 pg:Yfc K C YdR=true
 hd:PySem.W.hasDictIn K C=true
 po:PySem.W.plainOver K C=true
 sa:Yc4 K (.ref C) "__setattr__"=some (some (.builtin "object.__setattr__"))
theorem Cls.get {K:Yac}{C:Addr} (c:Cls K C) (f:Str):Yfc K C f=true:=c.pg
structure Con (K:Yac) (C:Addr) (f:Str) (v:V) (u:Value):Prop where
 at_:Yc4 K (.ref C) f=some (some u)
 rel:RelV v u
 get:Ye3 K u "__get__"=some none
 cp:PySem.W.copiedNames.contains f=false
structure Meth (K:Yac) (C:Addr) (m:Str) (f:Addr):Prop where
 at_:Yc4 K (.ref C) m=some (some (.ref f))
 fn:PySem.W.isFn K (.ref f)=true
 kp:Yaq K (.ref f)=true
section
variable {X:Cx}{pins:List (Addr × Obj)}{σ:St}{H:Hp}{s:Shared}{a C dx:Addr}{fs:List (Str × V)}{f:Str}{v:V}{A:Around}{E:Value->Shared->Prop}
end
section
variable {X:Cx}{o e value:Expr}{f:Str}{pos pos' tpos:Pos}{ta tv:TE}
end
section
variable {X:Cx}{pins:List (Addr × Obj)}{σ:St}{H:Hp}{s:Shared}{A:Around}{E:Value->Shared->Prop}{Q:Value->Shared->Prop}{c:Value}{b:Bool}
inductive TyOf (K:Yac) (H:Hp):V->Value->Prop where
 | non:TyOf K H .non (.type "NoneType")
 | bl (x:Bool):TyOf K H (.bl x) (.type "bool")
 | int (i:Int):TyOf K H (.int i) (.type "int")
 | str (x:Str):TyOf K H (.str x) (.type "str")
 | flt (x:UInt64):TyOf K H (.flt x) (.type "float")
 | lst {a:Addr}{xs:List V} (e:H a=some (.lst xs)):TyOf K H (.ref a) (.type "list")
 | frz {a:Addr}{o:Obj}{xs:List V} (e:H a=some (.frz o (.lst xs))):TyOf K H (.ref a) (.type "list")
 | tup {a:Addr}{xs:List V} (e:H a=some (.tup xs)):TyOf K H (.ref a) (.type "tuple")
 | dK {a:Addr}{kvs:List (Key × V)} (e:H a=some (.dK kvs)):TyOf K H (.ref a) (.type "dict")
 | dT {a:Addr}{kvs:List (List Key × V)} (e:H a=some (.dT kvs)):TyOf K H (.ref a) (.type "dict")
 | ins {a C dx:Addr}{fs:List (Str × V)} (e:H a=some (.ins C dx fs)) (cl:Cls K C) (ha:Yc4 K (.ref C) "__class__"=some (some (.builtin "object.__class__")))
   (hn:Ye3 K (.builtin "object.__class__") "__get__"=some (some (.builtin "getset_descriptor.__get__"))) (htk:PySem.W.takesIn K (.builtin "object.__class__")=some true)
   (hm:PySem.W.mroIn K C (.type "object")=some true):TyOf K H (.ref a) (.ref C)
theorem Zjf {x:V}{u t:Value} (I:Inv X pins σ H s) (rx:RelV x u) (ty:TyOf X.K H x t) (e:Ydv X.K t c=some b) (h:∀ tk,Q (.bool b) { s with toks:=tk }) :
  wpAny (model X.prog X.w) A (call (.builtin "isinstance") [u,c]) Q E s:=by
 cases ty with
 | non=>cases (show u=YbU from rx);exact YbE PySem.W.kitx_none I.kIn YdU e (fun z=>nomatch z) h
 | bl y=>cases (show u=YdQ y from rx);exact YbE PySem.W.kitx_bool I.kIn YdU e (fun z=>nomatch z) h
 | int i=>obtain⟨t,q⟩:=(show ∃ t,u=Yed i t from rx);cases q;exact YbE PySem.W.kitx_int I.kIn YdU e (fun z=>nomatch z) h
 | str y=>obtain⟨t,q⟩:=(show ∃ t,u=Yec y t from rx);cases q;exact YbE PySem.W.kitx_str I.kIn YdU e (fun z=>nomatch z) h
 | flt y=>obtain⟨t,q⟩:=(show ∃ t,u=Value.float y t from rx);cases q;exact YbE PySem.W.kitx_float I.kIn YdU e (fun z=>nomatch z) h
 | @lst a xs ea=>
  cases (show u=Ybt a from rx);obtain⟨_,_,n,_,h1⟩:=(show ObjOk X.prog X.w H s.heap a (.lst xs) from I.hok a _ ea)
  exact YbE Ye4 I.kIn ⟨_,h1,rfl⟩ e (fun z=>nomatch z) h
 | @frz a ob xs ea=>
  cases (show u=Ybt a from rx);obtain⟨_,_,_,n,_,h1⟩:=(show ObjOk X.prog X.w H s.heap a (.frz ob (.lst xs)) from I.hok a _ ea)
  exact YbE Ye4 I.kIn ⟨_,h1,rfl⟩ e (fun z=>nomatch z) h
 | @tup a xs ea=>
  cases (show u=Ybt a from rx);obtain⟨_,_,_,p⟩:=(show ObjOk X.prog X.w H s.heap a (.tup xs) from I.hok a _ ea)
  obtain⟨o,h1,h2,_⟩:=p;exact YbE PySem.W.kitx_tuple I.kIn ⟨o,h1,h2⟩ e (fun z=>nomatch z) h
 | @dK a kvs ea=>
  cases (show u=Ybt a from rx);obtain⟨_,_,vs,_,p⟩:=(show ObjOk X.prog X.w H s.heap a (.dK kvs) from I.hok a _ ea)
  obtain⟨o,es,ep,h1,h2,_⟩:=p;exact YbE Ye5 I.kIn ⟨o,h1,h2.1⟩ e (fun z=>nomatch z) h
 | @dT a kvs ea=>
  cases (show u=Ybt a from rx);obtain⟨_,_,xs,_,o,es,ep,h1,h2,_⟩:=(show ObjOk X.prog X.w H s.heap a (.dT kvs) from I.hok a _ ea)
  exact YbE Ye5 I.kIn ⟨o,h1,h2.1⟩ e (fun z=>nomatch z) h
 | @ins a C dx fs ea cl ha hn htk hm=>
  cases (show u=Ybt a from rx);obtain⟨mA,O,_⟩:=Zmp I.hok ea;obtain⟨od,J,_⟩:=O.look;exact YbE (PySem.W.kitx_own (cl.get _) cl.hd ha hn htk hm) I.kIn J e (fun z=>nomatch z) h
end
end L2
namespace L2
open PySem PySem.Spec PyProof.Rows
structure Room (k:Nat) (A:Around):Prop where
 hd:A.handled=none
 dp:A.depth+3*k+5<recursionLimit
 un:A.units+16*k+200<cLine
 gd:A.guards=some []
theorem Room.mono {j k:Nat}{A:Around} (r:Room k A) (h:j<=k):Room j A:=⟨r.hd,by have:=r.dp;omega,by have:=r.un;omega,r.gd⟩
theorem Room.deeper {k:Nat}{A:Around} (r:Room (k+1) A) (env:Env):Room k (A.deeper env) :=
 ⟨r.hd,by have:=r.dp;show A.depth+1+3*k+5<_;omega,by have:=r.un;show A.units+3+16*k+200<_;omega,r.gd⟩
theorem Room.depth {k:Nat}{A:Around} (r:Room k A):A.depth<recursionLimit:=by have:=r.dp;omega
def tNil:TA:=fun _ H Q=>Q [] H
def ZjX (ta:TE) (tr:TA):TA:=fun σ H Q=>ta σ H fun x H1=>tr σ H1 fun xs H2=>Q (x::xs) H2
section
variable {X:Cx}{e:Expr}{es:List Expr}{te:TE}{t:TA}{pos:Pos}
theorem Zac:PA X [] tNil:=fun _ _ _ _ H Q I h=>Yfr ⟨[],H,I,.nil,h⟩
theorem Zaa (ha:PE X e te) (hr:PA X es t) (hs:starEach (e::es) X.env=(false,eval e X.env)::starEach es X.env:=by rfl):PA X (e::es) (ZjX te t):=by
 intro pos pins s σ H Q I h;rw[hs];show wpAny _ _ (spliced ((false,eval e X.env)::backTo pos (starEach es X.env))) _ _ s;refine Yfi (thn (ha pins s σ H _ I h) fun u s1 ⟨x,H1,I1,r1,q1⟩=>?_);exact thn (hr pos pins s1 σ H1 _ I1 q1) fun us s2 ⟨xs,H2,I2,r2,q2⟩=>⟨x::xs,H2,I2,.cons r1 r2,q2⟩
def tTup (t:TA):TE:=fun σ H Q=>t σ H fun xs H1=>xs.length<=sizeLine/\∀ p,H1 p=none->Q (.ref p) (upd H1 p (.tup xs))
def tLst (t:TA):TE:=fun σ H Q=>t σ H fun xs H1=>xs.length<=sizeLine/\∀ p,H1 p=none->Q (.ref p) (upd H1 p (.lst xs))
theorem Zbi {x1} (h:PA X es t):PE X (.Tuple es x1 pos) (tTup t):=by
 intro pins s σ H Q I hq;refine wpAny_Tuple_spliced (thn (h pos pins s σ H _ I hq) fun us s1 ⟨xs,H1,I1,r,z,q⟩=>⟨by rw[<- r.length];exact z,?_⟩);have hf:H1 s1.heap.objs.size=none:=I1.hok.fresh (Yak _);refine⟨.ref s1.heap.objs.size,upd H1 s1.heap.objs.size (.tup xs),I1.laid (t':=s1.toks) (fun b u e=>Yae _ e) (Yak _) ?_,rfl,q _ hf⟩;exact⟨z,us,r,⟨_,YaB _ rfl,rfl,rfl,_,rfl⟩⟩
theorem ZaM (h:PA X es t):PE X (.List es pos) (tLst t):=by
 intro pins s σ H Q I hq;refine wpAny_List_spliced (thn (h pos pins s σ H _ I hq) fun us s1 ⟨xs,H1,I1,r,z,q⟩=>⟨by rw[<- r.length];exact z,?_⟩);have hf:H1 s1.heap.objs.size=none:=I1.hok.fresh (Yak _);refine⟨.ref s1.heap.objs.size,upd H1 s1.heap.objs.size (.lst xs),I1.laid (t':=s1.toks) (fun b u e=>Yae _ e) (Yak _) ?_,rfl,q _ hf⟩;exact⟨z,us,0,r,YaB _ rfl⟩
end
abbrev Sp:=List V->Hp->VK->XK->Prop
abbrev CXT:=List Env->Hp->Shared->XK->Value->Shared->Prop
structure Env0 (P:Program) (w:World) (K:Yac) (mg:Str->Option Value) (base:Heap) (A:Around) (outer:List Env) (s:Shared) (H:Hp):Prop where
 frames:A.frames=some outer
 mod:Mod K mg base
 bs:∀ b o,base.get? b=some o->s.heap.get? b=some o/\H b=none
 bsz:base.objs.size<=s.heap.objs.size
 funs:s.heap.FunFrames base outer
 frf:∀ b∈frs outer,H b=none
 hok:HOk P w H s.heap
 bare:AllBare s.gens
def CE (outer:List Env) (P:Program) (w:World) (H:Hp) (s:Shared) (Q:VK) (u:Value) (s':Shared):Prop :=
 ∃ v H',s'.os=s.os/\AllBare s'.gens/\Un (frs outer) [] H H' s.heap s'.heap/\HOk P w H' s'.heap/\RelV v u/\Q v H'
def CR (CX:CXT) (outer:List Env) (P:Program) (w:World) (H:Hp) (s:Shared) (Q:VK) (E:XK) (r:Result) (s':Shared):Prop :=
 match r with
 | .ok (.ret u)=>CE outer P w H s Q u s'
 | .ok _=>False
 | .error e=>CX outer H s E e s'
structure FnOk (P:Program) (w:World) (K:Yac) (mg:Str->Option Value) (base:Heap) (CX:CXT) (k:Nat) (f:Addr) (fd:FuncData) (ps:List Str) (sp:Sp):Prop where
 len:∀ vs H Q E,sp vs H Q E->vs.length=ps.length
 run:∀ (A:Around) (outer:List Env) (s:Shared) (H:Hp) (args:Args) (us:List Value) (vs:List V) (Q:VK) (E:XK),Room k A->Env0 P w K mg base A outer s H->BindsTo s fd args (ps.zip us)->Vals vs us->sp vs H Q E ->
  codeAny (model P w) A (.call (.ref f) args) (CR CX outer P w H s Q E) s
theorem FnOk.imp {P:Program}{w:World}{K:Yac}{mg:Str->Option Value}{base:Heap}{CX:CXT}{k:Nat}{f:Addr}{fd:FuncData}{ps:List Str}{sp sp':Sp} (F:FnOk P w K mg base CX k f fd ps sp)
  (h:∀ vs H Q E,sp' vs H Q E->sp vs H Q E):FnOk P w K mg base CX k f fd ps sp' :=
 ⟨fun vs H Q E q=>F.len vs H Q E (h _ _ _ _ q),fun A outer s H args us vs Q E hr he hb hv hs=>F.run A outer s H args us vs Q E hr he hb hv (h _ _ _ _ hs)⟩
section
variable {X:Cx}{pins:List (Addr × Obj)}{σ:St}{H:Hp}{s s':Shared}
theorem Inv.env0 (I:Inv X pins σ H s):Env0 X.prog X.w X.K X.mg X.base X.A X.stack s H :=
 ⟨I.ok.frames,I.ok.mod,I.bs,Ybw I.ok.bsz I.sz,I.stack,I.stkFree,I.hok,I.bare⟩
theorem Inv.after {Q:VK}{u:Value} (I:Inv X pins σ H s) (h:CE X.stack X.prog X.w H s Q u s'):EP X pins σ Q u s':=by
 obtain⟨v,H',os,bare,un,hok,r,q⟩:=h;obtain⟨hh,g,d,t,os'⟩:=s';obtain rfl:os'=s.os:=os;exact⟨v,H',I.call (h':=hh) (g':=g) (d':=d) (t':=t) (ch:=[]) un hok bare (fun b z=>absurd z (by simp)),r,q⟩
end
def ZjY (sp:Sp) (dvs:List V) (E:XK) (t:TA):TE:=fun σ H Q=>t σ H fun vs H1=>sp (vs++dvs) H1 Q E
def Binds (K:Yac) (fd:FuncData) (ps:List Str) (ds:List Value):Prop :=
 ∀ (s:Shared) (us:List Value),K.In s.heap->(us++ds).length=ps.length->BindsTo s fd ⟨us,[]⟩ (ps.zip (us++ds))
theorem Binds.all {K:Yac}{fd:FuncData}{ps:List Str} (h:∀ us:List Value,us.length=ps.length->bindArgs fd ⟨us,[]⟩=pure (ps.zip us)):Binds K fd ps []:=fun s us _ hl=>by
 rw[Ybb] at hl ⊢;exact .of_eq (h us hl)
def ZjN (CX:CXT) (X:Cx) (E:XK):Prop:=∀ (pins:List (Addr × Obj)) (σ:St) (H:Hp) (s:Shared) (e:Value) (s':Shared),Inv X pins σ H s->CX X.stack H s E e s'->X.xe e s'
section
variable {X:Cx}{CX:CXT}{k:Nat}{f C:Addr}{fd:FuncData}{ps:List Str}{sp:Sp}{dvs:List V}{ds:List Value}{E:XK}{x m:Str}{p pos apos:Pos}{e o:Expr}{es:List Expr}{ta:TE}{t:TA}
theorem ZgD {pins:List (Addr × Obj)}{σ:St}{H:Hp}{s:Shared}{Q:VK}{us:List Value}{vs:List V} (F:FnOk X.prog X.w X.K X.mg X.base CX k f fd ps sp) (hr:Room k X.A) (hb:Binds X.K fd ps ds) (hd:Vals dvs ds) (hx:ZjN CX X E)
  (I:Inv X pins σ H s) (r:Vals vs us) (h:sp (vs++dvs) H Q E):wpAny (model X.prog X.w) X.A (call (.ref f) us) (EP X pins σ Q) X.xe s:=by
 have r2:Vals (vs++dvs) (us++ds):=r.append hd;have hl:(us++ds).length=ps.length:=by rw[<- r2.length];exact F.len _ _ _ _ h
 refine wpAny_call (codeAny_mono (F.run X.A X.stack s H ⟨us,[]⟩ (us++ds) (vs++dvs) Q E hr I.env0 (hb s us I.kIn hl) r2 h) fun r s' hq=>?_)
 cases r with
 | error e=>exact hx pins σ H s e s' I hq
 | ok fl=>
  cases fl with
  | ret u=>exact I.after hq
  | next=>exact Ycx hq
  | brk=>exact Ycx hq
  | cont=>exact Ycx hq
theorem ZiA (F:FnOk X.prog X.w X.K X.mg X.base CX k f fd ps sp) (hr:Room k X.A) (hg:Gl X x) (hm:X.mg x=some (.ref f)) (hk:Yaq X.K (.ref f)=true) (hb:Binds X.K fd ps ds) (hd:Vals dvs ds) (hx:ZjN CX X E)
  (ha:PA X (e::es) t) (hdb:(x == ("__debug__":Str))=false:=by decide) (he:starEach (e::es) X.env=(false,eval e X.env)::starEach es X.env:=by rfl) (hpl:(backTo pos (starEach es X.env)).any (·.1)=false:=by rfl) :
  PE X (.Call (.Name x p) (e::es) [] pos) (ZjY sp dvs E t):=by
 intro pins s σ H Q I h;refine wpAny_Call_Name_kw (Zi5 I hg hm ?_ hdb);refine Yc0 (h₀:=X.base) I.ok.mod.kin hk (thn (ha pos pins s σ H _ I h) fun us s1 ⟨vs,H1,I1,r,q⟩=>⟨I1.kIn,?_⟩) he hpl;exact ZgD F hr hb hd hx I1 r q
structure Mk (K:Yac) (C f:Addr):Prop where
 makes:PySem.W.makesIn K C=true
 init:Yc4 K (.ref C) "__init__"=some (some (.ref f))
 fn:PySem.W.isFn K (.ref f)=true
 kp:Yaq K (.ref C)=true
end
section
variable {X:Cx}{CX:CXT}{k:Nat}{f C:Addr}{fd:FuncData}{ps ks:List Str}{sp:Sp}{E:XK}{x m:Str}{p pos apos kpos:Pos}{e o:Expr}{es:List Expr}{kws:List Keyword}{te ta:TE}{t tk:TA}{nm:Option Str}
structure KBinds (K:Yac) (fd:FuncData) (ps ks:List Str) (g:List Value->List Value->List Value) (gV:List V->List V->List V):Prop where
 to:∀ (s:Shared) (us ws:List Value),K.In s.heap->(g us ws).length=ps.length->BindsTo s fd ⟨us,ks.zip ws⟩ (ps.zip (g us ws))
 rel:∀ {vs:List V}{us:List Value}{zs:List V}{ws:List Value},Vals vs us->Vals zs ws->Vals (gV vs zs) (g us ws)
variable {g:List Value->List Value->List Value}{gV:List V->List V->List V}
end
structure FnScope (N P:List Str) (sc:Scope):Prop where
 kind:sc.kind=.function
 co:sc.isCoroutine=false
 gen:sc.isGenerator=false
 nd:N.Nodup
 pre:N.take P.length=P
 par:∀ x∈P,sc.names.lookup x=some .local ∨ sc.names.lookup x=some .cell
 nofree:∀ y∈sc.names,y.2≠.free
theorem ZfH {kindOf:Str->Option NameKind}{x:Str}:∀ {binds:List (Str × Value)}{m:Str->Option Value},(∀ v,(x,v) ∉ binds)->bindL kindOf binds m x=m x
 | [],_,_=>rfl
 | (n,v)::r,m,h=>by
  unfold bindL;rw[ZfH fun w hw=>h w (Yag _ hw)];split
  ·have:x≠n:=by rintro rfl;exact h v Yal
   simp[this]
  ·rfl
theorem ZfJ {kindOf:Str->Option NameKind}{x:Str}:∀ {binds:List (Str × Value)}{m:Str->Option Value},(∀ v,(x,v) ∉ binds)->bindC kindOf binds m x=m x
 | [],_,_=>rfl
 | (n,v)::r,m,h=>by
  unfold bindC;rw[ZfJ fun w hw=>h w (Yag _ hw)];split
  ·rfl
  ·have:x≠n:=by rintro rfl;exact h v Yal
   simp[this]
theorem ZfI {kindOf:Str->Option NameKind}{x:Str}{v:Value}:∀ {P:List Str}{vs:List Value}{i:Nat}{m:Str->Option Value},P.Nodup->P[i]?=some x->vs[i]?=some v->kindOf x=some .local ->
  bindL kindOf (P.zip vs) m x=some v
 | [],_,_,_,_,h,_,_=>by simp at h
 | _::_,[],_,_,_,_,h,_=>by simp at h
 | p::P,w::vs,0,m,nd,h1,h2,hk=>by
  simp at h1 h2;subst h1;subst h2;show bindL kindOf ((p,w)::P.zip vs) m p=_;unfold bindL;rw[ZfH fun v hv=>(Ydy.mp nd).1 (Yem hv).1,if_pos hk];simp
 | p::P,w::vs,i+1,m,nd,h1,h2,hk=>by
  show bindL kindOf ((p,w)::P.zip vs) m x=_;unfold bindL;exact ZfI (i:=i) (Ydy.mp nd).2 (by simpa using h1) (by simpa using h2) hk
theorem ZfK {kindOf:Str->Option NameKind}{x:Str}{v:Value}:∀ {P:List Str}{vs:List Value}{i:Nat}{m:Str->Option Value},P.Nodup->P[i]?=some x->vs[i]?=some v->kindOf x≠some .local ->
  bindC kindOf (P.zip vs) m x=some v
 | [],_,_,_,_,h,_,_=>by simp at h
 | _::_,[],_,_,_,_,h,_=>by simp at h
 | p::P,w::vs,0,m,nd,h1,h2,hk=>by
  simp at h1 h2;subst h1;subst h2;show bindC kindOf ((p,w)::P.zip vs) m p=_;unfold bindC;rw[ZfJ fun v hv=>(Ydy.mp nd).1 (Yem hv).1,if_neg hk];simp
 | p::P,w::vs,i+1,m,nd,h1,h2,hk=>by
  show bindC kindOf ((p,w)::P.zip vs) m x=_;unfold bindC;exact ZfK (i:=i) (Ydy.mp nd).2 (by simpa using h1) (by simpa using h2) hk
def ZdM (N:List Str) (vs:List V):St:=vs.map some++Yaj (N.length - vs.length) none
def cxOf (CX:CXT) (P:Program) (w:World) (K:Yac) (mg:Str->Option Value) (base:Heap) (N:List Str) (qual:Str) (scope:Scope) (f:Addr) (cd:Value) (A:Around) (outer:List Env) (s:Shared) (H:Hp) (E:XK):Cx where
 prog:=P
 w:=w
 K:=K
 mg:=mg
 base:=base
 A:=A.deeper (envOfC qual scope s.heap.objs.size f cd)
 N:=N
 s₀:=s
 H₀:=H
 env:=envOfC qual scope s.heap.objs.size f cd
 outer:=outer
 stack:=envOfC qual scope s.heap.objs.size f cd::outer
 ex:=[]
 calm:=true
 fn:=fun _=>true
 pn:=[]
 xe:=fun e s'=>wpAny (model P w) (A.deeper (envOfC qual scope s.heap.objs.size f cd)) (leaving (envOfC qual scope s.heap.objs.size f cd) e) (fun _ s''=>CX outer H s E e s'') (fun e' s''=>CX outer H s E e' s'') s'
theorem Zhf {sc:Scope}{n:Nat}{x:Str} (h:sc.names.lookup x=some .cell):∃ c,(cellsFrom n sc.names []).lookup x=some c:=by
 have q:=YeF sc.names n [] (.inl h);exact Option.isSome_iff_exists.mp q
theorem Zjg {CX:CXT}{P:Program}{w:World}{K:Yac}{mg:Str->Option Value}{base:Heap}{N ps:List Str}{qual:Str}{scope:Scope}{f:Addr}{cd:Value}{A:Around}{outer:List Env}{s s1:Shared}{H:Hp}{E:XK}{us:List Value}{vs:List V}
  (S:FnScope N ps scope) (hd:A.handled=none) (e0:Env0 P w K mg base A outer s H) (hl:vs.length=ps.length) (r:Vals vs us)
  (x:InCallC s s.heap.objs.size (bindL (envOfC qual scope s.heap.objs.size f cd).kindOf (ps.zip us) fun _=>none) (cellsFrom (s.heap.objs.size+1) scope.names []) (bindC (envOfC qual scope s.heap.objs.size f cd).kindOf (ps.zip us) fun _=>none) s1) :
  Inv (cxOf CX P w K mg base N qual scope f cd A outer s H E) [] (ZdM N vs) H s1:=by
 have hpl:ps.length<=N.length:=by have:=congrArg Ydl S.pre;rw[Yay] at this;(clear hl;omega)
 obtain⟨h1,tk,rfl,hk⟩:=x.done;have noA:∀ b:Addr,b ∉ (cxOf CX P w K mg base N qual scope f cd A outer s H E).ex:=fun b z=>absurd (show b∈([]:List Addr) from z) (by simp);refine⟨⟨e0.mod,S.kind,rfl,rfl,Yak _,fun y z c h1 h2=>?_,fun y hy=>?_,fun y c _ h=>?_,fun _=>hd,Around.frames_deeper e0.frames,.inr ⟨rfl,rfl⟩,fun b z=>absurd z (noA b),e0.bs,e0.bsz,fun b _ _=>noA b,fun b z=>absurd z (noA b),e0.funs,e0.frf⟩,
  rfl,e0.bare,Un.kept hk,⟨_,x.toInCall.ns,fun i y v h1 h2 h3=>?_⟩,fun y c h=>⟨_,x.cell y c h⟩,e0.hok.fresh (Yak _),fun y c h=>?_,fun p hp=>absurd (show p∈([]:List (Addr × Obj)) from hp) (by simp),e0.hok.kept hk,?_⟩
 ·exact name_of_addr x.apart (YbJ h1) (YbJ h2)
 ·have hy:scope.names.lookup y=some .cell∨scope.names.lookup y=some .free:=hy;rcases hy with hy | hy
  ·exact Zhf hy
  ·exact absurd rfl (S.nofree _ (YbJ hy))
 ·exact Ybs (x.above y c (YbJ h))
 ·have hi:i<vs.length:=by
   unfold ZdM at h2;by_cases hi:i<vs.length
   ·exact hi
   ·rw[YaV (by simpa using hi)] at h2;rw[YcC] at h2;split at h2 <;> cases h2
  have ha:vs[i]?=some v:=by
   unfold ZdM at h2;rw[Ybe (by simpa using hi),Yat] at h2
   cases e:vs[i]? with
   | none=>rw[e] at h2;cases h2
   | some a=>rw[e] at h2;cases h2;rfl
  obtain⟨u,hu,rv⟩:=r.get ha;have hp:ps[i]?=some y:=by
   rw[<- S.pre,Yb7 (by (clear hpl;omega))];exact h1
  have ndP:ps.Nodup:=by rw[<- S.pre];exact S.nd.sublist (List.take_sublist _ _)
  refine⟨u,rv,?_⟩;rcases S.par y (YaO hp) with k | k
  ·exact .inl ⟨k,ZfI ndP hp hu k⟩
  ·obtain⟨c,e⟩:=Zhf (n:=s.heap.objs.size+1) k;refine .inr ⟨.inl k,c,e,?_⟩;have q:=x.cell y c e;rw[ZfK ndP hp hu (by show scope.names.lookup y≠_;rw[k];decide)] at q;exact q
 ·exact e0.hok.fresh (Ybs (x.above y c (YbJ h)))
 ·unfold ZdM;show _=N.length;rw[Yaf,Yaa,YbQ];omega
theorem Znn {CX:CXT}{P:Program}{w:World}{K:Yac}{mg:Str->Option Value}{base:Heap}{k:Nat}{f:Addr}{name qual:Str}{params:Arguments}{body:List Stmt}{scope:Scope}{dV kV doc pm cdv ct oc:Value}{an od:Option Addr}
  {osl:Array (Option Value)}{N ps:List Str}{sp:Sp} (lk:K.lookup f=some ⟨oc,od,.func (YaA name qual params body scope dV kV doc pm an cdv ct),osl⟩) (hcd:Yax K cdv qual=true) (S:FnScope N ps scope)
  (len:∀ vs H Q E,sp vs H Q E->vs.length=ps.length)
  (hbody:∀ (A:Around) (outer:List Env) (s:Shared) (H:Hp) (vs:List V) (Q:VK) (E:XK),Room k (A.deeper (envOfC qual scope s.heap.objs.size f cdv))->sp vs H Q E ->
   ∃ t,PSs (cxOf CX P w K mg base N qual scope f cdv A outer s H E) body t/\t { nx:=fun _ H'=>Q .non H',rt:=Q } (ZdM N vs) H) :
  FnOk P w K mg base CX (k+1) f (YaA name qual params body scope dV kV doc pm an cdv ct) ps sp:=by
 refine⟨len,fun A outer s H args us vs Q E hr e0 hb r hsp=>?_⟩;have hl:=len _ _ _ _ hsp;have KX:K.In s.heap:=e0.mod.kin.keeps fun b o e=>(e0.bs b o e).1
 have lim:s.heap.NoLimit:=e0.mod.nolimit.keeps fun b o e=>(e0.bs b o e).1
 have hkind:∀ y∈ps.zip us,scope.names.lookup y.1=some .local ∨ (scope.names.lookup y.1=some .cell/\((cellsFrom (s.heap.objs.size+1) scope.names []).lookup y.1).isSome=true):=fun ⟨n,v⟩ hy=>by
  rcases S.par n (Yem hy).1 with q | q
  ·exact .inl q
  ·exact .inr ⟨q,YeF _ _ _ (.inl q)⟩
 refine codeAny_call_function hr.depth (KX _ _ lk) rfl S.co S.gen rfl (PySem.W.codeRec_of KX hcd) (hb _ _ _ _ ?_);refine wpAny_newFunctionEnv_cells S.kind hkind fun env he s1 x=>?_;subst he;refine⟨lim.keeps x.toInCall.keep,codeAny_func ?_⟩;obtain⟨t,ht,hq⟩:=hbody A outer s H vs Q E (hr.deeper _) hsp;have I:Inv (cxOf CX P w K mg base N qual scope f cdv A outer s H E) [] (ZdM N vs) H s1:=Zjg S hr.hd e0 hl r x;refine wpAny_mono (ht [] s1 (ZdM N vs) H _ I hq) (fun fl s' hs=>?_) fun e s' hs=>hs;have fin:∀ {σ':St}{H':Hp}{v:V}{u:Value},Inv (cxOf CX P w K mg base N qual scope f cdv A outer s H E) [] σ' H' s'->RelV v u->Q v H'->CE outer P w H s Q u s' :=
  fun {σ' H' v u} J rv q=>⟨v,H',J.os,J.bare,J.base,J.hok,rv,q⟩
 cases fl with
 | ret u=>
  obtain⟨v,σ',H',J,rv,q⟩:=hs;exact fin J rv q
 | next=>
  obtain⟨σ',H',J,q⟩:=hs;exact fin (v:=V.non) (u:=YbU) J rfl q
 | brk=>
  obtain⟨_,_,_,q⟩:=hs;exact Ycx q
 | cont=>
  obtain⟨_,_,_,q⟩:=hs;exact Ycx q
end L2
namespace L2
open PySem PySem.Spec PyProof.Rows
section
variable {X:Cx}{x:Str}{p pos:Pos}{e:Expr}{es:List Expr}{t:TA}{id T:String}{r:List V->Hp->VK->Prop}
def tCB (r:List V->Hp->VK->Prop) (t:TA):TE:=fun σ H Q=>t σ H fun vs H1=>r vs H1 Q
theorem Zak (hc:Zcz X (.builtin id) r) (hg:Gl X x) (hm:X.mg x=none) (hv:bootBuiltins x=some (.builtin id)) (ha:PA X (e::es) t) (hn:x≠"__name__":=by decide) (hdb:(x == ("__debug__":Str))=false:=by decide)
  (he:starEach (e::es) X.env=(false,eval e X.env)::starEach es X.env:=by rfl) (hpl:(backTo pos (starEach es X.env)).any (·.1)=false:=by rfl):PE X (.Call (.Name x p) (e::es) [] pos) (tCB r t):=by
 intro pins s σ H Q I h;refine wpAny_Call_Name_kw (Zcs I hg hm hv ?_ hn hdb);exact PyProof.Rows.callWith_builtin1 (thn (ha pos pins s σ H _ I h) fun us s1 ⟨vs,H1,I1,r1,q1⟩=>hc pins s1 σ H1 vs us Q I1 r1 q1) he hpl
theorem ZaP (hc:Zcz X (.type T) r) (hg:Gl X x) (hm:X.mg x=none) (hv:bootBuiltins x=some (.type T)) (ha:PA X (e::es) t) (hn:x≠"__name__":=by decide) (hdb:(x == ("__debug__":Str))=false:=by decide)
  (he:starEach (e::es) X.env=(false,eval e X.env)::starEach es X.env:=by rfl) (hpl:(backTo pos (starEach es X.env)).any (·.1)=false:=by rfl):PE X (.Call (.Name x p) (e::es) [] pos) (tCB r t):=by
 intro pins s σ H Q I h;refine wpAny_Call_Name_kw (Zcs I hg hm hv ?_ hn hdb);exact Ybr (thn (ha pos pins s σ H _ I h) fun us s1 ⟨vs,H1,I1,r1,q1⟩=>hc pins s1 σ H1 vs us Q I1 r1 q1) he hpl
end
end L2
namespace HT
open PySem PyProof.Rows
section
open PySem.SeqAt
open PySem.AutoSeq1 (wpAny_loadPart')
open PySem.MeetsSeq PySem.MeetsSeq2 PySem.MeetsSeq3
end
section
variable {prog:Program}{w:World}{A:Around}{E:Value->Shared->Prop}{s:Shared}
theorem cat_tup {t b:Addr}{vs ws:List Value}{Q:Value->Shared->Prop} (ht:IsTup s.heap t vs.toArray) (hb:IsTup s.heap b ws.toArray) (hv:vs≠[])
  (h1:ws=[]->Q (.ref t) s) (h2:ws≠[]->Q (.ref s.heap.objs.size) { s with heap:=s.heap.push { cls:=.type "tuple",data:=.seq (vs++ws).toArray } })
  (hsz:vs.length+ws.length<=sizeLine):wpAny (model prog w) A (binaryOp .Add (.ref t) (.ref b)) Q E s:=by
 obtain⟨⟨cls,dd,data,sl⟩,ho,hc,n,hd⟩:=id ht;obtain⟨⟨cls2,dd2,data2,sl2⟩,ho2,hc2,n2,hd2⟩:=id hb;simp only at hc hd hc2 hd2;subst hc hd hc2 hd2;have e:vs.toArray++ws.toArray=(vs++ws).toArray:=by simp
 by_cases hw:ws=[]
 ·exact concat_meets ⟨_,ho,rfl⟩ ⟨_,ho2,rfl⟩ noFill_tuple_add seq_tuple_add Ydi Ydd (Yc7 _ _)
   (tuple_addW1 t b vs.toArray ws.toArray n n2 dd dd2 sl sl2 (by simpa using hv) (by simp[hw])) ⟨ho,ho2,h1 hw⟩
 ·refine concat_meets ⟨_,ho,rfl⟩ ⟨_,ho2,rfl⟩ noFill_tuple_add seq_tuple_add Ydi Ydd (Yc7 _ _)
   (tuple_addW2 t b vs.toArray ws.toArray n n2 dd dd2 sl sl2 (by simpa using hv) (by simpa using hw) (by rw[Yah,Yah];exact hsz)) ⟨ho,ho2,?_⟩
  rw[e];exact h2 hw
def sIx (n d:Nat):Option Int->Nat
 | none=>d
 | some v=>if v<0 then (v+(n:Int)).toNat else min v.toNat n
theorem sIx_nat (n d k:Nat):sIx n d (some (k:Int))=min k n:=by
 show (if (k:Int)<0 then ((k:Int)+(n:Int)).toNat else min (k:Int).toNat n)=min k n;rw[if_neg (by omega),YaS]
theorem ZmW (n d:Nat) (hd:d<=n) (o:Option Int):sIx n d o<=n:=by
 cases o with
 | none=>exact hd
 | some v=>
  show (if v<0 then (v+(n:Int)).toNat else min v.toNat n)<=n;by_cases hv:v<0
  ·rw[if_pos hv];(clear hd;omega)
  ·rw[if_neg hv];exact Nat.min_le_right _ _
theorem clip_eq (v:Int) (n d:Nat):(if v<0 then max (v+(n:Int)) 0 else min v (n:Int))=((sIx n d (some v):Nat):Int):=by
 show (if v<0 then max (v+(n:Int)) 0 else min v (n:Int))=(((if v<0 then (v+(n:Int)).toNat else min v.toNat n):Nat):Int);by_cases hv:v<0
 ·simp only[if_pos hv];(clear hv;omega)
 ·simp only[if_neg hv];omega
theorem ZhR (lo hi:Option Int) (n:Nat):YcU lo hi 1 (n:Int)=(((sIx n 0 lo:Nat):Int),((sIx n n hi:Nat):Int)):=by
 have h1:¬ ((1:Int)<0):=by omega
 unfold YcU;simp only[h1,if_false];refine Prod.ext ?_ ?_
 ·cases lo with
  | none=>rfl
  | some v=>exact clip_eq v n 0
 ·cases hi with
  | none=>rfl
  | some v=>exact clip_eq v n n
theorem ZhH (i j:Nat):Ycf (i:Int) (j:Int) 1=j - i:=by
 unfold Ycf;have h1:(1:Int) > 0:=by omega
 simp only[h1,if_true,Yfb];split <;> (clear h1;omega)
theorem ZdY {v:Value}{o:Option Int}{Q:Option Int->Shared->Prop} (p:IsPart v o) (h:Q o s):wpAny (model prog w) A (Builtin.Slice.slicePartIndex v) Q E s:=by
 cases p with
 | none=>exact slicePart_none h
 | int i t=>exact slicePart_int h
theorem Zc8 {sl:Addr}{vl vu:Value}{lo hi:Option Int}{n:Nat}{Q:Int × Int × Nat->Shared->Prop} (hs:s.heap.IsSliceOf sl vl vu .none) (pl:IsPart vl lo) (pu:IsPart vu hi)
  (h:Q (((sIx n 0 lo:Nat):Int),1,sIx n n hi - sIx n 0 lo) s):wpAny (model prog w) A (YdH (.ref sl) (pure (n:Int))) Q E s:=by
 obtain⟨os,hos,hcs,hds⟩:=id hs;unfold YdH Builtin.Slice.sliceFields;refine wpAny_bind (wpAny_bind (wpAny_field hos hds (x:=vl) rfl (wpAny_bind (wpAny_field hos hds (x:=vu) rfl (wpAny_bind (wpAny_field hos hds (x:=.none) rfl (wpAny_pure ?_)))))));refine wpAny_bind (slicePart_none ?_);show wpAny _ _ (if ((1:Int) == 0)=true then _ else _) _ _ s;rw[if_neg (by decide)];refine wpAny_bind (ZdY pl (wpAny_bind (ZdY pu (wpAny_bind (wpAny_pure ?_)))));show wpAny _ _ (match YcU lo hi 1 (n:Int) with | (lo,hi)=>pure (lo,(1:Int),Ycf lo hi 1)) _ _ s;rw[ZhR lo hi n];show wpAny _ _ (pure (((sIx n 0 lo:Nat):Int),(1:Int),Ycf ((sIx n 0 lo:Nat):Int) ((sIx n n hi:Nat):Int) 1)) _ _ s;rw[ZhH];exact wpAny_pure h
theorem Zkl (xs:Array Value) (i k:Nat):((YaG k).filterMap fun (m:Nat)=>xs[((i:Int)+(m:Int)*1).toNat]?).toArray=((xs.toList.drop i).take k).toArray:=by
 have e:(fun (m:Nat)=>xs[((i:Int)+(m:Int)*1).toNat]?)=fun m=>xs[i+m]?:=by
  funext m
  have:((i:Int)+(m:Int)*1).toNat=i+m:=by omega
  rw[this]
 rw[e];have:=pick_run xs i k;rw[YdN] at this;have e2:((fun x=>xs[x]?) ∘ fun x=>i+x)=fun m=>xs[i+m]?:=rfl;rw[e2] at this;rw[this]
theorem getItem_tuple_cut {t sl:Addr}{items:Array Value}{vl vu:Value}{lo hi:Option Int}{Q:Value->Shared->Prop} (ht:IsTup s.heap t items) (hs:s.heap.IsSliceOf sl vl vu .none) (pl:IsPart vl lo) (pu:IsPart vu hi)
  (hw:¬ (sIx items.size 0 lo=0/\sIx items.size items.size hi=items.size))
  (h:Q (.ref s.heap.objs.size) { s with heap:=s.heap.push { cls:=.type "tuple",data:=.seq ((items.toList.drop (sIx items.size 0 lo)).take (sIx items.size items.size hi - sIx items.size 0 lo)).toArray } })
  (hsz:items.size<=sizeLine):wpAny (model prog w) A (getItem (.ref t) (.ref sl)) Q E s:=by
 have htake:sizeOk (.seq ((items.toList.drop (sIx items.size 0 lo)).take (sIx items.size items.size hi - sIx items.size 0 lo)).toArray):=by
  show ((items.toList.drop (sIx items.size 0 lo)).take (sIx items.size items.size hi - sIx items.size 0 lo)).toArray.size<=sizeLine;rw[Yah,Yay,Ybg,Ya4]
  (clear hw;omega)
 have hj:sIx items.size items.size hi<=items.size:=ZmW _ _ (Yak _) hi;obtain⟨os,hos,hcs,hds⟩:=id hs;have hTs:s.TypeIs (.ref sl) "slice":=⟨os,hos,hcs⟩
 unfold getItem
 try with_reducible refine wpAny_holding ?_
 first | refine wpAny_bind (wpAny_pure ?_) | skip
 refine wpAny_bind (wpAny_sequenceKey ht.typeIs (by decide) ?_);refine wpAny_bind (wpAny_callSpecial?_slot (name:=Ydb "__getitem__") ht.typeIs Ycv
  (wpAny_call_entry Ycv ht.typeIs entry_tuple_getitem ?_ (args_tuple_getitem _ _)))
 show wpAny _ _ (Builtin.Tuple.tupleItemsOf (.ref t) >>= _) _ _ s;refine wpAny_bind (tupleItemsOf_ ht ?_);refine wpAny_bind (wpAny_typeOf hTs ?_);rw[if_pos (by decide)];refine wpAny_bind (Zc8 hs pl pu ?_);have hno:¬ ((((sIx items.size 0 lo:Nat):Int) == 0 && (1:Int) == 1 && (sIx items.size items.size hi - sIx items.size 0 lo) == items.size)=true):=by
  intro q;rw[Ycu,Ycu] at q;have q1:((sIx items.size 0 lo:Nat):Int)=0:=eq_of_beq q.1.1;have q2:sIx items.size items.size hi - sIx items.size 0 lo=items.size:=eq_of_beq q.2;exact hw ⟨by (clear q2 q hj hsz hw;omega),by (clear q1 q hsz hw;omega)⟩
 show wpAny _ _ (if (((sIx items.size 0 lo:Nat):Int) == 0 && (1:Int) == 1 && (sIx items.size items.size hi - sIx items.size 0 lo) == items.size)=true then _ else _) _ _ s;rw[if_neg hno,Zkl]
 first
  | exact wpAny_bind (m:=Ycj _) (wpAny_newObj_type (wpAny_pure ⟨_,rfl,wpAny_pure h⟩) htake)
  | exact wpAny_bind (m:=Ycj _) (wpAny_newObj_type (wpAny_bind (wpAny_pure (wpAny_pure ⟨_,rfl,wpAny_pure h⟩))) htake)
  | exact wpAny_bind (wpAny_bind (m:=Ycj _) (wpAny_newObj_type (wpAny_pure (wpAny_pure ⟨_,rfl,wpAny_pure h⟩)) htake))
  | exact wpAny_bind (wpAny_bind (m:=Ycj _) (wpAny_newObj_type (wpAny_pure ⟨_,rfl,wpAny_pure h⟩) htake))
end
end HT
namespace L2
open PySem PySem.Spec PyProof.Rows
abbrev TO:=St->Hp->(Option Int->Hp->Prop)->Prop
def PO (X:Cx) (e:Option Expr) (t:TO):Prop :=
 ∀ (pins:List (Addr × Obj)) (s:Shared) (σ:St) (H:Hp) (Q:Option Int->Hp->Prop),Inv X pins σ H s->t σ H Q ->
  wpAny (model X.prog X.w) X.A (evalPart e X.env) (fun u s'=>∃ o H',Inv X pins σ H' s'/\IsPart u o/\Q o H') X.xe s
def ZlC:TO:=fun _ H Q=>Q none H
def ZnH (t:TE):TO:=fun σ H Q=>t σ H fun x H1=>∃ i,x=.int i/\Q (some i) H1
theorem ZcU {ns:List Int}:∀ {us:List Value},Vals (ns.map V.int) us->IntsAre us ns:=by
 induction ns with
 | nil=>intro us r;rw[Yd2] at r;cases r;exact .nil
 | cons n ns ih=>
  intro us r;rw[YaM] at r
  cases r with
  | cons r1 r2=>
   obtain⟨t,e⟩:=r1;subst e;exact .cons n t (ih r2)
section
variable {X:Cx}{e:Expr}{te:TE}{lo hi:Option Expr}{tl th:TO}{pos p2:Pos}
theorem ZbD:PO X none ZlC:=by
 intro pins s σ H Q I h;rw[evalPart_none];exact wpAny_pure ⟨none,H,I,.none,h⟩
theorem Za3 (h:PE X e te):PO X (some e) (ZnH te):=by
 intro pins s σ H Q I hw;rw[evalPart_some];refine thn (h pins s σ H _ I hw) fun u s1 ⟨x,H1,I1,r1,q1⟩=>?_;obtain⟨i,rfl,q⟩:=q1;obtain⟨t,rfl⟩:=r1;exact⟨some i,H1,I1,.int i t,q⟩
def SlR (X:Cx) (r:V->Option Int->Option Int->Hp->VK->Prop):Prop :=
 ∀ (pins:List (Addr × Obj)) (s:Shared) (σ:St) (H:Hp) (x:V) (v vl vu:Value) (lo hi:Option Int) (sl:Addr) (Q:VK),Inv X pins σ H s->RelV x v->s.heap.IsSliceOf sl vl vu .none->IsPart vl lo->IsPart vu hi->r x lo hi H Q ->
  ∃ T id,typeLookup (.type T) "__getitem__"=pure (some (.builtin id))/\s.TypeIs v T/\wpAny (model X.prog X.w) X.A (getItem v (.ref sl)) (EP X pins σ Q) X.xe s
def tSl (r:V->Option Int->Option Int->Hp->VK->Prop) (te:TE) (tl th:TO):TE:=fun σ H Q=>te σ H fun x H1=>tl σ H1 fun l H2=>th σ H2 fun u H3=>r x l u H3 Q
theorem Za7 {r:V->Option Int->Option Int->Hp->VK->Prop} (hr:SlR X r) (he:PE X e te) (hl:PO X lo tl) (hu:PO X hi th):PE X (.Subscript e (.Slice lo hi none p2) pos) (tSl r te tl th):=by
 intro pins s σ H Q I h;refine Subscript_ (thn (he pins s σ H _ I h) fun v s1 ⟨x,H1,I1,r1,q1⟩=>?_);refine wpAny_Slice (thn (hl pins s1 σ H1 _ I1 q1) fun vl s2 ⟨l,H2,I2,pl,q2⟩=>thn (hu pins s2 σ H2 _ I2 q2) fun vu s3 ⟨u,H3,I3,pu,q3⟩=>?_);rw[evalPart_none];refine wpAny_pure ?_;have I4:Inv X pins σ H3 { s3 with heap:=s3.heap.push { cls:=.type "slice",data:=.fields #[vl,vu,.none] } }:=I3.kept (t':=s3.toks) fun b ob q=>Yae _ q;obtain⟨T,id,hT,ht,hg⟩:=hr pins { s3 with heap:=s3.heap.push { cls:=.type "slice",data:=.fields #[vl,vu,.none] } } σ H3 x v vl vu l u s3.heap.objs.size Q I4 r1 (Yek ..) pl pu q3;show wpAny (model X.prog X.w) X.A (subscriptTail e (.Slice lo hi none p2) v (.ref s3.heap.objs.size)) (EP X pins σ Q) X.xe { s3 with heap:=s3.heap.push { cls:=.type "slice",data:=.fields #[vl,vu,.none] } };exact tail_any (ops:=[.ref s3.heap.objs.size,v]) ht hT hg (by with_unfolding_all rfl)
def cutV (xs:List V) (lo hi:Option Int):List V:=(xs.drop (HT.sIx xs.length 0 lo)).take (HT.sIx xs.length xs.length hi - HT.sIx xs.length 0 lo)
theorem ZdE (xs:List V) (lo hi:Option Int):(cutV xs lo hi).length<=xs.length:=by
 unfold cutV;rw[Yay,Ybg];omega
def rSlT (K:Yac):V->Option Int->Option Int->Hp->VK->Prop:=fun x lo hi H Q=>∃ a xs,x=.ref a/\SqT K H a xs /\
 ¬ (HT.sIx xs.length 0 lo=0/\HT.sIx xs.length xs.length hi=xs.length)/\∀ p,H p=none->Q (.ref p) (upd H p (.tup (cutV xs lo hi)))
theorem Zgz:SlR X (rSlT X.K):=by
 intro pins s σ H x v vl vu lo hi sl Q I rx hs pl pu h;obtain⟨a,xs,rfl,hx,hw,q⟩:=h;cases rx;obtain⟨its,r,ht,hz⟩:=I.tuple hx;have hlen:its.toArray.size=xs.length:=by rw[Yah];exact r.length.symm
 refine⟨"tuple",_,Ycv.lookup,ht.typeIs,?_⟩;refine HT.getItem_tuple_cut ht hs pl pu (by rw[hlen];exact hw) ?_ (by rw[hlen];exact hz);rw[hlen];refine⟨.ref s.heap.objs.size,_,I.laid (t':=s.toks) (o:=.tup (cutV xs lo hi)) (fun b ob q=>Yae _ q) (Yak _) ?_,rfl,q _ (I.hok.fresh (Yak _))⟩;exact⟨Ybw (ZdE xs lo hi) hz,_,(r.drop (HT.sIx xs.length 0 lo)).take (HT.sIx xs.length xs.length hi - HT.sIx xs.length 0 lo),IsTupD.new _ _⟩
def ZmY (K:Yac):R2:=fun x y H Q=>∃ a b xs ys,x=.ref a/\y=.ref b/\SqT K H a xs/\SqT K H b ys/\xs≠[]/\xs.length+ys.length<=sizeLine /\
 (ys=[]->Q (.ref a) H)/\(ys≠[]->∀ p,H p=none->Q (.ref p) (upd H p (.tup (xs++ys))))
theorem Vals.nil_iff {xs:List V}{us:List Value} (r:Vals xs us):us=[]↔xs=[]:=by
 cases r with
 | nil=>simp
 | cons _ _=>simp
theorem ZiD:OpR X (binaryOp .Add) (ZmY X.K):=by
 intro pins s σ H x y v u Q I rx ry h;obtain⟨a,b,xs,ys,rfl,rfl,ha,hb,hx,hz,q1,q2⟩:=h;cases rx;cases ry;obtain⟨its,r1,p1,_⟩:=I.tuple ha;obtain⟨its2,r2,p2,_⟩:=I.tuple hb;refine HT.cat_tup p1 p2 (fun z=>hx (r1.nil_iff.mp z)) (fun z=>⟨.ref a,H,I,rfl,q1 (r2.nil_iff.mp z)⟩) (fun z=>?_) (by rw[<- r1.length,<- r2.length];exact hz);refine⟨.ref s.heap.objs.size,_,I.laid (t':=s.toks) (o:=.tup (xs++ys)) (fun b ob q=>Yae _ q) (Yak _) ?_,rfl,q2 (fun w=>z (r2.nil_iff.mpr w)) _ (I.hok.fresh (Yak _))⟩;exact⟨by rw[Yaf];exact hz,_,r1.append r2,IsTupD.new _ _⟩
end
end L2
namespace L2
open PySem PySem.Spec PyProof.Rows
def ixN (n:Nat) (i:Int):Option Nat:=if 0<=i then (if i<n then some i.toNat else none) else if -(n:Int)<=i then some (i+n).toNat else none
def atI {α:Type} (xs:List α) (i:Int):Option α:=(ixN xs.length i).bind fun j=>xs[j]?
theorem Zja {n:Nat}{i:Int}{j:Nat} (h:ixN n i=some j):seqIndex? i n=some j/\j<n/\-(n:Int)<=i/\i<n:=by
 unfold ixN at h;by_cases h0:0<=i
 ·rw[if_pos h0] at h;by_cases h1:i<n
  ·rw[if_pos h1] at h;have e:i.toNat=j:=YaL h;exact⟨by rw[seqIndex_of h0 h1,e],by omega,by (clear e h1;omega),h1⟩
  ·rw[if_neg h1] at h;cases h
 ·rw[if_neg h0] at h;by_cases h1:-(n:Int)<=i
  ·rw[if_pos h1] at h;have e:(i+n).toNat=j:=YaL h;exact⟨by rw[seqIndex_neg (by (clear e h1;omega)) h1,e],by omega,h1,by (clear e h1;omega)⟩
  ·rw[if_neg h1] at h;cases h
theorem ZjJ {α:Type}{xs:List α}{i:Int}{v:α} (h:atI xs i=some v):∃ j,seqIndex? i xs.length=some j/\xs[j]?=some v/\j<xs.length/\-(xs.length:Int)<=i/\i<xs.length:=by
 unfold atI at h
 cases e:ixN xs.length i with
 | none=>rw[e] at h;cases h
 | some j=>
  rw[e] at h;obtain⟨h1,h2,h3,h4⟩:=Zja e;exact⟨j,h1,h,h2,h3,h4⟩
theorem ZdJ {α:Type}{xs:List α}{j:Nat}{v:α} (h:xs[j]?=some v):atI xs (j:Int)=some v:=by
 have hj:j<xs.length:=(Yab.mp h).1
 have e:ixN xs.length (j:Int)=some j:=by
  unfold ixN;rw[if_pos (by (clear hj;omega)),if_pos (by omega)];simp
 unfold atI;rw[e];exact h
theorem Zk5 {α:Type} (xs:List α) (v:α):atI (xs++[v]) (-1)=some v:=by
 have hl:(xs++[v]).length=xs.length+1:=by simp
 have e:ixN (xs++[v]).length (-1)=some xs.length:=by
  unfold ixN;rw[hl,if_neg (by decide),if_pos (by (clear hl;omega))];congr 1
  (clear hl;omega)
 unfold atI;rw[e];show (xs++[v])[xs.length]?=some v;simp
def ZjM (b:Expr):Prop:=∀ o i,subscripted b false o i=operate [o,i] (getItem o i)
def IxR (X:Cx) (r:R2):Prop :=
 ∀ (value slice:Expr) (pins:List (Addr × Obj)) (s:Shared) (σ:St) (H:Hp) (x y:V) (v u:Value) (Q:VK),Inv X pins σ H s->RelV x v->RelV y u->r x y H Q ->
  subscripted slice false v u=operate [v,u] (getItem v u)->wpAny (model X.prog X.w) X.A (subscriptTail value slice v u) (EP X pins σ Q) X.xe s
def MtR (X:Cx) (id:String) (r:V->List V->Hp->VK->Prop):Prop :=
 ∀ (pins:List (Addr × Obj)) (s:Shared) (σ:St) (H:Hp) (x:V) (xs:List V) (v:Value) (us:List Value) (Q:VK),Inv X pins σ H s->RelV x v->Vals xs us->r x xs H Q ->
  wpAny (model X.prog X.w) X.A (call (.builtin id) (v::us)) (EP X pins σ Q) X.xe s
section
variable {X:Cx}{a b:Expr}{ta tb:TE}{pos:Pos}
theorem IxR.or {r r':R2} (h:IxR X r) (h':IxR X r'):IxR X (fun x y H Q=>r x y H Q∨r' x y H Q):=by
 intro value slice pins s σ H x y v u Q I rx ry q hs;rcases q with q | q
 ·exact h value slice pins s σ H x y v u Q I rx ry q hs
 ·exact h' value slice pins s σ H x y v u Q I rx ry q hs
theorem Zaz {r:R2} (hr:IxR X r) (ha:PE X a ta) (hb:PE X b tb) (hs:ZjM b):PE X (.Subscript a b pos) (tOp r ta tb):=by
 intro pins s σ H Q I h;exact Subscript_ (binT ha hb I h fun v u s2 x y H2 I2 rx ry q=>hr a b pins s2 σ H2 x y v u Q I2 rx ry q (hs _ _))
def rIxL (K:Yac):R2:=fun x y H Q=>∃ p xs i v,x=.ref p/\y=.int i/\SqL K H p xs/\atI xs i=some v/\Q v H
def rIxT (K:Yac):R2:=fun x y H Q=>∃ p xs i v,x=.ref p/\y=.int i/\SqT K H p xs/\atI xs i=some v/\Q v H
theorem ix_list:IxR X (rIxL X.K):=by
 intro value slice pins s σ H x y v u Q I rx ry h hs;obtain⟨p,xs,i,z,rfl,rfl,hq,he,q⟩:=h;cases rx;obtain⟨t,rfl⟩:=ry;obtain⟨its,r,pl,hz⟩:=I.list hq;obtain⟨j,h1,h2,h3,h4,h5⟩:=ZjJ he;obtain⟨w,ew,rw'⟩:=r.get h2;have hl:=r.length;have hn:=Zef;have fin:EP X pins σ Q w s:=⟨z,H,I,rw',q⟩
 by_cases h0:0<=i
 ·have hj:i.toNat=j:=by
   rw[seqIndex_of h0 h5] at h1;exact YaL h1
  exact item_listR pl.isList h0 (by (clear hj h0 hl h4 h3;omega)) (by rw[hj];simpa using ew) fin hs
 ·have hj:(i+(its.toArray.size:Int)).toNat=j:=by
   rw[seqIndex_neg (by (clear hn hl h5 h4 h3 hz;omega)) h4] at h1;rw[Yah,<- hl];exact YaL h1
  exact subscriptTail_builtinR (x:=w) pl.isList.typeIs slot_list_getitem.lookup
   (wpAny_getItem_list_neg (Q:=fun r s'=>r=w/\EP X pins σ Q r s') pl.isList (by (clear hj hn hl h5 h4 h3 hz;omega)) (by rw[Yah] <;> (clear hj h0 hn h5 h3 hz;omega)) (by (clear hj h0 hl h5 h3;omega)) (by rw[hj];simpa using ew) ⟨rfl,fin⟩) hs
theorem Za4:IxR X (rIxT X.K):=by
 intro value slice pins s σ H x y v u Q I rx ry h hs;obtain⟨p,xs,i,z,rfl,rfl,hq,he,q⟩:=h;cases rx;obtain⟨t,rfl⟩:=ry;obtain⟨its,r,pl,hz⟩:=I.tuple hq;obtain⟨j,h1,h2,h3,h4,h5⟩:=ZjJ he;obtain⟨w,ew,rw'⟩:=r.get h2;have hl:=r.length;have hn:=Zef;have fin:EP X pins σ Q w s:=⟨z,H,I,rw',q⟩
 exact subscriptTail_builtinR (x:=w) pl.typeIs slot_tuple_getitem.lookup
  (getItem_tuple (j:=j) (Q:=fun r s'=>r=w/\EP X pins σ Q r s') pl (by (clear hl h5 h3;omega)) (by (clear hl h4 h3;omega)) (by rw[Yah,<- hl];exact h1) (by simpa using ew) ⟨rfl,fin⟩) hs
theorem ZhL (its:List Value) (n j:Nat) (u:Value):YbZ (·.setIfInBounds j u) { cls:=.type "list",data:=.seq its.toArray n }={ cls:=.type "list",data:=.seq (its.set j u).toArray n }:=by
 simp[YbZ]
theorem Inv.lst {pins:List (Addr × Obj)}{σ:St}{H:Hp}{s:Shared}{p:Addr}{xs:List V} (I:Inv X pins σ H s) (h:H p=some (.lst xs)) :
  ∃ (its:List Value) (n:Nat),Vals xs its/\s.heap.get? p=some { cls:=.type "list",data:=.seq its.toArray n }/\xs.length<=sizeLine:=by
 obtain⟨z,its,n,r,e⟩:=I.hok p _ h;exact⟨its,n,r,e,z⟩
theorem Inv.lstUpd {pins:List (Addr × Obj)}{σ:St}{H:Hp}{s:Shared}{p:Addr}{xs ys:List V}{its its':List Value}{n n':Nat}{f:Obj->Obj} (I:Inv X pins σ H s) (h:H p=some (.lst xs))
  (ho:s.heap.get? p=some { cls:=.type "list",data:=.seq its.toArray n }) (hf:f { cls:=.type "list",data:=.seq its.toArray n }={ cls:=.type "list",data:=.seq its'.toArray n' }) (r:Vals ys its') (hz:ys.length<=sizeLine) (t:Nat) :
  Inv X pins σ (upd H p (.lst ys)) { s with heap:=s.heap.update p f,toks:=t }:=by
 have e:(s.heap.update p f).get? p=some { cls:=.type "list",data:=.seq its'.toArray n' }:=by
  rw[YeY f ho (by rw[hf] <;> rfl),hf]
 refine I.write (x:=p) (e:=p) (by rw[h];trivial) (.inl rfl) (fun b u hb q=>(YeU _ _ (Ybl hb)).trans q) ⟨_,e⟩ ?_;exact⟨hz,its',n',r,e⟩
def ZnU:V->V->V->Hp->(Hp->Prop)->Prop:=fun o i v H Q=>∃ p xs k j,o=.ref p/\i=.int k/\H p=some (.lst xs)/\ixN xs.length k=some j/\Q (upd H p (.lst (xs.set j v)))
theorem Zck:PSet X ZnU:=by
 intro pins s σ H o i v ov iv u Q I ro ri rv h;obtain⟨p,xs,k,j,rfl,rfl,hp,hj,q⟩:=h;cases ro;obtain⟨t,rfl⟩:=ri;obtain⟨its,n,r,ho,hz⟩:=I.lst hp;obtain⟨h1,h2,h3,h4⟩:=Zja hj;have hl:=r.length;have hn:=Zef;have I':Inv X pins σ (upd H p (.lst (xs.set j v))) { s with heap:=s.heap.update p (YbZ (·.setIfInBounds j u)) } :=
  I.lstUpd hp ho (ZhL its n j u) (r.set rv j) (by rw[Yen];exact hz) s.toks
 by_cases h0:0<=k
 ·have hk:k.toNat=j:=by
   rw[seqIndex_of h0 h4] at h1;exact YaL h1
  exact PySem.W.ki_setAt ho h0 (by (clear hk h0 hl h3 h2;omega)) (by rw[Yah,<- hl];exact h4) (by rw[hk];exact⟨_,I',q⟩)
 ·have hk:(k+(its.toArray.size:Int)).toNat=j:=by
   rw[seqIndex_neg (by (clear hn hl h4 h3 h2 hz;omega)) h3] at h1;rw[Yah,<- hl];exact YaL h1
  exact PySem.W.ki_setBack ho (by (clear hk hn hl h4 h3 h2 hz;omega)) (by rw[Yah,<- hl];exact h3) (by (clear hk h0 hl h4 h2;omega)) (by rw[hk];exact⟨_,I',q⟩)
theorem Zff (lo hi:Option Int) (n:Nat):(sliceBounds lo hi none n).1=((HT.sIx n 0 lo:Nat):Int)/\(sliceBounds lo hi none n).2.1=((HT.sIx n n hi:Nat):Int)/\(sliceBounds lo hi none n).2.2=1:=by
 refine⟨?_,?_,rfl⟩
 ·cases lo with
  | none=>simp[sliceBounds,HT.sIx]
  | some i=>
   simp only[sliceBounds,HT.sIx,Yfl,show (1:Int) > 0 by decide,if_true];by_cases h:i<0
   ·simp only[h,if_true] <;> omega
   ·simp only[h,if_false] <;> (clear h;omega)
 ·cases hi with
  | none=>simp[sliceBounds,HT.sIx]
  | some i=>
   simp only[sliceBounds,HT.sIx,Yfl,show (1:Int) > 0 by decide,if_true];by_cases h:i<0
   ·simp only[h,if_true] <;> omega
   ·simp only[h,if_false] <;> (clear h;omega)
theorem ZeE (its:List Value) (lo hi:Option Int):slicePick its.toArray lo hi none=((its.drop (HT.sIx its.length 0 lo)).take (HT.sIx its.length its.length hi - HT.sIx its.length 0 lo)).toArray:=by
 obtain⟨h1,h2,h3⟩:=Zff lo hi its.toArray.size;unfold slicePick;rw[h1,h2,h3];simp only[sliceRange_one,pick_run,Yah] <;> rfl
def rSlL (K:Yac):V->Option Int->Option Int->Hp->VK->Prop:=fun x lo hi H Q=>∃ a xs,x=.ref a/\SqL K H a xs/\∀ p,H p=none->Q (.ref p) (upd H p (.lst (cutV xs lo hi)))
theorem Zdo:SlR X (rSlL X.K):=by
 intro pins s σ H x v vl vu lo hi sl Q I rx hs pl pu h;obtain⟨a,xs,rfl,hx,q⟩:=h;cases rx;obtain⟨its,r,ht,hz⟩:=I.list hx;have hlen:=r.length;refine⟨"list",_,slot_list_getitem.lookup,ht.isList.typeIs,?_⟩;refine wpAny_getItem_list_slice ht.isList hs pl pu .none (by simp) ?_ (by rw[Yah] <;> omega);rw[ZeE,<- hlen];refine⟨.ref s.heap.objs.size,_,I.laid (t':=s.toks) (o:=.lst (cutV xs lo hi)) (fun b ob q=>Yae _ q) (Yak _) ?_,rfl,q _ (I.hok.fresh (Yak _))⟩;exact⟨Ybw (ZdE xs lo hi) hz,_,0,(r.drop (HT.sIx xs.length 0 lo)).take (HT.sIx xs.length xs.length hi - HT.sIx xs.length 0 lo),YaB _ rfl⟩
theorem Zap:Zcz X (.builtin "len") (fun xs H Q=>∃ p ys,xs=[.ref p]/\(SqL X.K H p ys∨SqT X.K H p ys)/\Q (.int ys.length) H):=by
 intro pins s σ H xs us Q I r h;obtain⟨p,ys,rfl,hq,q⟩:=h;obtain⟨u,rfl,rx⟩:=Zep r;cases rx;have hn:=Zef;rcases hq with hq | hq
 ·obtain⟨its,r',pl,hz⟩:=I.list hq;have hlen:=r'.length;exact Calls.call_len_list pl.isList (by simp only[Yah] <;> omega) ⟨.int ys.length,H,I.tok _,⟨s.toks+1,by rw[Yah,hlen]⟩,q⟩
 ·obtain⟨its,r',pl,hz⟩:=I.tuple hq;have hlen:=r'.length;exact len_tuple pl (by simp only[Yah] <;> omega) ⟨.int ys.length,H,I.tok _,⟨s.toks+1,by rw[Yah,hlen]⟩,q⟩
theorem ZfE:Zcz X (.type "list") (fun xs H Q=>∃ p ys,xs=[.ref p]/\(SqL X.K H p ys∨SqT X.K H p ys)/\∀ l,H l=none->Q (.ref l) (upd H l (.lst ys))):=by
 intro pins s σ H xs us Q I r h;obtain⟨p,ys,rfl,hq,q⟩:=h;obtain⟨u,rfl,rx⟩:=Zep r;cases rx;have fin:∀ (its:List Value),Vals ys its->ys.length<=sizeLine->∀ (h':Heap) (c':Nat),(∀ b o',s.heap.get? b=some o'->h'.get? b=some o') ->
   h'.get? s.heap.objs.size=some { cls:=.type "list",dict:=none,data:=.seq its.toArray c',slots:=#[] }->EP X pins σ Q (.ref s.heap.objs.size) { s with heap:=h' }:=fun its r' hz h' c' kp e=>
  ⟨.ref s.heap.objs.size,_,I.laid (t':=s.toks) kp (Yak _) (show ObjOk X.prog X.w _ h' _ (.lst ys) from⟨hz,its,c',r',e⟩),rfl,q _ (I.hok.fresh (Yak _))⟩
 rcases hq with hq | hq
 ·obtain⟨its,r',pl,hz⟩:=I.list hq;have hlen:=r'.length;obtain⟨o,ho,hc,n,hd⟩:=pl.isList;exact call_list_seq p (.inl rfl) ho hc hd (fun h' c' kp e=>fin its r' hz h' c' kp e) (by simp only[Yah] <;> omega)
 ·obtain⟨its,r',pl,hz⟩:=I.tuple hq;have hlen:=r'.length;obtain⟨o,ho,hc,n,hd⟩:=pl;exact call_list_seq p (.inr rfl) ho hc hd (fun h' c' kp e=>fin its r' hz h' c' kp e) (by simp only[Yah] <;> omega)
theorem Zax:Zcz X (.type "tuple") (fun xs H Q=>∃ p ys,xs=[.ref p]/\((SqL X.K H p ys/\∀ l,H l=none->Q (.ref l) (upd H l (.tup ys)))∨(SqT X.K H p ys/\Q (.ref p) H))):=by
 intro pins s σ H xs us Q I r h;obtain⟨p,ys,rfl,h⟩:=h;obtain⟨u,rfl,rx⟩:=Zep r;cases rx;rcases h with ⟨hq,q⟩ | ⟨hq,q⟩
 ·obtain⟨its,r',pl,hz⟩:=I.list hq;have hlen:=r'.length;refine call_tuple_list pl.isList (fun h' kp=>?_) (by simp only[Yah] <;> omega);have I1:Inv X pins σ H { s with heap:=h' }:=I.kept (t':=s.toks) kp;have I2:Inv X pins σ (upd H h'.objs.size (.tup ys)) { s with heap:=h'.push { cls:=.type "tuple",data:=.seq its.toArray } } :=
   I1.laid (t':=s.toks) (fun b o e=>Yae _ e) (Yak _) (show ObjOk X.prog X.w _ _ _ (.tup ys) from⟨hz,its,r',IsTupD.new _ _⟩)
  exact⟨.ref h'.objs.size,_,I2,rfl,q _ (I1.hok.fresh (Yak _))⟩
 ·obtain⟨its,r',pl,hz⟩:=I.tuple hq;exact call_tuple_same pl ⟨.ref p,H,I,rfl,q⟩
def tyV (K:Yac) (T:String) (x:V) (H:Hp):Prop:=match x with
 | .str _=>T="str"
 | .int _=>T="int"
 | .ref p=>(T="list"/\∃ xs,SqL K H p xs)∨(T="tuple"/\∃ o,K.lookup p=some o/\o.cls=.type "tuple"/\o.dict=none) ∨
   (T="dict"/\((∃ kvs,H p=some (.dK kvs))∨∃ kvs,H p=some (.dT kvs)))∨(T="set"/\∃ S n,H p=some (.set S n))
 | _=>False
theorem ZmG {pins:List (Addr × Obj)}{σ:St}{H:Hp}{s:Shared}{T:String}{x:V}{v:Value} (I:Inv X pins σ H s) (r:RelV x v) (ty:tyV X.K T x H) :
  s.TypeIs v T/\∀ a,v=.ref a->∃ ob,s.heap.get? a=some ob/\ob.dict=none:=by
 cases x with
 | str z=>
  obtain⟨t,rfl⟩:=r;cases (show T="str" from ty);exact⟨typeIs_str s z t,fun _ e=>nomatch e⟩
 | int i=>
  obtain⟨t,rfl⟩:=r;cases (show T="int" from ty);exact⟨typeIs_int s i t,fun _ e=>nomatch e⟩
 | ref p=>
  cases r;rcases ty with ⟨rfl,xs,hq⟩ | ⟨rfl,o,hk,hc,hd⟩ | ⟨rfl,hk⟩ | ⟨rfl,S,n,hk⟩
  ·obtain⟨its,_,pl,_⟩:=I.list hq;refine⟨pl.isList.typeIs,fun a e=>?_⟩;cases e;obtain⟨o,n,e,c,hd,_⟩:=pl;exact⟨o,e,hd⟩
  ·refine⟨⟨o,I.kIn p o hk,hc⟩,fun a e=>?_⟩;cases e;exact⟨o,I.kIn _ o hk,hd⟩
  ·have z:∃ o,s.heap.get? p=some o/\o.ExactDict:=by
    rcases hk with ⟨kvs,hk⟩ | ⟨kvs,hk⟩
    ·obtain⟨_,_,_,_,o,_,_,e,ex,_⟩:=I.hok p _ hk;exact⟨o,e,ex⟩
    ·obtain⟨_,_,_,_,o,_,_,e,ex,_⟩:=I.hok p _ hk;exact⟨o,e,ex⟩
   obtain⟨o,e,ex⟩:=z;refine⟨⟨o,e,ex.1⟩,fun a e2=>?_⟩;cases e2;exact⟨o,e,ex.2.1⟩
  ·obtain⟨o,_,_,_,e,ex,_⟩:=I.hok p _ hk;refine⟨⟨o,e,ex.1⟩,fun a e2=>?_⟩;cases e2;exact⟨o,e,ex.2.1⟩
 | _=>exact Ycx ty
def tBM (K:Yac) (T:String) (r:V->List V->Hp->VK->Prop) (to:TE) (t:TA):TE:=fun σ H Q=>to σ H fun x H1=>tyV K T x H1/\t σ H1 fun xs H2=>r x xs H2 Q
variable {o e:Expr}{es:List Expr}{to:TE}{t:TA}{name:Str}{apos cpos:Pos}{T id:String}{r:V->List V->Hp->VK->Prop}
theorem ZeM (pa:PlainAttrs T) (slot:Slot T name id) (hty:typeOf (.builtin id)=pure (.type "method_descriptor")) (hm:MtR X id r) (ho:PE X o to) (ha:PA X (e::es) t)
  (hbase:attributeBase o name X.env (eval o X.env)=eval o X.env:=by rfl)
  (hfew:((backTo cpos (starEach (e::es) X.env)).all (fun x=>!x.1) && (backToKw cpos (keywordEach [] X.env)).all (fun x=>x.1.isSome)
   && decide ((e::es).length+([]:List Keyword).length+(if ([]:List Keyword).isEmpty then 0 else 1)<30))=true:=by rfl)
  (hline:(apos.endLine == cpos.line)=true:=by rfl) (hs:starEach (e::es) X.env=(false,eval e X.env)::starEach es X.env:=by rfl) (hplain:(backTo cpos (starEach es X.env)).any (·.1)=false:=by rfl) :
  PE X (.Call (.Attribute o name apos) (e::es) [] cpos) (tBM X.K T r to t):=by
 intro pins s σ H Q I h;refine wpAny_Call_method_late hbase hfew hline rfl (thn (ho pins s σ H _ I h) fun v s1 ⟨x,H1,I1,r1,ty,q1⟩=>?_);obtain⟨h1,h2⟩:=ZmG I1 r1 ty;refine⟨T,id,pa,slot,hty,h1,h2,?_⟩;have hA:=ha cpos pins s1 σ H1 _ I1 q1;rw[hs] at hA ⊢;refine Calls.callWith_builtin (by show (false || (backTo cpos (starEach es X.env)).any (·.1))=false;rw[hplain] <;> rfl) (Calls.evalArgs_plain ?_);exact thn hA fun us s2 ⟨vs,H2,I2,r2,q2⟩=>hm pins s2 σ H2 x vs v us Q I2 r1 r2 q2
end
end L2
namespace L2
open PySem PySem.Spec PyProof.Rows
def MtM (X:Cx) (id:String) (r:V->List V->Hp->VK->Prop):Prop :=
 ∀ (pins:List (Addr × Obj)) (s:Shared) (σ:St) (H:Hp) (x:V) (xs:List V) (v:Value) (us:List Value) (Q:VK),Inv X pins σ H s->RelV x v->Vals xs us->r x xs H Q ->
  wpAny (model X.prog X.w) X.A (call (.builtin id) (v::us)) (EP X pins σ Q) X.xe s
theorem Vals.one:∀ {x:V}{us:List Value},Vals [x] us->∃ u,us=[u]/\RelV x u
 | _,_,.cons r .nil=>⟨_,rfl,r⟩
theorem Vals.eraseIdx:∀ {xs:List V}{us:List Value} (i:Nat),Vals xs us->Vals (xs.eraseIdx i) (us.eraseIdx i)
 | _,_,_,.nil=>.nil
 | _,_,0,.cons _ t=>t
 | _,_,i+1,.cons r t=>.cons r (Vals.eraseIdx i t)
theorem Vals.reverse {xs:List V}{us:List Value} (h:Vals xs us):Vals xs.reverse us.reverse:=by
 induction h with
 | nil=>exact .nil
 | cons r t ih=>rw[YbW,YbW];exact Vals.append ih (.cons r .nil)
theorem Vals.rep {xs:List V}{us:List Value} (h:Vals xs us):∀ k:Nat,Vals (Yaj k xs).flatten (Yaj k us).flatten
 | 0=>.nil
 | k+1=>by
  rw[Ybn,Ybn,YaR,YaR];exact Vals.append h (Vals.rep h k)
theorem Zfp {α:Type}:∀ (l:List α) (i:Nat),(l.eraseIdx i).length<=l.length
 | [],_=>Yak _
 | _::_,0=>Ydm _
 | _::r,i+1=>Nat.succ_le_succ (Zfp r i)
theorem Zfv (its:List Value):∀ (k:Nat) (acc:List Value),
  YeN (fun x1 x2=>x1++x2) acc.toArray (Yaj k its.toArray)=(acc++(Yaj k its).flatten).toArray
 | 0,acc=>by simp
 | k+1,acc=>by
  have e:acc.toArray++its.toArray=(acc++its).toArray:=by simp
  have e2:(acc++its)++(Yaj k its).flatten=acc++(Yaj (k+1) its).flatten:=by
   rw[Ybn,YaR,Yav]
  rw[<- e2,<- Zfv its k (acc++its),<- e,Ybn,YcD]
section
variable {X:Cx}{pins:List (Addr × Obj)}{σ:St}{H:Hp}{s:Shared}{l b:Addr}{xs ys zs:List V}
theorem Inv.lset {its its':List Value}{n:Nat}{f:Array Value->Array Value}{t':Nat} (I:Inv X pins σ H s) (hH:H l=some (.lst xs))
  (e:s.heap.get? l=some { cls:=.type "list",data:=.seq its.toArray n }) (hf:f its.toArray=its'.toArray) (hv:Vals ys its') (hz:ys.length<=sizeLine) :
  Inv X pins σ (upd H l (.lst ys)) { s with heap:=s.heap.update l (YbZ f),toks:=t' }:=by
 have q:=PySem.IsL.update e f;rw[hf] at q;refine I.write (x:=l) (e:=l) (by rw[hH];exact trivial) (.inl rfl) (fun b' u hb hu=>(YeU s.heap (YbZ f) (Ybl hb)).trans hu) ⟨_,q⟩ ?_;exact⟨hz,its',_,hv,q⟩
theorem Inv.lnew {its:List Value}{t':Nat} (I:Inv X pins σ H s) (hv:Vals ys its) (hz:ys.length<=sizeLine) :
  Inv X pins σ (upd H s.heap.objs.size (.lst ys)) { s with heap:=s.heap.push { cls:=.type "list",data:=.seq its.toArray },toks:=t' } :=
 I.laid (fun _ _ q=>Yae _ q) (Yak _) ⟨hz,its,0,hv,YaB _ rfl⟩
theorem Inv.fresh (I:Inv X pins σ H s):H s.heap.objs.size=none:=I.hok.fresh (Yak _)
theorem Inv.lstM (I:Inv X pins σ H s) (hH:H l=some (.lst xs)):xs.length<=sizeLine/\∃ (its:List Value) (n:Nat),Vals xs its/\xs.length=its.length/\s.heap.get? l=some { cls:=.type "list",data:=.seq its.toArray n }:=by
 obtain⟨z,its,n,r,e⟩:=I.hok l _ hH;exact⟨z,its,n,r,r.length,e⟩
theorem ZeO {n:Nat} (h:n<=sizeLine):YbL n=false:=by
 unfold YbL;exact decide_eq_false (by omega)
end
section
variable {X:Cx}
def ZlQ:V->List V->Hp->VK->Prop:=fun x vs H Q=>∃ l xs y,x=.ref l/\vs=[y]/\H l=some (.lst xs)/\xs.length<sizeLine/\Q .non (upd H l (.lst (xs++[y])))
theorem ZaZ:MtM X "list.append" ZlQ:=by
 intro pins s σ H x vs v us Q I rx rv h;obtain⟨l,xs,y,rfl,rfl,hH,hz,q⟩:=h;cases rx;obtain⟨u,rfl,ru⟩:=rv.one;obtain⟨z,its,n,r,hl,e⟩:=I.lstM hH;refine call_meets F.slot_list_append ⟨_,e,rfl⟩ F.entry_list_append (F.args_list_append_2 _ _) (PySem.list_append l its.toArray n u (by rw[Yah];(clear z;omega))) ⟨e,?_⟩;refine⟨.non,_,I.lset (its':=its++[u]) hH e (by simp) (r.append (.cons ru .nil)) ?_,rfl,q⟩;rw[Yaf,Ydz]
 (clear hl z;omega)
def ZlP:V->List V->Hp->VK->Prop:=fun x vs H Q=>∃ l b xs zs,x=.ref l/\vs=[.ref b]/\H l=some (.lst xs)/\H b=some (.lst zs)/\xs.length+zs.length<=sizeLine/\Q .non (upd H l (.lst (xs++zs)))
theorem ZiV:MtM X "list.extend" ZlP:=by
 intro pins s σ H x vs v us Q I rx rv h;obtain⟨l,b,xs,zs,rfl,rfl,hH,hB,hz,q⟩:=h;cases rx;obtain⟨u,rfl,ru⟩:=rv.one;cases ru;obtain⟨z,its,n,r,hl,e⟩:=I.lstM hH;obtain⟨z2,its2,n2,r2,hl2,e2⟩:=I.lstM hB;have hsz:its.toArray.size+its2.toArray.size<=sizeLine:=by rw[Yah,Yah];(clear z2 z;omega)
 have hlong:¬ (!its.toArray.isEmpty && YbL (its.toArray.size+its2.toArray.size))=true:=by
  rw[ZeO hsz,Bool.and_false];exact YaJ
 refine call_meets F.slot_list_extend ⟨_,e,rfl⟩ F.entry_list_extend (F.args_list_extend_2 _ _)
  (AutoSeq1.list_extend_list_list_0 l its.toArray n b its2.toArray n2 hlong (by rw[Yah];(clear hlong hsz hl2 z2 z;omega)) (by (clear hlong hl2 z2 hl z hz;omega))) ⟨e,e2,?_⟩
 refine⟨.non,_,I.lset (its':=its++its2) hH e (by simp) (r.append r2) ?_,rfl,q⟩;rw[Yaf]
 (clear hlong hsz hl2 z2 hl z;omega)
def ZmX:V->List V->Hp->VK->Prop:=fun x vs H Q=>∃ l xs i k y,x=.ref l/\vs=[.int i]/\H l=some (.lst xs)/\-(2 ^ 63)<=i/\i<2 ^ 63/\seqIndex? i xs.length=some k/\xs[k]?=some y/\Q y (upd H l (.lst (xs.eraseIdx k)))
theorem ZkJ:MtM X "list.pop" ZmX:=by
 intro pins s σ H x vs v us Q I rx rv h;obtain⟨l,xs,i,k,y,rfl,rfl,hH,h1,h2,hk,hy,q⟩:=h;cases rx;obtain⟨u,rfl,ru⟩:=rv.one;obtain⟨t,rfl⟩:=ru;obtain⟨z,its,n,r,hl,e⟩:=I.lstM hH;obtain⟨w,hw,rw'⟩:=r.get hy;refine call_meets F.slot_list_pop ⟨_,e,rfl⟩ F.entry_list_pop (F.args_list_pop_2 _ _)
  (MeetsSeq.list_pop_at l its.toArray n i t k w (fitsIndex_both h1 h2) (by rw[Yah,<- hl];exact hk) (by rw[<- Yan];exact hw) (by rw[Yah];(clear h2 h1;omega))) ⟨e,?_⟩
 refine⟨y,_,I.lset (its':=its.eraseIdx k) hH e ?_ (r.eraseIdx k) ?_,rw',q⟩
 ·show its.toArray.eraseIdxIfInBounds k=(its.eraseIdx k).toArray;rw[List.eraseIdxIfInBounds_toArray]
 ·have:=Zfp xs k
  (clear hl h2 h1;omega)
def rCat:R2:=fun x y H Q=>∃ l b xs zs,x=.ref l/\y=.ref b/\H l=some (.lst xs)/\H b=some (.lst zs)/\xs.length+zs.length<=sizeLine/\∀ p,H p=none->Q (.ref p) (upd H p (.lst (xs++zs)))
theorem Zc5:OpR X (binaryOp .Add) rCat:=by
 intro pins s σ H x y v u Q I rx ry h;obtain⟨l,b,xs,zs,rfl,rfl,hH,hB,hz,q⟩:=h;cases rx;cases ry;obtain⟨z,its,n,r,hl,e⟩:=I.lstM hH;obtain⟨z2,its2,n2,r2,hl2,e2⟩:=I.lstM hB;refine PySem.P.add_list e e2 ?_ (by rw[Yah,Yah];(clear z2 z;omega));have ea:its.toArray++its2.toArray=(its++its2).toArray:=by simp
 rw[ea];exact⟨.ref _,_,I.lnew (t':=s.toks) (r.append r2) (by rw[Yaf];(clear hl2 z2 hl z;omega)),rfl,q _ I.fresh⟩
def rRep:R2:=fun x y H Q=>∃ l k xs,x=.ref l/\y=.int k/\H l=some (.lst xs)/\-(2 ^ 63)<=k/\k<2 ^ 63/\xs.length*k.toNat<=sizeLine /\
 ∀ p,H p=none->Q (.ref p) (upd H p (.lst (Yaj k.toNat xs).flatten))
theorem Zmj {α:Type} (xs:List α) (k:Nat):(Yaj k xs).flatten.length=k*xs.length:=by
 induction k with
 | zero=>simp
 | succ k ih=>rw[Ybn,YaR,Yaf,ih,Nat.succ_mul,Nat.add_comm]
theorem ZgQ:OpR X (binaryOp .Mult) rRep:=by
 intro pins s σ H x y v u Q I rx ry h;obtain⟨l,k,xs,rfl,rfl,hH,h1,h2,hz,q⟩:=h;cases rx;obtain⟨t,rfl⟩:=ry;obtain⟨z,its,n,r,hl,e⟩:=I.lstM hH;have hlen:its.toArray.size*k.toNat<=sizeLine:=by rw[Yah,<- hl];exact hz
 have hcap:¬ its.toArray.size*k.toNat > (2 ^ 63 - 1) / 8:=by
  have:(sizeLine:Nat)<=(2 ^ 63 - 1) / 8:=by decide
  (clear hl z hz h2 h1;omega)
 have hfit:¬ (!Builtin.List.listFitsIndex k)=true:=by
  rw[fitsIndex_both h1 h2];exact YaJ
 have hlong:¬ YbL (its.toArray.size*k.toNat)=true:=by
  rw[ZeO hlen];exact YaJ
 have hnew:YeN (fun x1 x2=>x1++x2) #[] (Yaj (if its.toArray.isEmpty=true then 0 else k.toNat) its.toArray)=(Yaj k.toNat its).flatten.toArray:=by
  have f0:∀ m:Nat,YeN (fun x1 x2=>x1++x2) #[] (Yaj m its.toArray)=(Yaj m its).flatten.toArray:=fun m=>by
   have:=Zfv its m [];rw[Yb6] at this;exact this
  rw[f0]
  cases its with
  | nil=>simp
  | cons a r'=>rw[if_neg (by simp)]
 refine wpAny_binaryOp_repeat_ref (T:="list") (U:="int") (by decide) ⟨_,e,rfl⟩ (fun s'=>typeIs_int s' k t) noFill_list_mul F.fills_int_mul F.slot_int_rmul repeat_list F.slot_int_index.lookup
  (call_meets F.slot_int_rmul (typeIs_int s k t) F.entry_int_rmul (F.args_int_rmul_2 _ _) (int___rmul___int_list k t l its.toArray n)
   ⟨e,rfl,⟨_,e,rfl⟩,call_meets F.slot_list_mul ⟨_,e,rfl⟩ F.entry_list_mul (F.args_list_mul_2 _ _) (AutoListH.list___mul___list_int_3 l its.toArray n k t hfit hcap hlong) ⟨e,?_⟩⟩)
 rw[hnew];exact⟨.ref _,_,I.lnew (t':=s.toks) (r.rep k.toNat) (by rw[Zmj,Ye6];exact hz),rfl,q _ I.fresh⟩
end
section
variable {prog:Program}{w:World}{A:Around}{E:Value->Shared->Prop}{s:Shared}
set_option maxRecDepth 100000 in
end
section
variable {X:Cx}
end
end L2
namespace Att
open PySem PySem.W PySem.Calls PyProof.Rows
theorem ZdA {P:Params}{h:Heap}:∀ (ns:List Int) (vs:List Value),WellAll P h vs (ns.map WData.int)->IntsAre vs ns:=by
 intro ns
 induction ns with
 | nil=>
  intro vs w;rw[Yd2] at w;cases w;exact .nil
 | cons n ns ih=>
  intro vs w;rw[YaM] at w
  cases w with
  | cons a b=>
   cases a;exact .cons _ _ (ih _ b)
theorem Zik {l:OpenLaw}{n:Nat} (hn:l.most=some n) {P:Params}{h:Heap}{args:List WData}{vals:List Value}
  (hpre:l.row.toRowW.claim.pre args=true) (hwl:WellAll P h vals args) :
  ∃ a vs ns,vals=[Ybt a]/\args=[WData.list (ns.map WData.int)]/\h.get? a=some { cls:=.type "list",data:=.seq vs.toArray }/\IntsAre vs ns/\ns.length<=n:=by
 have hsh:WShape.hasAll [] args [.list .int]=true:=(pre_splitW hpre).1
 have hc:l.pre.holds [] { args:=args }=true:=(pre_splitW hpre).2
 obtain⟨d,r,rfl,h1,h2⟩:=hasAllW_cons hsh;obtain rfl:=hasAllW_nil h2;obtain⟨xs,rfl,h3⟩:=hasW_list h1;obtain⟨ns,rfl⟩:=items_int h3;have hlen:ns.length<=n:=by
  unfold OpenLaw.pre at hc;have h4:(WTm.not (.lt (.lit (.int (n:Int))) (.len (.arg 0)))).holds [] { args:=[.list (ns.map .int)] }=true:=by
   have h4:=(holds_andW hc).1
   rw[hn] at h4;exact h4
  have h5:=condW_of h4 (w_not (w_lt w_lit (w_len_list (w_arg rfl))));rw[Yaa] at h5;refine Yeh fun q=>?_;have q':(n:Int)<((ns.length:Nat):Int):=by omega
  first
   | (rw[decide_eq_true q'] at h5;exact absurd h5 (by decide))
   | (simp at h5;omega)
 cases hwl with
 | cons w1 w2=>
  cases w2
  cases w1 with
  | list ho hall=>exact⟨_,_,ns,rfl,rfl,ho,ZdA ns _ hall,hlen⟩
theorem Ziu (l:OpenLaw) (args:List WData):l.row.toRowW.claim.post args (.bool true) args=true :=
 postW_of (r:=l.row.toRowW) (X:=(true == true))
  (show WShape.has [] (.bool true) .bool=true by first | rfl | decide | simp[WShape.has,WShape.arms,WShape.armsAll])
  (show (WTm.eq .res (.lit (.bool true))).value [] { args:=args,res:=some (.bool true),after:=args }=some (.bool (true == true)) from w_eq_bool (w_res rfl) w_lit) rfl
theorem attach_call {l:OpenLaw}{n:Nat}{q:Program}{loose:List Str}{XP:(Str->Option Value)->Heap->Prop}{YP:World->Heap->Prop}{d:DefRec}
  (hn:l.most=some n) (hdf:d.params.defaults=[])
  (call:∀ (w:World) (s₀ s₁:Shared) (mg mb:Str->Option Value) (fa:Addr) (o:Obj) (pm cd doc:Value) (a:Addr) (vs:List Value) (ns:List Int),
   Ground q loose [] XP w s₀ mg mb s₁.heap->YP w s₁.heap ->
   s₁.heap.get? fa=some o->o.data=.func (docDef d.name d.params d.body d.scope pm cd doc)->s₁.heap.CodeRec cd d.name->mg d.name=some (.ref fa) ->
   s₁.heap.get? a=some { cls:=.type "list",data:=.seq vs.toArray }->IntsAre vs ns->ns.length<=n->s₁.gens=#[] ->
   codeAny (model l.prog w) callerA (.call (.ref fa) ⟨[.ref a],[]⟩) (fun r s'=>r=.ok (.ret (.bool true))/\OldK s₁.heap s'.heap/\s'.os=s₁.os/\AllBare s'.gens) s₁) :
  WalkO q loose XP YP l.row.toRowW d [] (fun f vs=>Yfj f vs):=by
 intro w s₀ s₁ mg mb G Y fa o pm cd doc dV kV ho hd hcd hD hmg hg args vals as hpre hlay hrd hwl hlo;obtain rfl:dV=.none:=Dflts.none hD hdf;obtain rfl:kV=.none:=Dflts.noKw hD;obtain⟨a,vs,ns,rfl,rfl,hobj,hints,hlen⟩:=Zik hn hpre hwl;refine enter_call (codeAny_mono (call w s₀ s₁ mg mb fa o pm cd doc a vs ns G Y ho (fd_plain hd) hcd hmg hobj hints hlen hg) fun r s' hq=>?_);obtain⟨rfl,h2,h3,h4⟩:=hq;exact⟨.inl ⟨.bool true,.bool true,[],rfl,fun _=>rfl,.bool true,Ziu l _,fun _=>⟨Ycd,fun _ hm=>(nomatch hm)⟩⟩,h2,h3,h4⟩
section
variable {prog:Program}{w:World}{A:Around}{E:Value->Shared->Prop}{s:Shared}{K:Frag}
def Zog (h:Heap) (L d:Addr):List (Addr × Obj):=(YaG h.objs.size).filterMap fun a=>if a=L∨a=d then none else (h.get? a).map fun o=>(a,o)
end
end Att
namespace L2
open PySem PySem.Spec PyProof.Rows
theorem Ze5:∀ {vs:List Value}{ns:List Int},IntsAre vs ns->Vals (ns.map V.int) vs
 | _,_,.nil=>.nil
 | _,_,.cons n t h=>.cons ⟨t,rfl⟩ (Ze5 h)
def Only (H:Hp):Prop:=∀ b,H b=none∨∃ o xs,H b=some (.frz o (.lst xs))
theorem ZkO {P:Program}{w:World}{K:Yac}{mg mb:Str->Option Value}{CX:CXT}{k:Nat}{fa a:Addr}{fd:FuncData}{x:Str}{sp:Sp}{s₁:Shared}{vs:List Value}{ns:List Int}
  (KX:K.In s₁.heap) (hns:s₁.heap.Ns mainGlobals mg) (hb:s₁.heap.Ns builtinsNs mb) (hbb:∀ x:Str,x≠"__name__"->mb x=bootBuiltins x) (hlim:s₁.heap.NoLimit) (hg:s₁.gens=#[])
  (ha:s₁.heap.get? a=some { cls:=.type "list",data:=.seq vs.toArray }) (hi:IntsAre vs ns) (hl:ns.length<=sizeLine) (hr:Room k callerA)
  (F:∀ base:Heap,K.In base->base.Ns mainGlobals mg->FnOk P w K mg base CX k fa fd [x] sp) (hbind:∀ (s:Shared) (u:Value),BindsTo s fd ⟨[u],[]⟩ [(x,u)])
  (hsp:∀ H:Hp,Only H->SqL K H a (ns.map V.int)->sp [.ref a] H (fun v _=>v=.bl true) fun _ _ _=>False)
  (hCX:∀ H e s',CX [] H s₁ (fun _ _ _=>False) e s'->False) :
  codeAny (model P w) callerA (.call (.ref fa) ⟨[.ref a],[]⟩) (fun r s'=>r=.ok (.ret (.bool true))/\OldK s₁.heap s'.heap/\s'.os=s₁.os/\AllBare s'.gens) s₁:=by
 have rv:=Ze5 hi;have lenV:=hi.length;have core:∀ H:Hp,Only H->SqL K H a (ns.map V.int)->HOk P w H s₁.heap->(∀ b,H b≠none->b=a)->(H a≠none->K.lookup a=none) ->
   codeAny (model P w) callerA (.call (.ref fa) ⟨[.ref a],[]⟩) (fun r s'=>r=.ok (.ret (.bool true))/\OldK s₁.heap s'.heap/\s'.os=s₁.os/\AllBare s'.gens) s₁:=by
  intro H hO hS hok hA hK;have base_of:∀ {b:Addr}{o:Obj},s₁.heap.get? b=some o->H b=none->(hidT s₁.heap H).get? b=some o:=fun e n=>ZkR e n;have noA:∀ {b:Addr}{o:Obj}{es:Array DictEntry}{ep:Nat},s₁.heap.get? b=some o->o.data=.dict es ep->H b=none:=fun {b o es ep} e d=>by
   cases q:H b with
   | none=>rfl
   | some u=>
    have e':b=a:=hA b (by rw[q];simp);subst e';rw[ha] at e;cases e;have d':Data.seq vs.toArray _=Data.dict es ep:=d;cases d'
  have nsK:∀ {b:Addr}{m:Str->Option Value},s₁.heap.Ns b m->(hidT s₁.heap H).Ns b m:=fun {b m} ⟨o,es,ep,e,d,r⟩=>⟨o,es,ep,base_of e (noA e d),d,r⟩
  have hKb:K.In (hidT s₁.heap H):=fun b o e=>base_of (KX b o e) (by
   cases q:H b with
   | none=>rfl
   | some u=>
    have e':b=a:=hA b (by rw[q];simp);subst e';rw[hK (by rw[q];simp)] at e;cases e)
  have hM:Mod K mg (hidT s₁.heap H):=⟨hKb,nsK hns,⟨mb,nsK hb,hbb⟩,let ⟨mc,h1,h2⟩:=hlim;⟨mc,nsK h1,h2⟩⟩
  have e0:Env0 P w K mg (hidT s₁.heap H) callerA [] s₁ H:=⟨rfl,hM,fun b o e=>Zmd e,Nat.le_of_eq (Zjj _ _),trivial,fun b hb=>absurd (show b∈([]:List Addr) from hb) (by simp),hok,.of_eq hg⟩
  refine codeAny_mono ((F _ hKb (nsK hns)).run callerA [] s₁ H ⟨[.ref a],[]⟩ [.ref a] [.ref a] _ _ hr e0 (hbind s₁ (.ref a)) (.cons rfl .nil) (hsp H hO hS)) fun r s' h=>?_
  cases r with
  | error e=>exact (hCX H e s' h).elim
  | ok fl=>
   cases fl with
   | next=>exact Ycx h
   | brk=>exact Ycx h
   | cont=>exact Ycx h
   | ret u=>
    obtain⟨v,H',os,bare,un,hok',r',q⟩:=h;have q':v=.bl true:=q;subst q';obtain rfl:u=YdQ true:=r';refine⟨rfl,OldK.of_keep fun b o e=>?_,os,bare⟩
    cases q:H b with
    | none=>exact un.keep b o e q (by intro z;exact absurd (show b∈([]:List Addr) from z) (by simp)) (by simp)
    | some u=>
     rcases hO b with z | ⟨ob,xs,z⟩
     ·rw[q] at z;cases z
     ·have z2:=un.frzs b ob _ z;obtain⟨e1,_⟩:=hok b _ z;obtain⟨e2,_⟩:=hok' b _ z2;rw[e] at e1;cases e1;exact e2
 cases hk:K.lookup a with
 | some o=>
  have e:=KX a o hk;rw[ha] at e;cases e;refine core (fun _=>none) (fun _=>.inl rfl) (.inr ⟨_,vs.toArray,_,hk,rfl,rfl,rfl,by rw[Yah,lenV];exact hl,by simpa using rv⟩) (fun b u z=>by have z':(none:Option HO)=some u:=z;cases z') (fun b z=>absurd rfl z) fun z=>absurd rfl z
 | none=>
  refine core (fun b=>if b=a then some (.frz { cls:=.type "list",data:=.seq vs.toArray } (.lst (ns.map V.int))) else none) (fun b=>?_) (.inl (.inr ⟨{ cls:=.type "list",data:=.seq vs.toArray },if_pos rfl⟩)) (fun b u z=>?_) (fun b z=>?_) fun _=>hk
  ·by_cases hb:b=a
   ·exact .inr ⟨_,_,if_pos hb⟩
   ·exact .inl (if_neg hb)
  ·by_cases hb:b=a
   ·have z':=(if_pos hb).symm.trans z;cases z';subst hb;exact⟨ha,by rw[Yaa];exact hl,vs,_,rv,ha⟩
   ·have z':=(if_neg hb).symm.trans z;cases z'
  ·by_cases hb:b=a
   ·exact hb
   ·exact absurd (if_neg hb) z
end L2
namespace L2
open PySem PySem.Spec PyProof.Rows
theorem walk_of {l:YdZ}{n k:Nat}{q:Program}{loose:List Str}{XP:(Str->Option Value)->Heap->Prop}{YP:World->Heap->Prop}{d:DefRec}{K:Params->Yac}{CX:World->CXT}{sp:World->Sp}{x:Str}
  (hn:l.most=some n) (hn2:n<=sizeLine) (hdf:d.params.defaults=[]) (hr:Room k callerA)
  (hY:∀ (w:World) (h:Heap),YP w h->(K w.params).In h)
  (F:∀ (w:World) (mg:Str->Option Value) (fa:Addr) (h:Heap),(K w.params).In h->h.Ns mainGlobals mg->mg d.name=some (.ref fa) ->
   ∃ fd:FuncData,(∀ (s:Shared) (u:Value),BindsTo s fd ⟨[u],[]⟩ [(x,u)]) /\
    ∀ base:Heap,(K w.params).In base->base.Ns mainGlobals mg->FnOk l.prog w (K w.params) mg base (CX w) k fa fd [x] (sp w))
  (hsp:∀ (w:World) (H:Hp) (a:Addr) (ns:List Int),ns.length<=n->Only H->SqL (K w.params) H a (ns.map V.int)->sp w [.ref a] H (fun v _=>v=.bl true) fun _ _ _=>False)
  (hCX:∀ (w:World) (H:Hp) (s:Shared) (e:Value) (s':Shared),CX w [] H s (fun _ _ _=>False) e s'->False) :
  YfA q loose XP YP l.row.toRowW d [] (fun f vs=>Yfj f vs):=by
 refine Att.attach_call hn hdf fun w s₀ s₁ mg mb fa o pm cd doc a vs ns G Y ho hd hcd hmg hobj hints hlen hg=>?_;have KX:=hY w _ Y;obtain⟨fd,hb,hF⟩:=F w mg fa _ KX G.T.g hmg;exact ZkO KX G.T.g G.T.b G.T.builtins G.T.nolimit hg hobj hints (Ybw hlen hn2) hr hF hb (fun H hO hS=>hsp w H a ns hlen hO hS) fun H e s'=>hCX w H s₁ e s'
end L2
namespace L2
open PySem PySem.Spec PyProof.Rows
def Zao (s:Stmt):Arguments:=match s with
 | .FunctionDef _ a _ _ _ _ _ _ _ _=>a
 | _=>{ posonlyargs:=[],args:=[],vararg:=none,kwonlyargs:=[],kw_defaults:=[],kwarg:=none,defaults:=[] }
def Zal (s:Stmt):List Stmt:=match s with
 | .FunctionDef _ _ b _ _ _ _ _ _ _=>b
 | _=>[]
def Zad (s:Stmt):Scope:=match s with
 | .FunctionDef _ _ _ _ _ _ sc _ _ _=>sc
 | _=>{ kind:=.function,names:=[],isGenerator:=false,isCoroutine:=false }
abbrev CX0:CXT:=fun _ _ _ _ _ _=>False
abbrev E0:XK:=fun _ _ _=>False
theorem ZiB {X:Cx}:ZjN CX0 X E0:=fun _ _ _ _ _ _ _ h=>h.elim
structure Fun (K:Yac) (x qual:Str) (st:Stmt) (f:Addr) (fd:FuncData):Prop where
 ex:∃ (oc:Value) (od:Option Addr) (kV doc pm:Value) (an:Option Addr) (cdv ct:Value) (osl:Array (Option Value)),
  fd=YaA x qual (Zao st) (Zal st) (Zad st) .none kV doc pm an cdv ct/\K.lookup f=some ⟨oc,od,.func fd,osl⟩/\Yax K cdv qual=true
 kp:Yaq K (.ref f)=true
section
variable {P:Program}{w:World}{K:Yac}{mg:Str->Option Value}{base:Heap}
theorem Fun.ok {x qual:Str}{st:Stmt}{f:Addr}{fd:FuncData}{N ps:List Str}{k:Nat}{sp:Sp} (F:Fun K x qual st f fd) (S:FnScope N ps (Zad st)) (len:∀ vs H Q E,sp vs H Q E->vs.length=ps.length)
  (hbody:∀ (cdv:Value) (A:Around) (outer:List Env) (s:Shared) (H:Hp) (vs:List V) (Q:VK) (E:XK),Room k (A.deeper (envOfC qual (Zad st) s.heap.objs.size f cdv))->sp vs H Q E ->
   ∃ t,PSs (cxOf CX0 P w K mg base N qual (Zad st) f cdv A outer s H E).nox (Zal st) t/\t { nx:=fun _ H'=>Q .non H',rt:=Q } (ZdM N vs) H):FnOk P w K mg base CX0 (k+1) f fd ps sp:=by
 obtain⟨oc,od,kV,doc,pm,an,cdv,ct,osl,rfl,lk,hcd⟩:=F.ex;refine Znn lk hcd S len fun A outer s H vs Q E hr hsp=>?_;obtain⟨t,h,q⟩:=hbody cdv A outer s H vs Q E hr hsp;exact⟨t,h.nox,q⟩
theorem Fun.binds {x qual:Str}{st:Stmt}{f:Addr}{fd:FuncData}{ps:List Str} (F:Fun K x qual st f fd)
  (h:∀ (kV doc pm:Value) (an:Option Addr) (cdv ct:Value) (us:List Value),us.length=ps.length->bindArgs (YaA x qual (Zao st) (Zal st) (Zad st) .none kV doc pm an cdv ct) ⟨us,[]⟩=pure (ps.zip us)):Binds K fd ps []:=by
 obtain⟨oc,od,kV,doc,pm,an,cdv,ct,osl,rfl,lk,hcd⟩:=F.ex;exact .all (h kV doc pm an cdv ct)
theorem Zaw {x qual:Str}{st:Stmt}{f:Addr}{oc:Value}{od an:Option Addr}{osl:Array (Option Value)}{kV doc pm cdv ct:Value} (l:K.lookup f=some ⟨oc,od,.func (YaA x qual (Zao st) (Zal st) (Zad st) .none kV doc pm an cdv ct),osl⟩)
  (c:Yax K cdv qual=true) (k:Yaq K (.ref f)=true):Fun K x qual st f (YaA x qual (Zao st) (Zal st) (Zad st) .none kV doc pm an cdv ct):=⟨⟨oc,od,kV,doc,pm,an,cdv,ct,osl,rfl,l,c⟩,k⟩
end
theorem ZaF {n:Nat} (h:n<=1000):n<sizeLine:=Yfu h (by decide)
section
variable {X:Cx}
theorem pv (i:Nat) {x:Str}{pos:Pos} (hN:X.N[i]?=some x:=by rfl) (hv:Vis X.env.scope x:=by first | exact YaI rfl | exact Yde (YaI rfl) | exact Yde (Yde rfl)) (hd:(x == ("__debug__":Str))=false:=by decide)
  (hcd:(x == ("__classdict__":Str))=false:=by decide):PE X (.Name x pos) (tVar i):=Zlj hN hv hd hcd
end
theorem iteF {A B:Prop} (h:B):if false=true then A else B:=by
 rw[if_neg YaJ];exact h
theorem iteT {A B:Prop} (h:A):if true=true then A else B:=by
 rw[if_pos rfl];exact h
theorem ite2 {c A B:Prop} [Decidable c] (h1:c->A) (h2:¬ c->B):if c then A else B:=by
 by_cases h:c
 ·rw[if_pos h];exact h1 h
 ·rw[if_neg h];exact h2 h
def Same (H H':Hp):Prop:=∀ b o,H b=some o->H' b=some o
theorem Same.refl (H:Hp):Same H H:=fun _ _ h=>h
theorem Same.trans {H H1 H2:Hp} (a:Same H H1) (b:Same H1 H2):Same H H2:=fun c o h=>b c o (a c o h)
theorem Same.free {H H':Hp} (e:Same H H') {l:Addr} (h:H' l=Option.none):H l=Option.none:=by
 cases q:H l with
 | none=>rfl
 | some o=>
  rw[e l o q] at h;cases h
theorem Same.seq {K:Yac}{H H':Hp}{a:Addr}{xs:List V} (e:Same H H') (h:SqL K H a xs):SqL K H' a xs:=by
 rcases h with (h | ⟨o,h⟩) | h
 ·exact .inl (.inl (e _ _ h))
 ·exact .inl (.inr ⟨o,e _ _ h⟩)
 ·exact .inr h
end L2
set_option maxHeartbeats 4000000
namespace L2
open PySem PySem.Spec PyProof.Rows
def ZbK (env:Env):List (Str × NameKind)->List (Str × Addr)->List (Str × Addr)
 | [],cs=>cs
 | (n,k)::r,cs=>ZbK env r (if k == .free then (n,(env.cells.lookup n).getD 0)::cs else cs)
abbrev clOf (scope:Scope) (env:Env):List (Str × Addr):=ZbK env scope.names []
theorem Zcx {env:Env}:∀ (names:List (Str × NameKind)) (cs:List (Str × Addr)),(∀ x∈names,x.2=.free->∃ c,env.cells.lookup x.1=some c) ->
  (forIn names cs fun (x:Str × NameKind) r=>do
   if x.2 == .free then
    let c <- cellOf env x.1
    pure (Ybi ((x.1,c)::r))
   else pure (Ybi r):Sem (List (Str × Addr)))=pure (ZbK env names cs)
 | [],cs,_=>rfl
 | (n,k)::r,cs,h=>by
  rw[Yeo];have ih:=fun cs'=>Zcx (env:=env) r cs' fun x hx=>h x (Yag _ hx);by_cases hk:k=.free
  ·subst hk;obtain⟨c,hc⟩:=h (n,.free) Yal rfl;have hc':env.cells.lookup n=some c:=hc;have ec:cellOf env n=pure c:=by unfold cellOf;rw[hc']
   dsimp only;rw[if_pos (by rfl),ec];show (forIn r ((n,c)::cs) _:Sem _)=_;rw[ih]
   conv=>rhs;unfold ZbK
   rw[if_pos (by rfl),hc'];rfl
  ·have hb:(k == Ycg)=false:=by simpa using hk
   dsimp only;rw[if_neg (by rw[hb];decide)];show (forIn r cs _:Sem _)=_;rw[ih]
   conv=>rhs;unfold ZbK
   rw[if_neg (by rw[hb];decide)]
theorem ZcX {scope:Scope}{env:Env} (h:∀ x∈scope.names,x.2=.free->∃ c,env.cells.lookup x.1=some c):closureFor scope env=pure (clOf scope env):=by
 unfold closureFor;have e:=Zcx (env:=env) scope.names [] h;simp only[bind_pure];exact e
theorem ZfA {env:Env}{x:Str}{c:Addr}:∀ (names:List (Str × NameKind)) (cs:List (Str × Addr)),(ZbK env names cs).lookup x=some c->((x,Ycg)∈names/\c=(env.cells.lookup x).getD 0)∨cs.lookup x=some c
 | [],_,h=>.inr h
 | (n,k)::r,cs,h=>by
  unfold ZbK at h;rcases ZfA r _ h with ⟨h1,h2⟩ | h1
  ·exact .inl ⟨Yag _ h1,h2⟩
  ·by_cases hk:k=.free
   ·subst hk;rw[if_pos (by rfl),YbR] at h1
    cases e:x == n with
    | true=>
     rw[e] at h1;have en:x=n:=eq_of_beq e;subst en;exact .inl ⟨Yal,(YaL h1).symm⟩
    | false=>rw[e] at h1;exact .inr h1
   ·have hb:(k == Ycg)=false:=by simpa using hk
    rw[if_neg (by rw[hb];decide)] at h1;exact .inr h1
theorem ZjC {env:Env}{x:Str}:∀ (names:List (Str × NameKind)) (cs:List (Str × Addr)),(∃ c,cs.lookup x=some c)->∃ c,(ZbK env names cs).lookup x=some c
 | [],_,h=>h
 | (n,k)::r,cs,h=>by
  unfold ZbK;refine ZjC r _ ?_;split
  ·rw[YbR];split
   ·exact⟨_,rfl⟩
   ·exact h
  ·exact h
theorem ZjD {env:Env}{x:Str}:∀ (names:List (Str × NameKind)) (cs:List (Str × Addr)),(x,Ycg)∈names->∃ c,(ZbK env names cs).lookup x=some c
 | [],_,h=>by simp at h
 | (n,k)::r,cs,h=>by
  unfold ZbK;rcases YaC.mp h with e | h
  ·cases e;refine ZjC r _ ?_;rw[if_pos (by rfl),YbR];exact⟨(env.cells.lookup x).getD 0,by simp⟩
  ·exact ZjD r _ h
theorem ZhF {scope:Scope}{env:Env}{x:Str} (hcell:∀ y∈scope.names,y.2≠.cell) (h:(relabel scope env).names.lookup x=some .cell∨(relabel scope env).names.lookup x=some .free):(x,Ycg)∈scope.names:=by
 have hm:∃ k,(x,k)∈(relabel scope env).names/\(k=.cell∨k=.free):=by
  rcases h with h | h
  ·exact⟨_,YbJ h,.inl rfl⟩
  ·exact⟨_,YbJ h,.inr rfl⟩
 obtain⟨k,hm,hk⟩:=hm;obtain⟨⟨n,k'⟩,h1,h2⟩:=YaK.mp hm;dsimp only at h2;split at h2
 ·rename_i hc;have:k'=.free:=by
   simp only[Ycu,beq_iff_eq] at hc;exact hc.1.1
  cases h2;subst this;exact h1
 ·cases h2;rcases hk with rfl | rfl
  ·exact absurd rfl (hcell _ h1)
  ·exact h1
theorem Zc0 {env:Env}{x:Str}:∀ {names:List (Str × NameKind)},names.lookup x=some .free ->
  (names.map fun (n,k)=>if (k == Ycg && env.scope.kind == .function && env.kindOf n == some .cell) then (n,Yfv) else (n,k)).lookup x=some .cell ∨
  (names.map fun (n,k)=>if (k == Ycg && env.scope.kind == .function && env.kindOf n == some .cell) then (n,Yfv) else (n,k)).lookup x=some .free
 | [],h=>by simp at h
 | (n,k)::r,h=>by
  have ih:=@Zc0 env x r;rw[YaM];dsimp only
  cases hx:x == n with
  | true=>
   simp only[YbR,hx] at h;cases h;split
   ·left;simp[YbR,hx]
   ·right;simp[YbR,hx]
  | false=>
   simp only[YbR,hx] at h;split
   ·simp only[YbR,hx];exact ih h
   ·simp only[YbR,hx];exact ih h
section
variable {prog:Program}{w:World}{A:Around}{R:Result->Shared->Prop}{s:Shared}
theorem Zb9 {elt target iter:Expr}{ifs:List Expr}{scope:Scope}{pos:Pos}{it acc:Value}{env:Env} (I:Nat->Shared->Prop)
  (turn:∀ n s,I n s->wpAny (model prog w) A (pyNext it) (fun r s₁=>match r with
   | none=>R (.ok .next) s₁
   | some v=>wpAny (model prog w) A (letOwnedTupleGo target it v) (fun _ s₁'=>wpAny (model prog w) A (assign target env v) (fun _ s₂=>
     wpAny (model prog w) A (forIn ifs true fun c r=>if r=true then do let ok <- isTrue c env (eval c env);pure (Ybi ok) else pure (Ybi r)) (fun ok s₃=>
      if ok=true then wpAny (model prog w) A (eval elt env) (fun x s₄=>
       wpAny (model prog w) A (call (.builtin "list.append") [acc,x]) (fun _ s₅=>∃ m,m<n/\I m s₅) (fun _ _=>False) s₄) (fun _ _=>False) s₃
      else ∃ m,m<n/\I m s₃) (fun _ _=>False) s₂) (fun _ _=>False) s₁') (fun _ _=>False) s₁) (fun _ _=>False) s)
  (n:Nat) (h:I n s) :
  codeAny (model prog w) A (.compLoop (.ListComp elt [⟨target,iter,ifs,0⟩] scope pos) 0 it acc env) R s:=by
 refine codeAny_loop rfl I (fun n s hI=>?_) n h;show wpAny _ A ((compTurn (.ListComp elt [⟨target,iter,ifs,0⟩] scope pos) 0 it acc env).onRaise (fun x=>do noteFrame x env;theTreesLotGoes x)) _ _ s;refine wpAny_noted ?_;rw[compTurn_list];refine wpAny_bind (wpAny_standAt (wpAny_bind (wpAny_mono (turn n s hI) (fun r s₁ h₁=>?_) fun _ _ h'=>h'.elim)))
 cases r with
 | none=>exact wpAny_pure h₁
 | some v=>
  refine wpAny_bind (wpAny_mono h₁ (fun _ s₁' h₁=>?_) fun _ _ h'=>h'.elim);refine wpAny_bind (wpAny_mono h₁ (fun _ s₂ h₂=>wpAny_bind (wpAny_mono h₂ (fun ok s₃ h₃=>?_) fun _ _ h'=>h'.elim)) fun _ _ h'=>h'.elim)
  cases ok with
  | false=>exact wpAny_pure ⟨rfl,h₃⟩
  | true=>
   exact wpAny_bind (wpAny_bind (wpAny_mono h₃ (fun x s₄ h₄=>wpAny_bind (wpAny_mono h₄ (fun _ s₅ h₅=>wpAny_pure (wpAny_pure ⟨rfl,h₅⟩)) fun _ _ h'=>h'.elim)) fun _ _ h'=>h'.elim))
end
def PTs (X:Cx) (ifs:List Expr) (t:TT):Prop :=
 ∀ (pins:List (Addr × Obj)) (s:Shared) (σ:St) (H:Hp) (Q:Bool->Hp->Prop),Inv X pins σ H s->t σ H Q ->
  wpAny (model X.prog X.w) X.A (forIn ifs true fun c r=>if r=true then do let ok <- isTrue c X.env (eval c X.env);pure (Ybi ok) else pure (Ybi r)) (TP X pins σ Q) X.xe s
def Zhs:TT:=fun _ H Q=>Q true H
theorem ZaC {X:Cx}:PTs X [] Zhs:=fun _ _ _ H _ I h=>wpAny_tests_nil ⟨H,I,h⟩
theorem Zit {X:Cx}{c:Expr}{t:TT} (h:PT X c t):PTs X [c] t:=fun pins s σ H Q I q=>wpAny_tests_one (h pins s σ H Q I q)
def Cx.blk (X:Cx) (scope:Scope) (own:List Str) (js:List Nat) (s₂:Shared) (H₂:Hp) (C:Addr) (fp:List Addr) (pins:List (Addr × Obj)):Cx where
 prog:=X.prog
 w:=X.w
 K:=X.K
 mg:=X.mg
 base:=X.base
 A:=X.A
 N:=own++js.map fun j=>X.N.getD j YdR
 s₀:=s₂
 H₀:=H₂
 env:=compEnvC scope (clOf scope X.env) C X.env
 outer:=X.stack
 stack:=X.stack
 ex:=fp
 fn:=fun _=>false
 calm:=X.calm
 pn:=X.pn++pins
 xe:=fun _ _=>False
def blkσ (own:List Str) (js:List Nat) (σ:St):St:=own.map (fun _=>none)++js.map fun j=>(σ[j]?).join
section
variable {X:Cx}{pins:List (Addr × Obj)}{σ:St}{H H':Hp}{s s':Shared}{scope:Scope}{own:List Str}{js:List Nat}{C:Addr}{fp:List Addr}
structure CompOk (X:Cx) (scope:Scope) (own:List Str) (js:List Nat):Prop where
 kind:scope.kind=.function
 cell:∀ y∈scope.names,y.2≠.cell
 free:∀ y∈scope.names,y.2=.free->X.env.kindOf y.1=some .cell∨X.env.kindOf y.1=some .free
 names:∀ y∈scope.names,y.2=.local -> scope.names.lookup y.1=some .local
 out:∀ j∈js,∃ x,X.N[j]?=some x/\scope.names.lookup x=some .free
theorem CompOk.cl (c:CompOk X scope own js) (I:Inv X pins σ H s):∀ x∈scope.names,x.2=.free->∃ c,X.env.cells.lookup x.1=some c:=fun x hx hf=>I.ok.has x.1 (c.free x hx hf)
theorem CompOk.look (c:CompOk X scope own js) (I:Inv X pins σ H s) {x:Str}{a:Addr} (h:(clOf scope X.env).lookup x=some a):X.env.cells.lookup x=some a:=by
 rcases ZfA _ _ h with ⟨h1,h2⟩ | h1
 ·obtain⟨c',e⟩:=c.cl I (x,.free) h1 rfl;have e':X.env.cells.lookup x=some c':=e;rw[e'] at h2 ⊢;subst h2;rfl
 ·simp at h1
theorem Znu (c:CompOk X scope own js) (I:Inv X pins σ H s) (hC:s.heap.objs.size<=C) (hf:∀ b∈fp,FpOk X pins H b) (ho:∀ b∈fp,∃ o,s.heap.get? b=some o):(X.blk scope own js s H C fp pins).Ok where
 mod:=I.ok.mod
 kind:=c.kind
 glob:=I.ok.glob
 blt:=I.ok.blt
 above:=hC
 inj:=fun x y a h1 h2=>I.ok.inj x y a (c.look I h1) (c.look I h2)
 has:=fun x hx=>ZjD _ _ (ZhF c.cell hx)
 cab:=fun x a h=>by cases h
 hd:=I.ok.hd
 frames:=I.ok.frames
 stk:=.inl rfl
 exf:=fun b hb=>by
  obtain⟨o,e⟩:=ho b hb;exact⟨YaU (Yaw (Yap e) hC),fun x a h=>(hf b hb).2.2.2.2.1 x a (c.look I h)⟩
 bs:=I.bs
 bsz:=Ybw I.ok.bsz I.sz
 noex:=fun b o e hb=>by
  rcases (hf b hb).2.2.2.1 with z | z
  ·exact I.ok.noex b o e z
  ·exact absurd (Yaw (Yap e) (Ybw I.ok.bsz z)) (Ybo _)
 exfs:=fun b hb hm=>by
  rcases YaC.mp (I.stkSub b hm) with z | z
  ·exact (hf b hb).2.1 z
  ·exact (hf b hb).2.2.1 z
 funs:=I.stack
 frf:=I.stkFree
theorem Zgt (own:List Str) (js:List Nat) (σ:St) (X:Cx):(blkσ own js σ).length=(own++js.map fun j=>X.N.getD j YdR).length:=by
 unfold blkσ;simp
theorem ZfG {acc:Addr}{m:Str->Option Value}{tk:Nat}{h':Heap} (c:CompOk X scope own js) (I:Inv X pins σ H s) (hC:s.heap.objs.size<=C) (hf:∀ b∈fp,FpOk X pins H b) (ho:∀ b∈fp,∃ o,s.heap.get? b=some o)
  (hn:h'.Ns C m) (k:∀ b u,s.heap.get? b=some u->h'.get? b=some u) (hacc:s.heap.objs.size<=acc) (haC:acc≠C) (hl:h'.get? acc=some { cls:=.type "list",data:=.seq ([]:List Value).toArray 0 }) :
  Inv (X.blk scope own js s H C fp pins) [] (blkσ own js σ) (upd H acc (.lst [])) { s with heap:=h',toks:=tk }:=by
 have ok:=Znu c I hC hf ho;have fresh:∀ {a:Addr},s.heap.objs.size<=a->H a=none:=fun h=>I.hok.fresh h;have neA:∀ b o,s.heap.get? b=some o->b≠acc:=fun b o e=>YaU (Yaw (Yap e) hacc);refine⟨ok,rfl,I.bare,Un.laid k hacc (fresh hacc),⟨m,hn,fun i x v e1 e2 e3=>?_⟩,fun x a e=>?_,?_,fun x a e=>?_,fun p hp=>?_,I.hok.laid k hacc ⟨YaY _,[],0,.nil,hl⟩,Zgt own js σ X⟩
 ·
  have hi:own.length<=i:=by
   refine Yeh fun hi=>?_;unfold blkσ at e2;rw[Ybe (by simpa using hi),Yat] at e2
   cases q:own[i]? with
   | none=>rw[q] at e2;cases e2
   | some z=>rw[q] at e2;cases e2
  have e1':(js.map fun j=>X.N.getD j YdR)[i - own.length]?=some x:=by
   have e1:(own++js.map fun j=>X.N.getD j YdR)[i]?=some x:=e1
   rwa [YaV hi] at e1
  have e2':(js.map fun j=>(σ[j]?).join)[i - own.length]?=some (some v):=by
   unfold blkσ at e2;rw[YaV (by simpa using hi)] at e2;simpa using e2
  rw[Yat] at e1' e2'
  cases q:js[i - own.length]? with
  | none=>rw[q] at e1';cases e1'
  | some j=>
   rw[q] at e1' e2';obtain⟨x',hx',hfree⟩:=c.out j (YaO q);have ex:x'=x:=by
    have:X.N.getD j YdR=x:=YaL e1';rw[Yai,hx'] at this;exact this
   subst ex;have eσ:σ[j]?=some (some v):=by
    have e2'':(σ[j]?).join=some v:=YaL e2'
    cases r:σ[j]? with
    | none=>rw[r] at e2'';cases e2''
    | some z=>rw[r] at e2'';cases z with
     | none=>cases e2''
     | some y=>cases e2'';rfl
   have hmem:(x',Ycg)∈scope.names:=YbJ hfree;have hkX:=c.free _ hmem rfl;have vis:Vis X.env.scope x':=by
    rcases hkX with z | z
    ·exact .inr (.inl z)
    ·exact .inr (.inr z)
   obtain⟨m0,hn0,hl0⟩:=I.loc;obtain⟨u,r,l⟩:=hl0 j x' v hx' eσ vis;refine⟨u,r,.inr ⟨Zc0 hfree,?_⟩⟩;obtain⟨a,ha⟩:=ZjD (env:=X.env) scope.names [] hmem;refine⟨a,ha,?_⟩;have haX:=c.look I ha;rcases l with ⟨z,_⟩ | ⟨_,a',ha',⟨o,ho',hd⟩⟩
   ·have z:X.env.kindOf x'=some .local:=z;rcases hkX with y | y
    ·have y:X.env.kindOf x'=some .cell:=y;rw[z] at y;cases y
    ·have y:X.env.kindOf x'=some .free:=y;rw[z] at y;cases y
   ·rw[haX] at ha';cases ha';exact⟨o,k _ o ho',hd⟩
 ·obtain⟨v,o,ho',hd⟩:=I.cell x a (c.look I e);exact⟨v,o,k _ o ho',hd⟩
 ·show upd H acc (.lst []) C=none;rw[Zag (Ybl haC)];exact fresh hC
 ·have e':=c.look I e;obtain⟨v,o,ho',hd⟩:=I.cell x a e';rw[Zag (neA a o ho')];exact I.freeC x a e'
 ·have hp:p∈X.pn++pins:=by simpa[Cx.blk] using hp
  obtain⟨e,n,ne,nf,d⟩:=I.pin p hp;refine⟨k _ _ e,by rw[Zag (neA _ _ e)];exact n,YaU (Yaw (Yap e) hC),fun z=>?_,d⟩;rcases YaC.mp (I.stkSub _ z) with q | q
  ·exact ne q
  ·exact nf q
theorem ZjG {τ:St}{pl:List (Addr × Obj)} (I:Inv X pins σ H s) (hf:∀ b∈fp,FpOk X pins H b) (J:Inv (X.blk scope own js s H C fp pins) pl τ H' s'):Inv X pins σ H' s' :=
 I.call' J.os J.base J.hok J.bare fun b hb=>⟨(hf b hb).2.2.2.1,(hf b hb).2.1,(hf b hb).2.2.2.2.1,(hf b hb).2.2.2.2.2⟩
theorem Inv.other {h':Heap} (I:Inv X pins σ H s) (hs:YdB C s.heap h') (hn:H C=none) (hL:C≠X.env.locals) (h1:X.s₀.heap.objs.size<=C) (h2:∀ x c,X.env.cells.lookup x=some c->c≠C) (h3:∀ p∈X.pn++pins,p.1≠C) :
  Inv X pins σ H { s with heap:=h' } :=
 I.turned (t':=s.toks) (fun b o hb e=>(hs.2 b hb).trans e) hn hL (.inr h1) h2 h3
end
def ZhS (own:List Str) (g:TG):Prop:=∀ (js:List Nat) (σ:St) (x:V) (H:Hp) (Q:St->Hp->Prop),g x (blkσ own js σ) H Q ->
 g x (blkσ own js σ) H fun τ H'=>(∀ (j:Nat) v,(blkσ own js σ)[j]?=some (some v)->τ[j]?=some (some v))/\Q τ H'
theorem Za0 {own:List Str}{js:List Nat}{σ:St}{i:Nat}{v:V} (hi:i<own.length):(blkσ own js σ)[i]?≠some (some v):=by
 unfold blkσ;rw[Ybe (by simpa using hi),Yat]
 cases own[i]? with
 | none=>intro h;cases h
 | some z=>intro h;cases h
theorem Zay {own:List Str}{i:Nat} (hi:i<own.length:=by decide):ZhS own (ZbH i):=fun js σ x H Q h=>⟨fun j v e=>by
 have hj:j≠i:=by rintro rfl;exact Za0 hi e
 rw[YaZ (Ybl hj)];exact e,h⟩
theorem Zbg {K:Yac}{own:List Str}{i k:Nat} (hi:i<own.length:=by decide) (hk:k<own.length:=by decide):ZhS own (gTup K 2 (ZdC (ZbH i) (ZdC (ZbH k) gNil))):=fun js σ x H Q h=>by
 obtain⟨a,xs,rfl,hq,hl,v,r,rfl,w,r',rfl,e,h⟩:=h;refine⟨a,_,rfl,hq,hl,v,_,rfl,w,r',rfl,e,fun j z e=>?_,h⟩;have hj:j≠i:=by rintro rfl;exact Za0 hi e
 have hj':j≠k:=by rintro rfl;exact Za0 hk e
 rw[YaZ (Ybl hj'),YaZ (Ybl hj)];exact e
def Zby (own:List Str) (js:List Nat) (g:TG) (tt:TT) (te:TE) (σ:St) (J:It) (H1:Hp) (Q:VK):Prop :=
 ∀ acc,H1 acc=none->∃ (W:Nat->Hp->Prop) (n:Nat),W 0 (upd H1 acc (.lst []))/\∀ i H2,W i H2 ->
  (J.stop i H2/\Q (.ref acc) H2)∨(i<n/\J.go i H2/\∀ x H3,J.yld i H2 x H3->g x (blkσ own js σ) H3 fun τ H4=>tt τ H4 fun c H5=>
   if c=true then te τ H5 fun y H6=>∃ ys,H6 acc=some (.lst ys)/\ys.length<sizeLine/\W (i+1) (upd H6 acc (.lst (ys++[y]))) else W (i+1) H5)
def ZmO (own:List Str) (js:List Nat) (wi:TI) (g:TG) (tt:TT) (te:TE):TE:=fun σ H Q=>wi σ H fun J H1=>Zby own js g tt te σ J H1 Q
section
variable {X:Cx}{scope:Scope}{own:List Str}{js:List Nat}{elt iter target:Expr}{ifs:List Expr}{wi:TI}{g:TG}{tt:TT}{te:TE}{pos:Pos}
theorem ZjF {pins:List (Addr × Obj)}{σ:St}{H2:Hp}{s₂:Shared}{it:Addr}{fp:List Addr}{tn:Nat->Heap->Prop}{J:It}{Q:VK}{E:Value->Shared->Prop}{RR:Value->Addr->Result->Shared->Prop}
  (c:CompOk X scope own js) (hc:X.calm=true) (hgk:ZhS own g)
  (hg:∀ s H C fp pins,PG (X.blk scope own js s H C fp pins) target g) (ht:∀ s H C fp pins,PTs (X.blk scope own js s H C fp pins) ifs tt) (he:∀ s H C fp pins,PE (X.blk scope own js s H C fp pins) elt te)
  (I:Inv X pins σ H2 s₂) (T:Turn X.prog X.w X.K target J fp it tn) (st:tn 0 s₂.heap) (hf:∀ b∈fp,FpOk X pins H2 b) (h:Zby own js g tt te σ J H2 Q)
  (hRR:∀ acc C H' s' m,s₂.heap.objs.size<=C->H' C=none->Inv X pins σ H' s'->s'.heap.Ns C m->Q (.ref acc) H'->RR (.ref acc) C (.ok .next) s') :
  wpAny (model X.prog X.w) X.A (newList []) (fun acc s₃=>wpAny (model X.prog X.w) X.A (newFunctionEnv scope X.env.globals (clOf scope X.env) [] X.env.qual none .none (some X.env)) (fun cenv s₄=>
   codeAny (model X.prog X.w) X.A (.compStart (.ListComp elt [⟨target,iter,ifs,0⟩] scope pos) 0 (.ref it) acc { cenv with scope:=relabel scope X.env }) (RR acc cenv.locals) s₄) E s₃) E s₂:=by
 refine wpAny_newObj_type (wpAny_newFunctionEnv c.cell (by intro y hy;simp at hy) (fun h₁ hns₁ hsb₁=>?_) c.kind);dsimp only at hns₁ hsb₁ ⊢;generalize hH2:s₂.heap.push { cls:=.type "list",dict:=none,data:=.seq ([]:List Value).toArray }=G2 at hns₁ hsb₁ ⊢;have hC:G2.objs.size=s₂.heap.objs.size+1:=by rw[<- hH2,YbF]
 have hDC:s₂.heap.objs.size≠G2.objs.size:=by rw[hC];exact YaU (Ycw _)
 have hCle:s₂.heap.objs.size<=G2.objs.size:=by rw[hC];exact Ydm _
 have old:∀ b o,s₂.heap.get? b=some o->h₁.get? b=some o:=fun b o e=>hsb₁.extBut b o (YaU (Yaw (Yap e) hCle)) (Yae _ (hH2 ▸ Yae _ e));have hacc:h₁.get? s₂.heap.objs.size=some { cls:=.type "list",data:=.seq ([]:List Value).toArray 0 }:=hsb₁.extBut _ _ hDC (Yae _ (hH2 ▸ YaB _ rfl));have ho2:∀ b∈fp,∃ o,s₂.heap.get? b=some o:=fun b hb=>let ⟨o,e,_⟩:=T.obj 0 _ st b hb;⟨o,e⟩
 have I0:∀ tk,Inv (X.blk scope own js s₂ H2 G2.objs.size fp pins) [] (blkσ own js σ) (upd H2 s₂.heap.objs.size (.lst [])) { s₂ with heap:=h₁,toks:=tk }:=fun tk=>
  ZfG c I hCle hf ho2 hns₁ old (Yak _) hDC hacc
 obtain⟨W,nn,w0,turn⟩:=h s₂.heap.objs.size (I.hok.fresh (Yak _));generalize hacc':s₂.heap.objs.size=acc at *;generalize hGC:G2.objs.size=C at *;have st1:tn 0 h₁:=T.keep 0 _ _ st fun b _ o e=>old b o e;have fOk:∀ {H':Hp},(∀ b∈fp,H' b=none)->∀ b∈fp,FpOk (X.blk scope own js s₂ H2 C fp pins) [] H' b:=fun hn b hb=>by
  obtain⟨f0,f1,f2,f3,f4,f5⟩:=hf b hb;obtain⟨o,e⟩:=ho2 b hb;refine⟨hn b hb,YaU (Yaw (Yap e) (by rw[<- hacc'] at hCle;exact hCle)),fun z=>?_,.inl hb,fun x a h=>f4 x a (c.look I h),fun p hp=>f5 p (by simpa[Cx.blk] using hp)⟩;rcases YaC.mp (I.stkSub b z) with q | q
  ·exact f1 q
  ·exact f2 q
 have loop:∀ s₃:Shared,s₃={ s₂ with heap:=h₁,toks:=s₂.toks+([]:List (Str × Value)).length } ->
   codeAny (model X.prog X.w) X.A (.compLoop (.ListComp elt [⟨target,iter,ifs,0⟩] scope pos) 0 (.ref it) (.ref acc) (compEnvC scope (clOf scope X.env) C X.env)) (RR (.ref acc) C) s₃:=by
  rintro s₃ rfl;refine Zb9 (fun n s'=>∃ i H',n=nn - i/\Inv (X.blk scope own js s₂ H2 C fp pins) [] (blkσ own js σ) H' s'/\tn i s'.heap/\(∀ b∈fp,H' b=none)/\W i H') ?_ nn ⟨0,_,rfl,I0 _,st1,fun b hb=>?_,w0⟩
  ·rintro n s3 ⟨i,H3,en,I3,st3,fr3,w3⟩;rcases turn i H3 w3 with ⟨stop,qn⟩ | ⟨hin,go,step⟩
   ·refine thn (T.done (X.blk scope own js s₂ H2 C fp pins) rfl rfl rfl hc i [] s3 _ H3 (fun _ _=>False) I3 (fOk fr3) st3 stop) fun r s4 ⟨hr,I4⟩=>?_;subst hr;obtain⟨m,hn,_⟩:=I4.loc;exact hRR acc C H3 s4 m hCle I4.free (ZjG I hf I4) hn qn
   ·refine thn (T.item (X.blk scope own js s₂ H2 C fp pins) rfl rfl rfl hc i [] s3 _ H3 (fun _ _=>False) I3 (fOk fr3) st3 go) fun r s4 ⟨u,hr,h4⟩=>?_;subst hr;refine thn h4 fun _ s5 ⟨x,H5,I5,r5,y5,st5,fr5⟩=>?_;have I5':=I5.pinned (fOk fr5) (T.obj _ _ st5);have again:∀ {σ7:St}{H7:Hp}{s7:Shared},Inv (X.blk scope own js s₂ H2 C fp pins) ([]++Zdr fp s5.heap) σ7 H7 s7->(∀ (j:Nat) v,(blkσ own js σ)[j]?=some (some v)->σ7[j]?=some (some v))->W (i+1) H7 ->
      ∃ m,m<n/\∃ i H',m=nn - i/\Inv (X.blk scope own js s₂ H2 C fp pins) [] (blkσ own js σ) H' s7/\tn i s7.heap/\(∀ b∈fp,H' b=none)/\W i H':=fun {σ7 H7 s7} I7 hw w7=>by
     refine⟨nn - (i+1),by (clear hCle hDC hC hGC hacc';omega),i+1,H7,rfl,(I7.unpinned).weak ((Zgt own js σ X).trans I7.len.symm) hw,T.keep _ _ _ st5 fun b hb o e=>(I7.pin (b,o) (Yao _ (Yao _ (ZaW hb e)))).1,fun b hb=>?_,w7⟩;obtain⟨o,e,d⟩:=T.obj _ _ st5 b hb;exact (I7.pin (b,o) (Yao _ (Yao _ (ZaW hb e)))).2.1
    refine thn (hg s₂ H2 C fp pins _ s5 _ H5 x u _ I5' r5 (hgk _ _ _ _ _ (step x H5 y5))) fun _ s6 ⟨σ6,H6,I6,kp,q6⟩=>?_;refine thn (ht s₂ H2 C fp pins _ s6 σ6 H6 _ I6 q6) fun ok s7 ⟨H7,I7,q7⟩=>?_
    cases ok with
    | false=>
     exact again I7 kp q7
    | true=>
     refine thn (he s₂ H2 C fp pins _ s7 σ6 H7 _ I7 q7) fun y s8 ⟨v,H8,I8,r8,ys,hl,hz,w8⟩=>?_;refine thn (ZaZ (X:=X.blk scope own js s₂ H2 C fp pins) _ s8 σ6 H8 (.ref acc) [v] (.ref acc) [y] (fun _ H9=>W (i+1) H9) I8 rfl (.cons r8 .nil) ⟨acc,ys,v,rfl,rfl,hl,hz,w8⟩) fun _ s9 ⟨_,H9,I9,_,w9⟩=>?_;exact again I9 kp w9
  ·rw[Zag ?_]
   ·exact (hf b hb).1
   ·obtain⟨o,e⟩:=ho2 b hb;rw[<- hacc'];exact YaU (Yap e)
 exact codeAny_compStart_list (loop _ rfl) (T.self _ 0 _ _ _ st1 (loop _ rfl))
theorem ZaG (c:CompOk X scope own js) (hc:X.calm=true) (hi:PI X target iter wi) (hgk:ZhS own g)
  (hg:∀ s H C fp pins,PG (X.blk scope own js s H C fp pins) target g) (ht:∀ s H C fp pins,PTs (X.blk scope own js s H C fp pins) ifs tt) (he:∀ s H C fp pins,PE (X.blk scope own js s H C fp pins) elt te)
  (hs:∀ x,foldedSetIterable iter X.env x=pure x:=by intro _;rfl):PE X (.ListComp elt [⟨target,iter,ifs,0⟩] scope pos) (ZmO own js wi g tt te):=by
 intro pins s σ H Q I h;rw[eval_ListComp];refine wpAny_comprehension_free (use:=none) rfl hs (ZcX (c.cl I)) c.kind c.names (thn (hi pins s σ H _ I h) fun v s1 h1=>thn h1 fun itv s2 h2=>?_);obtain⟨it,fp,tn,J,H2,e,I2,T,st2,f2,hw⟩:=h2;subst e;refine ZjF (RR:=fun acc C=>compPost (model X.prog X.w) X.A X.xe none (EP X pins σ Q) acc C) c hc hgk hg ht he I2 T st2 f2 hw ?_;intro acc C H' s' m hCs hCn I' hn q;refine⟨m,hn,fun h' hs'=>⟨.ref acc,H',I'.other hs' hCn ?_ ?_ ?_ ?_,rfl,q⟩⟩
 ·exact Yb4 (Yaw I2.lt hCs)
 ·exact Ybw I2.sz hCs
 ·intro x a e z;obtain⟨v,q⟩:=I2.cell x a e;exact absurd (Yaw q.lt (by rw[z];exact hCs)) (Ybo _)
 ·intro p hp z;exact absurd (Yaw (Yap (I2.pin p hp).1) (by rw[z];exact hCs)) (Ybo _)
theorem ZlS {i:Nat}{y:Str}{py spos:Pos} (hN:X.N.Nodup) (hy:X.N[i]?=some y) (hyl:X.env.scope.names.lookup y=some .local) (c:CompOk X scope own js) (hc:X.calm=true) (hi:PI X target iter wi) (hgk:ZhS own g)
  (hg:∀ s H C fp pins,PG (X.blk scope own js s H C fp pins) target g) (ht:∀ s H C fp pins,PTs (X.blk scope own js s H C fp pins) ifs tt) (he:∀ s H C fp pins,PE (X.blk scope own js s H C fp pins) elt te)
  (hsw:swapsWith (.ListComp elt [⟨target,iter,ifs,0⟩] scope pos) (some (.Name y py)) spos.line X.env=pure true:=by rfl)
  (hs:∀ x,foldedSetIterable iter X.env x=pure x:=by intro _;rfl):PS X (.Assign [.Name y py] (.ListComp elt [⟨target,iter,ifs,0⟩] scope pos) spos) (tAsg (ZmO own js wi g tt te) (ZbH i)):=by
 intro pins s σ H D I h;rw[exec_Assign_Name_used _ _ _ _ hsw];refine wpAny_bind (wpAny_standAt (wpAny_bind ?_));show wpAny _ X.A (do let _ <- comprehension (.ListComp elt [⟨target,iter,ifs,0⟩] scope pos) scope X.env _ (newList []) false (eval iter X.env) (some (assign (.Name y py) X.env))) _ _ s;refine wpAny_bind (wpAny_mono (wpAny_comprehension_free (use:=some (assign (.Name y py) X.env)) (Q:=fun _ s'=>SP X pins D .next s') rfl hs (ZcX (c.cl I)) c.kind c.names
  (thn (hi pins s σ H _ I h) fun v s1 h1=>thn h1 fun itv s2 h2=>?_)) (fun _ s' hq=>wpAny_pure (wpAny_pure hq)) fun _ _ e=>e)
 obtain⟨it,fp,tn,J,H2,e,I2,T,st2,f2,hw⟩:=h2;subst e;refine ZjF (Q:=fun x H1=>ZbH i x σ H1 D.nx) (RR:=fun acc C=>compPost (model X.prog X.w) X.A X.xe (some (assign (.Name y py) X.env)) (fun _ s'=>SP X pins D .next s') acc C) c hc hgk hg ht he I2 T st2 f2 hw ?_;intro acc C H' s' m hCs hCn I' hn q;have hL:C≠X.env.locals:=Yb4 (Yaw I2.lt hCs);have hcell:∀ x a,X.env.cells.lookup x=some a->a≠C:=by
  intro x a e z;obtain⟨v,q⟩:=I2.cell x a e;exact absurd (Yaw q.lt (by rw[z];exact hCs)) (Ybo _)
 refine wpAny_assign_Name (Zdk I' hN hy (.inl hyl) (v:=.ref acc) rfl (fun s2 I'' hch=>?_) (.inr hyl));obtain⟨a,sb,ha⟩:=hch;have hCa:C≠a:=by
  rcases ha with rfl | ha
  ·exact hL
  ·exact Ybl (hcell _ _ ha)
 refine⟨m,hn.sameBut sb hCa,fun h' hs'=>⟨_,H',I''.other hs' hCn hL (Ybw I2.sz hCs) hcell ?_,q⟩⟩;intro p hp z;exact absurd (Yaw (Yap (I2.pin p hp).1) (by rw[z];exact hCs)) (Ybo _)
end
section
variable {K:Yac}{own:List Str}{js:List Nat}{g:TG}{tt:TT}{te:TE}{σ:St}{H1:Hp}{Q:VK}
theorem ZcW {lo:Int}{n:Nat} (Pv:Addr->Nat->Hp->Prop) (h0:∀ acc,H1 acc=none->Pv acc 0 (upd H1 acc (.lst [])))
  (hs:∀ acc i H,H1 acc=none->i<n->Pv acc i H->g (.int (lo+i)) (blkσ own js σ) H fun τ H4=>tt τ H4 fun c H5=>
   if c=true then te τ H5 fun y H6=>∃ ys,H6 acc=some (.lst ys)/\ys.length<sizeLine/\(i+1<=n/\Pv acc (i+1) (upd H6 acc (.lst (ys++[y])))) else (i+1<=n/\Pv acc (i+1) H5))
  (hd:∀ acc H,H1 acc=none->Pv acc n H->Q (.ref acc) H):Zby own js g tt te σ (Itr lo n) H1 Q:=by
 intro acc hacc;refine⟨fun i H=>i<=n/\Pv acc i H,n,⟨YaY _,h0 acc hacc⟩,?_⟩;rintro i H ⟨hi,p⟩;by_cases hlt:i<n
 ·refine .inr ⟨hlt,hlt,fun x H' y=>?_⟩;obtain⟨e,y⟩:=y;subst e y;exact hs acc i _ hacc hlt p
 ·have e:i=n:=by omega
  subst e;exact .inl ⟨Yak _,hd acc H hacc p⟩
end
def ZjA (scope sc:Scope) (js:List Nat) (N:List Str):Bool :=
 (scope.kind == .function) && (scope.names.all fun y=>(y.2 != .cell) && ((y.2 != .free) || (sc.names.lookup y.1 == some .cell) || (sc.names.lookup y.1 == some .free)) && ((y.2 != .local) || (scope.names.lookup y.1 == some .local))) &&
 (js.all fun j=>match N[j]? with | some x=>scope.names.lookup x == some .free | none=>false)
theorem CompOk.by {X:Cx}{scope sc:Scope}{own N:List Str}{js:List Nat} (hX:X.env.scope=sc) (hN:X.N=N) (h:ZjA scope sc js N=true):CompOk X scope own js:=by
 unfold ZjA at h;simp only[Ycu,beq_iff_eq,Yd9,Yet,bne_iff_ne,ne_eq] at h;obtain⟨⟨h1,h2⟩,h3⟩:=h;refine⟨h1,fun y hy=>(h2 y hy).1.1,fun y hy hf=>?_,fun y hy hl=>?_,fun j hj=>?_⟩
 ·show X.env.scope.names.lookup y.1=_∨X.env.scope.names.lookup y.1=_;rw[hX];rcases (h2 y hy).1.2 with (z | z) | z
  ·exact absurd hf z
  ·exact .inl z
  ·exact .inr z
 ·rcases (h2 y hy).2 with z | z
  ·exact absurd hl z
  ·exact z
 ·have:=h3 j hj;rw[hN]
  cases e:N[j]? with
  | none=>rw[e] at this;cases this
  | some x=>rw[e] at this;exact⟨x,rfl,by simpa using this⟩
end L2
namespace L2
open PySem PySem.Spec PyProof.Rows PySem.SeqAt
section
variable {X:Cx}
theorem Vals.bl_get {bs:List Bool}{us:List Value} (r:Vals (bs.map V.bl) us) {i:Nat}{v:Value} (e:us[i]?=some v):∃ b,bs[i]?=some b/\v=.bool b:=by
 cases q:(bs.map V.bl)[i]? with
 | none=>
  have:=r.none_of q;rw[e] at this;cases this
 | some x=>
  obtain⟨u,h1,h2⟩:=r.get q;rw[e] at h1;cases h1;rw[Yat] at q
  cases z:bs[i]? with
  | none=>rw[z] at q;cases q
  | some b=>rw[z] at q;cases q;exact⟨b,rfl,h2⟩
theorem Vals.int_at {ns:List Int}{us:List Value} (r:Vals (ns.map V.int) us) {i:Nat} (h:i<ns.length):∃ t,us[i]?=some (.int ns[i] t):=by
 have q:(ns.map V.int)[i]?=some (V.int ns[i]):=by rw[Yat,Yad h];rfl
 obtain⟨u,h1,t,rfl⟩:=r.get q;exact⟨t,h1⟩
theorem Zcr {α β:Type} (f:α->β):∀ (l:List α) (i:Nat),(l.eraseIdx i).map f=(l.map f).eraseIdx i
 | [],_=>rfl
 | _::_,0=>rfl
 | a::r,i+1=>by rw[YeQ,YaM,YaM,YeQ,Zcr f r i]
theorem Zkb:∀ {ns ms:List Int},ns.length=ms.length->((YaG ns.length).all fun i=>ns.getD i 0 == ms.getD i 0)=decide (ns=ms):=fun {ns ms} h=>by
 rw[YcF,Yd9,decide_eq_true_iff];constructor
 ·intro q;refine YbS h fun i h1 h2=>?_;have:=q i (Ya8.mpr h1);simpa[Yai,h1,h2] using this
 ·rintro rfl i hi;simp
theorem ZcT {ns:List Int}{its:List Value} (r:Vals (ns.map V.int) its) {j:Nat} (h:j<its.toArray.size):∃ t,its.toArray[j]=.int (ns.getD j 0) t:=by
 have hj:j<ns.length:=by rw[Yah,<- r.length,Yaa] at h;exact h
 obtain⟨t,q⟩:=r.int_at hj;obtain⟨_,q'⟩:=Yab.mp q;exact⟨t,by simpa[Yai,hj] using q'⟩
end
end L2
namespace L2
open PySem PySem.Spec PyProof.Rows PySem.SeqAt
section
variable {prog:Program}{w:World}{A:Around}{R:Result->Shared->Prop}{I:Addr}{fp wr:List Addr}{n:Nat}{P:Nat->Value->Prop}{St:Nat->Heap->Prop}
end
section
variable {X:Cx}
end
end L2
namespace L2
open PySem PySem.Spec PyProof.Rows PySem.SeqAt
def Ite (K:Yac) (a:Addr):It :=
 ⟨fun i H=>∃ xs x,SqL K H a xs/\xs[i]?=some x,fun i H y H'=>∃ p x,H p=none/\y=.ref p/\H'=upd H p (.tup [.int i,x])/\∀ xs,SqL K H a xs->xs[i]?=some x,fun i H=>∃ xs,SqL K H a xs/\xs.length<=i⟩
theorem Zh0 {P:Program}{w:World}{K:Yac}{es:List Expr}{x1}{pos:Pos} (a it e:Addr) (hne:e≠it):Turn P w K (.Tuple es x1 pos) (Ite K a) [e,it] e (fun i h=>(∃ old,IsEnum h e it (i:Nat) old)/\h.IsListIter it a i) where
 mem:=by simp
 obj:=fun i h st b hb=>by
  obtain⟨⟨old,s1⟩,s2⟩:=st;rcases YaC.mp hb with z | z
  ·subst z;exact⟨_,s1,fun v z=>nomatch z⟩
  ·have z:b=it:=by simpa using z
   subst z;obtain⟨o,e,c,d⟩:=s2;exact⟨o,e,fun v z=>by rw[d] at z;cases z⟩
 keep:=fun i h h' st k=>by
  obtain⟨⟨old,s1⟩,s2⟩:=st;exact⟨⟨old,k e (by simp) _ s1⟩,s2.at fun o q=>k it (by simp) o q⟩
 item:=by
  intro X hP hw hK hc i pins s σ H E I hf st hg;subst hP hw hK;obtain⟨xs,x,hq,hx⟩:=hg;obtain⟨its,rv,p,hz⟩:=I.list hq;obtain⟨u,hu,ru⟩:=rv.get hx;obtain⟨⟨old,s1⟩,s2⟩:=st;refine wpAny_pyNext_enum_item s1 s2 p.isList (x:=u) (by simpa using hu) hne fun h' ho hit ht hsz hk=>?_;refine⟨_,rfl,?_⟩;refine wpAny_letOwnedTupleGo_enum ho fun h'' he hs=>?_;have fresh:H s.heap.objs.size=none:=I.hok.fresh (Yak _);have k:∀ b o,b ∉ [e,it]->s.heap.get? b=some o->h''.get? b=some o:=fun b o hb q=>by
   have hb':b≠e/\b≠it:=by simpa using hb
   exact (hs.2 b hb'.1).trans (hk b o hb'.1 hb'.2 q)
  have nE:∀ b∈[e,it],H b=none:=fun b hb=>(hf b hb).1
  have nit:∀ b u,H b=some u->b ∉ [e,it]:=fun b u q z=>by rw[nE b z] at q;cases q
  have hpe:s.heap.objs.size≠e:=Yb4 (Yap s1);have htup:h''.get? s.heap.objs.size=some { cls:=.type "tuple",data:=.seq #[.int i s.toks,u] }:=(hs.2 _ hpe).trans ht;have newOk:ObjOk X.prog X.w (upd H s.heap.objs.size (.tup [.int i,x])) h'' s.heap.objs.size (.tup [.int i,x]):=by
   refine⟨?_,[.int i s.toks,u],.cons ⟨_,rfl⟩ (.cons ru .nil),⟨_,htup,rfl,rfl,0,rfl⟩⟩;show 2<=sizeLine
   decide
  have I1:Inv X pins σ (upd H s.heap.objs.size (.tup [.int i,x])) { s with heap:=h'',toks:=s.toks+1 }:=by
   refine I.step (g':=s.gens) (d':=s.drawn) (ch:=[e,it]) (fun b hb=>?_) (fun b o _ _ hc q _=>k b o hc q) (fun b o _ _ hc q _=>⟨o.slots,k b o hc q⟩) (fun b o _ q n=>?_) (fun b o hc q=>⟨o,k b o hc q⟩)
    (fun b xs q=>by rw[Zag (Zaf q fresh)];exact q) (fun b o xs q=>by rw[Zag (Zaf q fresh)];exact q) (fun b ps q=>⟨#[],by rw[Zag (Zaf q fresh),q];simp⟩) (fun m hm=>?_) (fun b ob q=>?_) I.bare
   ·obtain⟨f0,f1,f2,f3,f4,f5⟩:=hf b hb;exact⟨f3,f1,f4,f5⟩
   ·rw[Zag (YaU (Yap q))];exact n
   ·obtain⟨o,es,ep,ho,r⟩:=hm;refine⟨o,es,ep,k _ o (fun z=>?_) ho,r⟩;exact (hf _ z).2.1 rfl
   ·by_cases hb:b=s.heap.objs.size
    ·subst hb;rw[Zab] at q;cases q;exact newOk
    ·rw[Zag hb] at q;refine (I.hok b ob q).stay (fun c v hc r=>k c v ?_ r) (fun c r=>by rw[Zag (Zaf r fresh)];exact r) fun c xs r=>by rw[Zag (Zaf r fresh)];exact r
     rcases hc with z | z
     ·rw[z];exact nit b ob q
     ·exact nit c _ z
  refine⟨.ref s.heap.objs.size,_,I1,rfl,⟨s.heap.objs.size,x,fresh,rfl,rfl,fun ys hy=>by rw[I.list_inj hy hq];exact hx⟩,⟨⟨u,?_⟩,?_⟩,fun b hb=>?_⟩
  ·have he:IsEnum h'' e it ((i:Int)+1) u:=he;show IsEnum h'' e it ((i+1:Nat):Int) u;rw[show ((i+1:Nat):Int)=(i:Int)+1 by (clear hpe hsz hz hne;omega)];exact he
  ·exact hit.extBut hs.extBut (Ybl hne)
  ·have lt:b<s.heap.objs.size:=by
    rcases YaC.mp hb with z | z
    ·rw[z];exact Yap s1
    ·have z:b=it:=by simpa using z
     rw[z];obtain⟨o,q,_⟩:=s2;exact Yap q
   rw[Zag (YaU lt)];exact nE b hb
 done:=by
  intro X hP hw hK hc i pins s σ H E I hf st hg;subst hP hw hK;obtain⟨xs,hq,hx⟩:=hg;obtain⟨its,rv,p,hz⟩:=I.list hq;obtain⟨⟨old,s1⟩,s2⟩:=st;obtain⟨f0,f1,f2,f3,f4,f5⟩:=hf it (by simp);have hl:=rv.length;exact wpAny_pyNext_enum_end (I.ok.hd hc) s1 s2 p.isList (by simp;(clear f3 f2 f1 hz hne;omega)) fun h' eb=>⟨rfl,I.turned (t':=s.toks) (fun b o hb q=>eb b o hb q) f0 f1 f3 f4 f5⟩
 self:=fun _ _ _ _ _ st h=>by
  obtain⟨⟨old,s1⟩,_⟩:=st;exact wpAny_pyIter_enum s1 h
section
variable {X:Cx}
theorem ZdH:Zcz X (.builtin "isinstance") (fun xs H Q=>∃ x T t b,xs=[x,.ty T]/\TyOf X.K H x t/\Ydv X.K t (.type T)=some b/\Q (.bl b) H):=by
 intro pins s σ H xs us Q I r h;obtain⟨x,T,t,b,rfl,ty,e,q⟩:=h;obtain⟨u,u2,rfl,r1,r2⟩:=ZjR r;cases r2;exact Zjf I r1 ty e fun tk=>⟨.bl b,H,I.tok _,rfl,q⟩
end
end L2
namespace L2
open PySem PySem.Spec PyProof.Rows
section
variable {κ:Type} [DecidableEq κ]
end
section
variable {P:Program}{w:World}{H:Hp}{h:Heap}{a:Addr}
end
section
variable {X:Cx}{pins:List (Addr × Obj)}{σ:St}{H:Hp}{s:Shared}{a:Addr}{y v:V}{u r:Value}{o:Option V}{A:Around}{E:Value->Shared->Prop}
end
section
variable {X:Cx}{pins:List (Addr × Obj)}{σ:St}{H:Hp}{s:Shared}{a:Addr}{kvs:List (Key × V)}{k:Key}{u:Value}{A:Around}{E:Value->Shared->Prop}
end
section
variable {X:Cx}{o i e value:Expr}{pos pos' tpos:Pos}{td ty tv:TE}
end
section
variable {X:Cx}{pos:Pos}
end
structure M1 (X:Cx) (o:Expr) (m:Str) (apos:Pos) (e:Expr) (cpos:Pos):Prop where
 base:attributeBase o m X.env (eval o X.env)=eval o X.env
 few:((backTo cpos (starEach [e] X.env)).all (fun x=>!x.1) && (backToKw cpos (keywordEach [] X.env)).all (fun x=>x.1.isSome)
  && decide (([e]:List Expr).length+([]:List Keyword).length+(if ([]:List Keyword).isEmpty then 0 else 1)<30))=true
 line:(apos.endLine == cpos.line)=true
 trees:backTo cpos (starEach [e] X.env)=[(false,eval e X.env)]
structure M2 (X:Cx) (o:Expr) (m:Str) (apos:Pos) (e f:Expr) (cpos:Pos):Prop where
 base:attributeBase o m X.env (eval o X.env)=eval o X.env
 few:((backTo cpos (starEach [e,f] X.env)).all (fun x=>!x.1) && (backToKw cpos (keywordEach [] X.env)).all (fun x=>x.1.isSome)
  && decide (([e,f]:List Expr).length+([]:List Keyword).length+(if ([]:List Keyword).isEmpty then 0 else 1)<30))=true
 line:(apos.endLine == cpos.line)=true
 trees:backTo cpos (starEach [e,f] X.env)=[(false,eval e X.env),(false,eval f X.env)]
section
variable {X:Cx}{pins:List (Addr × Obj)}{σ:St}{H:Hp}{s:Shared}{a:Addr}{y d:V}{u r:Value}{o:Option V}{A:Around}{E:Value->Shared->Prop}
end
section
variable {X:Cx}{o e f:Expr}{apos cpos:Pos}{td ty tx:TE}
end
section
variable {X:Cx}{pins:List (Addr × Obj)}{σ:St}{H:Hp}{s:Shared}{a:Addr}{kvs:List (Key × V)}{A:Around}{E:Value->Shared->Prop}
end
section
variable {X:Cx}{pins:List (Addr × Obj)}{σ:St}{H:Hp}{s:Shared}{a:Addr}{y:V}{u:Value}{A:Around}{E:Value->Shared->Prop}
end
end L2
namespace L2
open PySem PySem.Spec PyProof.Rows
section
variable {κ:Type} [DecidableEq κ]
end
end L2
namespace L2
open PySem PySem.Spec PyProof.Rows PySem.SeqAt
section
variable {prog:Program}{w:World}{A:Around}{E:Value->Shared->Prop}{s:Shared}
theorem Zed {it t:Addr}{i:Nat}{items:Array Value}{x:Value}{Q:Value->Shared->Prop} (hit:s.heap.IsTupleIter it t i) (ht:s.heap.IsTuple t items) (hx:items[i]?=some x)
  (hQ:∀ h',h'.IsTupleIter it t (i+1)->YdB it s.heap h'->Q x { s with heap:=h' }):wpAny (model prog w) A (Ya7 (.ref it)) Q E s:=by
 obtain⟨o,ho,hc,hd⟩:=id hit;obtain⟨ol,hol,_,nl,hdl⟩:=ht;unfold Ya7;refine wpAny_bind (wpAny_callSpecial?_slot (name:=Ydb "__next__") hit.typeIs F.slot_tuple_iterator_next (wpAny_call_entry F.slot_tuple_iterator_next hit.typeIs F.entry_tuple_iterator_next ?_ (F.args_tuple_iterator_next_1 _)));show wpAny _ _ (field (.ref it) 0 >>= _) _ _ s;refine wpAny_bind (wpAny_field ho hd (x:=.ref t) rfl ?_);show wpAny _ _ (if (Ybt t == YbU)=true then _ else _) _ _ s;rw[if_neg (show ¬ ((Ybt t == YbU)=true) from YaJ)];show wpAny _ _ (field (.ref it) 1 >>= _) _ _ s;refine wpAny_bind (wpAny_field ho hd (x:=.int i 0) rfl ?_);show wpAny _ _ (seqItems? (.ref t) >>= _) _ _ s;refine wpAny_bind (wpAny_seqItems hol hdl ?_);simp only[YaS,hx];refine wpAny_bind (wpAny_setField ho hd (by simp) (wpAny_pure ⟨x,rfl,wpAny_pure (hQ _ ?_ (Yep ..))⟩));exact⟨_,YeY _ ho (Obj.isFreed_of_fields (Yfs hd _)),(Obj.cls_mapFields ..).trans hc,by rw[Yfs hd];simp[rawInt]⟩
theorem Zbk {it t:Addr}{i:Nat}{items:Array Value}{Q:Value->Shared->Prop} (hh:A.handled=none) (hit:s.heap.IsTupleIter it t i) (ht:s.heap.IsTuple t items) (hx:items[i]?=none)
  (hE:∀ h' e,YdG it s.heap h'->(∃ o,h'.get? e=some o/\o.cls=.type "StopIteration")->E (.ref e) { s with heap:=h' }):wpAny (model prog w) A (Ya7 (.ref it)) Q E s:=by
 obtain⟨o,ho,hc,hd⟩:=id hit;obtain⟨ol,hol,_,nl,hdl⟩:=ht;unfold Ya7;refine wpAny_bind (wpAny_callSpecial?_slot (name:=Ydb "__next__") hit.typeIs F.slot_tuple_iterator_next (wpAny_call_entry F.slot_tuple_iterator_next hit.typeIs F.entry_tuple_iterator_next ?_ (F.args_tuple_iterator_next_1 _)));show wpAny _ _ (field (.ref it) 0 >>= _) _ _ s;refine wpAny_bind (wpAny_field ho hd (x:=.ref t) rfl ?_);show wpAny _ _ (if (Ybt t == YbU)=true then _ else _) _ _ s;rw[if_neg (show ¬ ((Ybt t == YbU)=true) from YaJ)];show wpAny _ _ (field (.ref it) 1 >>= _) _ _ s;refine wpAny_bind (wpAny_field ho hd (x:=.int i 0) rfl ?_);show wpAny _ _ (seqItems? (.ref t) >>= _) _ _ s;refine wpAny_bind (wpAny_seqItems hol hdl ?_);simp only[YaS,hx];refine wpAny_bind (wpAny_rule (wpAny_bind (wpAny_setField ho hd (by simp) ?_)));show wpAny _ _ (newExc (.type "StopIteration") [] >>= _) _ _ _;refine wpAny_bind ?_;simp only[newExc,newTuple];refine wpAny_bind (wpAny_newObj_type ?_ (by size_fits));refine wpAny_bind (m:=firstArgMember _ _) (wpAny_of_eq (a:=YbU) (by first | rfl | (simp only[firstArgMember];rfl)) ?_);refine wpAny_newObj_type ?_ (by size_fits);simp only[raiseNew];refine wpAny_bind (wpAny_handled ?_)
 first | rw[show A.in1.handled=none from hh] | rw[hh]
 refine wpAny_bind (wpAny_pure (wpAny_throw ?_));exact hE _ _ (((Yep ..).extBut.push _).push _) ⟨_,YaB _ rfl,rfl⟩
theorem Zjs (hh:A.handled=none) (it l:Addr) (hne:l≠it) (items:Array Value):Draws prog w A it [it,l] items.size (fun i v=>items[i]?=some v) (fun i h=>h.IsTupleIter it l i/\h.IsTuple l items) where
 live:=fun _ _ st=>let ⟨o,ho,_⟩:=st.1;⟨o,ho⟩
 frame:=fun _ _ _ st hk=>⟨st.1.at fun o e=>hk it (by simp) o e,let ⟨o,e,c⟩:=st.2;⟨o,hk l (by simp) o e,c⟩⟩
 item:=fun i s Q E hi st hQ=>by
  refine Zed st.1 st.2 (x:=items[i]) (by simp[hi]) fun h' hit' hs'=>?_;exact hQ _ h' s.toks (by simp[hi]) ⟨hit',let ⟨o,e,c⟩:=st.2;⟨o,(hs'.2 l hne).trans e,c⟩⟩ hs'
 done:=fun s Q E st hE=>Zbk hh st.1 st.2 (by simp) hE
end
theorem Zfy (l:Addr) (items:Array Value) (n:Nat) (dct:Option Addr) (sl:Array (Option Value)) :
  Meets (Builtin.«enumerate.__new__» ⟨[.type "enumerate",.ref l],[]⟩) (fun _ R s=>s.heap.get? l=some { cls:=.type "tuple",dict:=dct,data:=.seq items n,slots:=sl } /\
   R (.ok (.ret (.ref (s.heap.push { cls:=.type "tuple_iterator",data:=.fields #[.ref l,.int 0 0] }).objs.size)))
    { s with heap:=(s.heap.push { cls:=.type "tuple_iterator",data:=.fields #[.ref l,.int 0 0] }).push { cls:=.type "enumerate",data:=.fields #[.none,.bool false,.ref s.heap.objs.size,rawInt 0,.none,.none] } }) :=
 .of_wp fun prog w A R s h=>by
  obtain⟨hp,g,d,tk,os⟩:=s;obtain⟨hl,h⟩:=h;have hsub:=sub_enumerate;have hL:YdC (Ycr ⟨hp,g,d,tk,os⟩) l items:=⟨_,hl,rfl,n,rfl⟩
  wp_walk using Ycp hl
  refine wpAny_stack_any fun st=>wpAny_pure ?_;split
  ·rename_i c _ _ _ _ _;cases (c == YdP "enumerate")
   ·wp_walk using Ycp hl,wpAny_pyIter_tuple hL
    exact⟨_,rfl,h⟩
   ·wp_walk using Ycp hl,wpAny_pyIter_tuple hL
    exact⟨_,rfl,h⟩
  ·wp_walk using Ycp hl,wpAny_pyIter_tuple hL
   exact⟨_,rfl,h⟩
section
variable {prog:Program}{w:World}{A:Around}{E:Value->Shared->Prop}{s:Shared}
theorem Zfx {e it l:Addr}{i:Nat}{items:Array Value}{old:Value}{Q:Option Value->Shared->Prop} (hh:A.handled=none) (he:IsEnum s.heap e it i old) (hit:s.heap.IsTupleIter it l i) (hl:s.heap.IsTuple l items) (hx:items[i]?=none)
  (hQ:∀ h',YdG it s.heap h'->Q none { s with heap:=h' }):wpAny (model prog w) A (pyNext (.ref e)) Q E s:=by
 have hT:s.TypeIs (.ref e) "enumerate":=⟨_,he,rfl⟩
 unfold pyNext;refine wpAny_bind (wpAny_attempt (wpAny_callSpecial?_slot (name:=Ydb "__next__") hT F.slot_enumerate_next (wpAny_call_entry F.slot_enumerate_next hT F.entry_enumerate_next ?_ (F.args_enumerate_next_1 _))));show wpAny _ _ (field (.ref e) 2 >>= _) _ _ _;refine wpAny_bind (wpAny_field he rfl (x:=.ref it) rfl ?_);refine wpAny_bind (Zbk hh hit hl hx fun h' x he' hx'=>?_);obtain⟨o,ho,hc⟩:=hx';refine wpAny_bind (wpAny_isInstance (T:="StopIteration") (b:=true) ⟨o,ho,hc⟩ isSubtype_stop ?_);exact wpAny_pure (hQ _ he')
theorem Ze0 {l:Addr}{items:Array Value}{Q:Value->Shared->Prop} (hL:s.heap.IsTuple l items)
  (h:∀ h',IsEnum h' (s.heap.objs.size+1) s.heap.objs.size 0 .none->h'.IsTupleIter s.heap.objs.size l 0->(∀ b o,s.heap.get? b=some o->h'.get? b=some o)->Q (.ref (s.heap.objs.size+1)) { s with heap:=h' }) :
  wpAny (model prog w) A (call (.type "enumerate") [.ref l]) Q E s:=by
 obtain⟨⟨c,dct,dt,sl⟩,hl,hc,n,hd⟩:=hL
 replace hc:c=.type "tuple":=hc
 replace hd:dt=.seq items n:=hd
 subst hc hd;refine callType_new F.called_enumerate (by decide) (F.typeCall_enumerate_1 _) (F.newCall_enumerate_1 _) (fun obj=>F.args_object_init_2 obj _) F.entry_enumerate_new (Zfy l items n dct sl) ⟨hl,?_⟩;have hz:(s.heap.push { cls:=.type "tuple_iterator",data:=.fields #[.ref l,.int 0 0] }).objs.size=s.heap.objs.size+1:=YbF ..;show _/\_;rw[hz];have he:IsEnum ((s.heap.push { cls:=.type "tuple_iterator",data:=.fields #[.ref l,.int 0 0] }).push { cls:=.type "enumerate",data:=.fields #[.none,.bool false,.ref s.heap.objs.size,rawInt 0,.none,.none] }) (s.heap.objs.size+1) s.heap.objs.size 0 .none:=by
  have:=YaB (s.heap.push { cls:=.type "tuple_iterator",data:=.fields #[.ref l,.int 0 0] }) (o:={ cls:=.type "enumerate",data:=.fields #[.none,.bool false,.ref s.heap.objs.size,rawInt 0,.none,.none] }) rfl;rw[hz] at this;exact this
 exact⟨⟨_,he,rfl⟩,h _ he ⟨_,Yae _ (YaB _ rfl),rfl,rfl⟩ fun b o x=>Yae _ (Yae _ x)⟩
end
def IteT (K:Yac) (a:Addr):It :=
 ⟨fun i H=>∃ xs x,SqT K H a xs/\xs[i]?=some x,fun i H y H'=>∃ p x,H p=none/\y=.ref p/\H'=upd H p (.tup [.int i,x])/\∀ xs,SqT K H a xs->xs[i]?=some x,fun i H=>∃ xs,SqT K H a xs/\xs.length<=i⟩
theorem Zhn {P:Program}{w:World}{K:Yac}{es:List Expr}{x1}{pos:Pos} (a it e:Addr) (hne:e≠it):Turn P w K (.Tuple es x1 pos) (IteT K a) [e,it] e (fun i h=>(∃ old,IsEnum h e it (i:Nat) old)/\h.IsTupleIter it a i) where
 mem:=by simp
 obj:=fun i h st b hb=>by
  obtain⟨⟨old,s1⟩,s2⟩:=st;rcases YaC.mp hb with z | z
  ·subst z;exact⟨_,s1,fun v z=>nomatch z⟩
  ·have z:b=it:=by simpa using z
   subst z;obtain⟨o,e,c,d⟩:=s2;exact⟨o,e,fun v z=>by rw[d] at z;cases z⟩
 keep:=fun i h h' st k=>by
  obtain⟨⟨old,s1⟩,s2⟩:=st;exact⟨⟨old,k e (by simp) _ s1⟩,s2.at fun o q=>k it (by simp) o q⟩
 item:=by
  intro X hP hw hK hc i pins s σ H E I hf st hg;subst hP hw hK;obtain⟨xs,x,hq,hx⟩:=hg;obtain⟨its,rv,p,hz⟩:=I.tuple hq;obtain⟨u,hu,ru⟩:=rv.get hx;obtain⟨⟨old,s1⟩,s2⟩:=st;have hlt:(i:Nat)<its.toArray.size:=by
   have:=(Yab.mp hu).1
   simpa using this
  have nea:a≠it:=by
   rintro rfl;obtain⟨o1,q1,c1,_⟩:=p;obtain⟨o2,q2,c2,_⟩:=id s2;rw[q1] at q2;cases q2;rw[c1] at c2;injection c2 with z;exact absurd z (by decide)
  have nee:a≠e:=by
   rintro rfl;obtain⟨o1,q1,c1,_⟩:=p;have s1':s.heap.get? a=some _:=s1;rw[q1] at s1';cases s1';injection c1 with z;exact absurd z (by decide)
  have it2:s.heap.IsTuple a its.toArray:=p;refine wpAny_pyNext_enum_itemD (Zjs (A:=X.A.in1) (I.ok.hd hc) it a nea its.toArray) s1 ⟨s2,it2⟩ hlt hne (by simp[hne,Ybl nee]) fun u' h' tk' hu' ho hst ht hsz hk=>?_;have eu:u'=u:=by
   have:its.toArray[i]?=some u:=by simpa using hu
   rw[this] at hu';exact (YaL hu').symm
  subst eu;have hit:=hst.1;refine⟨_,rfl,?_⟩;refine wpAny_letOwnedTupleGo_enum ho fun h'' he hs=>?_;have fresh:H s.heap.objs.size=none:=I.hok.fresh (Yak _);have k:∀ b o,b ∉ [e,it]->s.heap.get? b=some o->h''.get? b=some o:=fun b o hb q=>by
   have hb':b≠e/\b≠it:=by simpa using hb
   exact (hs.2 b hb'.1).trans (hk b o hb'.1 hb'.2 q)
  have nE:∀ b∈[e,it],H b=none:=fun b hb=>(hf b hb).1
  have nit:∀ b u,H b=some u->b ∉ [e,it]:=fun b u q z=>by rw[nE b z] at q;cases q
  have hpe:s.heap.objs.size≠e:=Yb4 (Yap s1);have htup:h''.get? s.heap.objs.size=some { cls:=.type "tuple",data:=.seq #[.int i tk',u'] }:=(hs.2 _ hpe).trans ht;have newOk:ObjOk X.prog X.w (upd H s.heap.objs.size (.tup [.int i,x])) h'' s.heap.objs.size (.tup [.int i,x]):=by
   refine⟨?_,[.int i tk',u'],.cons ⟨_,rfl⟩ (.cons ru .nil),⟨_,htup,rfl,rfl,0,rfl⟩⟩;show 2<=sizeLine
   decide
  have I1:Inv X pins σ (upd H s.heap.objs.size (.tup [.int i,x])) { s with heap:=h'',toks:=tk'+1 }:=by
   refine I.step (g':=s.gens) (d':=s.drawn) (ch:=[e,it]) (fun b hb=>?_) (fun b o _ _ hc q _=>k b o hc q) (fun b o _ _ hc q _=>⟨o.slots,k b o hc q⟩) (fun b o _ q n=>?_) (fun b o hc q=>⟨o,k b o hc q⟩)
    (fun b xs q=>by rw[Zag (Zaf q fresh)];exact q) (fun b o xs q=>by rw[Zag (Zaf q fresh)];exact q) (fun b ps q=>⟨#[],by rw[Zag (Zaf q fresh),q];simp⟩) (fun m hm=>?_) (fun b ob q=>?_) I.bare
   ·obtain⟨f0,f1,f2,f3,f4,f5⟩:=hf b hb;exact⟨f3,f1,f4,f5⟩
   ·rw[Zag (YaU (Yap q))];exact n
   ·obtain⟨o,es,ep,ho,r⟩:=hm;refine⟨o,es,ep,k _ o (fun z=>?_) ho,r⟩;exact (hf _ z).2.1 rfl
   ·by_cases hb:b=s.heap.objs.size
    ·subst hb;rw[Zab] at q;cases q;exact newOk
    ·rw[Zag hb] at q;refine (I.hok b ob q).stay (fun c v hc r=>k c v ?_ r) (fun c r=>by rw[Zag (Zaf r fresh)];exact r) fun c xs r=>by rw[Zag (Zaf r fresh)];exact r
     rcases hc with z | z
     ·rw[z];exact nit b ob q
     ·exact nit c _ z
  refine⟨.ref s.heap.objs.size,_,I1,rfl,⟨s.heap.objs.size,x,fresh,rfl,rfl,fun ys hy=>by rw[I.tuple_inj hy hq];exact hx⟩,⟨⟨u',?_⟩,?_⟩,fun b hb=>?_⟩
  ·have he:IsEnum h'' e it ((i:Int)+1) u':=he;show IsEnum h'' e it ((i+1:Nat):Int) u';rw[show ((i+1:Nat):Int)=(i:Int)+1 by (clear hpe hsz hst nee nea hlt hz hne;omega)];exact he
  ·exact hit.extBut hs.extBut (Ybl hne)
  ·have lt:b<s.heap.objs.size:=by
    rcases YaC.mp hb with z | z
    ·rw[z];exact Yap s1
    ·have z:b=it:=by simpa using z
     rw[z];obtain⟨o,q,_⟩:=s2;exact Yap q
   rw[Zag (YaU lt)];exact nE b hb
 done:=by
  intro X hP hw hK hc i pins s σ H E I hf st hg;subst hP hw hK;obtain⟨xs,hq,hx⟩:=hg;obtain⟨its,rv,p,hz⟩:=I.tuple hq;obtain⟨⟨old,s1⟩,s2⟩:=st;obtain⟨f0,f1,f2,f3,f4,f5⟩:=hf it (by simp);have hl:=rv.length;exact Zfx (I.ok.hd hc) s1 s2 (show s.heap.IsTuple a its.toArray from p) (by simp;(clear f3 f2 f1 hz hne;omega)) fun h' eb=>⟨rfl,I.turned (t':=s.toks) (fun b o hb q=>eb b o hb q) f0 f1 f3 f4 f5⟩
 self:=fun _ _ _ _ _ st h=>by
  obtain⟨⟨old,s1⟩,_⟩:=st;exact wpAny_pyIter_enum s1 h
def SqB (b:Bool) (K:Yac) (H:Hp) (a:Addr) (xs:List V):Prop:=match b with | true=>SqL K H a xs | false=>SqT K H a xs
def IteB (b:Bool) (K:Yac) (a:Addr):It:=match b with | true=>Ite K a | false=>IteT K a
def Zlt (K:Yac) (ta:TA):TI:=fun σ H R=>ta σ H fun vs H1=>∃ a b,vs=[.ref a]/\(∃ xs,SqB b K H1 a xs)/\R (IteB b K a) H1
theorem Zcn {X:Cx}{es:List Expr}{x1}{tpos:Pos}{e:Expr}{ta:TA}{p pos:Pos} (hg:Gl X "enumerate") (hm:X.mg "enumerate"=none) (ha:PA X [e] ta) (hs:starEach [e] X.env=[(false,eval e X.env)]:=by rfl) :
  PI X (.Tuple es x1 tpos) (.Call (.Name "enumerate" p) [e] [] pos) (Zlt X.K ta):=by
 intro pins s σ H R I h;refine Call_ (Zcs I hg hm (show bootBuiltins "enumerate"=some (.type "enumerate") by decide +kernel) (Ybr (thn (ha pos pins s σ H _ I h) fun us s1 ⟨vs,H1,I1,r1,q1⟩=>?_) hs rfl));obtain⟨a,b,e1,⟨xs,hq⟩,q⟩:=q1;subst e1;obtain⟨u,rfl,r⟩:=Zep r1;cases r;have fp:∀ b∈[s1.heap.objs.size+1,s1.heap.objs.size],FpOk X pins H1 b:=fun b hb=>by
  have ge:s1.heap.objs.size<=b:=by
   rcases YaC.mp hb with z | z
   ·rw[z];exact Ydm _
   ·have z:b=s1.heap.objs.size:=by simpa using z
    rw[z];exact Yak _
  exact I1.fpOk ge (I1.hok.fresh ge)
 cases b with
 | true=>
  obtain⟨its,rv,pl,hz⟩:=I1.list hq;refine call_enumerate_list pl.isList fun h' he hi hsz k=>wpAny_pyIter_enum he ?_;exact⟨s1.heap.objs.size+1,[s1.heap.objs.size+1,s1.heap.objs.size],_,_,H1,rfl,I1.kept (t':=s1.toks) k,Zh0 a s1.heap.objs.size _ (Yb4 (Ycw _)),⟨⟨.none,he⟩,hi⟩,fp,q⟩
 | false=>
  obtain⟨its,rv,pl,hz⟩:=I1.tuple hq;refine Ze0 (show s1.heap.IsTuple a its.toArray from pl) fun h' he hi k=>wpAny_pyIter_enum he ?_;exact⟨s1.heap.objs.size+1,[s1.heap.objs.size+1,s1.heap.objs.size],_,_,H1,rfl,I1.kept (t':=s1.toks) k,Zhn a s1.heap.objs.size _ (Yb4 (Ycw _)),⟨⟨.none,he⟩,hi⟩,fp,q⟩
theorem Zjn {b:Bool}{K:Yac}{a:Addr}{xs:List V}{g:TG}{tb:TS}{D:Ends}{σ:St}{H:Hp} (Pv:Nat->St->Hp->Prop) (h0:Pv 0 σ H) (hl:∀ i σ H,i<=xs.length->Pv i σ H->SqB b K H a xs)
  (hs:∀ i x p σ H,xs[i]?=some x->Pv i σ H->H p=none->g (.ref p) σ (upd H p (.tup [.int i,x])) fun σ2 H2=>tb { D with nx:=Pv (i+1),ct:=Pv (i+1),bk:=D.nx } σ2 H2) (hd:∀ σ H,Pv xs.length σ H->D.nx σ H) :
  ∃ W:Nat->Nat->St->Hp->Prop,(∃ m,W 0 m σ H)/\∀ i m σ H,W i m σ H ->
   ((IteB b K a).stop i H/\D.nx σ H)∨((IteB b K a).go i H/\∃ N:St->Hp->Prop,(∀ σ' H',N σ' H'->∃ m',m'<m/\W (i+1) m' σ' H')/\∀ x H',(IteB b K a).yld i H x H'->g x σ H' fun σ2 H2=>tb { D with nx:=N,ct:=N,bk:=D.nx } σ2 H2):=by
 refine⟨fun i m σ H=>m=xs.length - i/\i<=xs.length/\Pv i σ H,⟨xs.length,by simp,YaY _,h0⟩,?_⟩;rintro i m σ H ⟨rfl,hi,p⟩;have q:=hl i σ H hi p;by_cases hlt:i<xs.length
 ·have gx:xs[i]?=some xs[i]:=by simp[hlt]
  refine .inr ⟨by cases b <;> exact⟨xs,xs[i],q,gx⟩,Pv (i+1),fun σ' H' p'=>⟨xs.length - (i+1),by (clear hi;omega),rfl,hlt,p'⟩,fun x H' y=>?_⟩;have y:∃ pa z,H pa=none/\x=.ref pa/\H'=upd H pa (.tup [.int i,z])/\xs[i]?=some z:=by
   cases b with
   | true=>obtain⟨pa,z,hp,e1,e2,y⟩:=y;exact⟨pa,z,hp,e1,e2,y xs q⟩
   | false=>obtain⟨pa,z,hp,e1,e2,y⟩:=y;exact⟨pa,z,hp,e1,e2,y xs q⟩
  obtain⟨pa,z,hp,e1,e2,y'⟩:=y;subst e1 e2;exact hs i z pa σ H y' p hp
 ·have e:i=xs.length:=by omega
  subst e;exact .inl ⟨by cases b <;> exact⟨xs,q,Yak _⟩,hd σ H p⟩
end L2
namespace L2
open PySem PySem.Spec PyProof.Rows PySem.SeqAt
section
variable {X:Cx}
theorem Zis {bs:List Bool}:(YaG bs.length).any (fun i=>bs.getD i true)=bs.any id:=by
 rw[YcF,Yds,Yds];constructor
 ·rintro⟨i,hi,h⟩;have hi':=Ya8.mp hi;exact⟨bs[i],Ybq hi',by simpa[Yai,hi'] using h⟩
 ·rintro⟨b,hb,h⟩;obtain⟨i,hi,e⟩:=List.getElem_of_mem hb;exact⟨i,Ya8.mpr hi,by simpa[Yai,hi,e] using h⟩
theorem Zhi (hc:X.calm=true):Zcz X (.builtin "any") (fun xs H Q=>∃ (a:Addr) (bs:List Bool),xs=[.ref a]/\SqL X.K H a (bs.map V.bl)/\Q (.bl (bs.any id)) H):=by
 intro pins s σ H xs us Q I r h;obtain⟨a,bs,rfl,hq,q⟩:=h;obtain⟨u,rfl,r1⟩:=Zep r;cases r1;obtain⟨its,rv,p,hz⟩:=I.list hq;refine call_any_walk (wpAny_pyIter_list p.isList ?_);have hlt:=(let ⟨o,n,e,_⟩:=p;Yap e:a<s.heap.objs.size)
 have hne:a≠s.heap.objs.size:=YaU hlt;have hlen:its.toArray.size=bs.length:=by rw[Yah,<- rv.length,Yaa]
 refine⟨s.heap.objs.size,_,_,_,_,_,fun i=>bs.getD i true,rfl,Walks.list (A:=X.A.in1) (I.ok.hd hc) _ a hne its.toArray,⟨⟨_,YaB _ rfl,rfl,rfl⟩,?_⟩,?_,?_⟩
 ·obtain⟨o,n,e,c,_,d⟩:=p;exact⟨o,Yae _ e,c,n,d⟩
 ·intro i v s' Q' E' hP hQ;have hP':its[i]?=some v:=by simpa using hP
  obtain⟨b,hb,rfl⟩:=rv.bl_get hP';refine wpAny_truthy_bool ?_;dsimp only at hQ;rw[Yai,hb] at hQ;exact hQ
 ·intro h' tk k;rw[hlen,Zis];refine⟨.bl (bs.any id),H,I.kept (h':=h') (t':=tk) fun b o e=>k b o ?_ (Yae _ e),rfl,q⟩;intro hm;have:b=s.heap.objs.size:=by simpa using hm
  rw[this] at e;exact absurd (Yap e) (Ybo _)
theorem Zb5 (ns:List Int):∀ k,k<=ns.length->preSum (fun i=>ns.getD i 0) k=(ns.take k).sum
 | 0,_=>by simp[preSum]
 | k+1,h=>by
  have hk:k<ns.length:=by omega
  rw[YaW hk,Ybu,<- Zb5 ns k (by (clear hk;omega))];simp[preSum,Yai,hk]
theorem ZbL (hc:X.calm=true):Zcz X (.builtin "sum") (fun xs H Q=>∃ (a:Addr) (ns:List Int),xs=[.ref a]/\SqL X.K H a (ns.map V.int)/\Q (.int ns.sum) H):=by
 intro pins s σ H xs us Q I r h;obtain⟨a,ns,rfl,hq,q⟩:=h;obtain⟨u,rfl,r1⟩:=Zep r;cases r1;obtain⟨its,rv,p,hz⟩:=I.list hq;refine call_sum_walkG (wpAny_pyIter_list p.isList ?_);have hlt:=(let ⟨o,n,e,_⟩:=p;Yap e:a<s.heap.objs.size)
 have hne:a≠s.heap.objs.size:=YaU hlt;have hlen:its.toArray.size=ns.length:=by rw[Yah,<- rv.length,Yaa]
 refine⟨s.heap.objs.size,_,_,_,_,_,fun i=>ns.getD i 0,rfl,Walks.list (A:=X.A.in1) (I.ok.hd hc) _ a hne its.toArray,⟨⟨_,YaB _ rfl,rfl,rfl⟩,?_⟩,?_,?_,?_⟩
 ·obtain⟨o,n,e,c,_,d⟩:=p;exact⟨o,Yae _ e,c,n,d⟩
 ·intro b hb;rcases YaC.mp hb with z | z
  ·rw[z,YbF];exact Ycw _
  ·have z:b=a:=by simpa using z
   rw[z,YbF];exact Yd0 hlt
 ·intro i v e;have hi:i<its.toArray.size:=(Yew.mp e).1
  obtain⟨t,q⟩:=ZcT rv hi;rw[Ycq hi] at e;have e':=YaL e;rw[q] at e';exact⟨t,e'.symm⟩
 ·intro h' tk t' k;refine⟨.int ns.sum,H,I.kept (h':=h') (t':=tk) fun b o e=>k b o ?_ (Yae _ e),⟨t',?_⟩,q⟩
  ·intro hm;have:b=s.heap.objs.size:=by simpa using hm
   rw[this] at e;exact absurd (Yap e) (Ybo _)
  ·rw[hlen,Zb5 ns _ (Yak _),YaN]
end
end L2
namespace L2
open PySem PySem.Spec PyProof.Rows PySem.SeqAt
section
variable {X:Cx}
theorem Ze4 {ns:List Int}:∀ {us:List Value},IntsAre us ns->Vals (ns.map V.int) us:=by
 intro us h
 induction h with
 | nil=>exact .nil
 | cons=>rename_i ih;exact .cons ⟨_,rfl⟩ ih
end
end L2
namespace L2
open PySem PySem.Spec PyProof.Rows PySem.SeqAt
theorem Inv.pairOut {X:Cx}{pins:List (Addr × Obj)}{σ:St}{H:Hp}{s:Shared}{h':Heap}{fp:List Addr}{x y:V}{u v:Value}{tk:Nat} (I:Inv X pins σ H s) (hf:∀ b∈fp,FpOk X pins H b)
  (k:∀ b o,b ∉ fp->s.heap.get? b=some o->h'.get? b=some o) (ht:IsPair h' s.heap.objs.size u v) (hlf:∀ b∈fp,b<s.heap.objs.size) (hth:∀ b∈fp,∃ o,h'.get? b=some o) (rx:RelV x u) (ry:RelV y v) :
  Inv X pins σ (upd H s.heap.objs.size (.tup [x,y])) { s with heap:=h',toks:=tk }:=by
 have fresh:H s.heap.objs.size=none:=I.hok.fresh (Yak _);have nit:∀ b o,H b=some o->b ∉ fp:=fun b o q z=>by rw[(hf b z).1] at q;cases q
 have newOk:ObjOk X.prog X.w (upd H s.heap.objs.size (.tup [x,y])) h' s.heap.objs.size (.tup [x,y]):=by
  refine⟨?_,[u,v],.cons rx (.cons ry .nil),⟨_,ht,rfl,rfl,0,rfl⟩⟩;show 2<=sizeLine
  decide
 refine I.step (g':=s.gens) (d':=s.drawn) (ch:=fp) (fun b hb=>?_) (fun b o _ _ hc q _=>k b o hc q) (fun b o _ _ hc q _=>⟨o.slots,k b o hc q⟩) (fun b o _ q n=>?_) (fun b o hc q=>⟨o,k b o hc q⟩)
  (fun b xs q=>by rw[Zag (Zaf q fresh)];exact q) (fun b o xs q=>by rw[Zag (Zaf q fresh)];exact q) (fun b ps q=>⟨#[],by rw[Zag (Zaf q fresh),q];simp⟩) (fun m hm=>?_) (fun b ob q=>?_) I.bare
 ·obtain⟨f0,f1,f2,f3,f4,f5⟩:=hf b hb;exact⟨f3,f1,f4,f5⟩
 ·rw[Zag (YaU (Yap q))];exact n
 ·obtain⟨o,es,ep,ho,r⟩:=hm;exact⟨o,es,ep,k _ o (fun z=>(hf _ z).2.1 rfl) ho,r⟩
 ·by_cases hb:b=s.heap.objs.size
  ·subst hb;rw[Zab] at q;cases q;exact newOk
  ·rw[Zag hb] at q;refine (I.hok b ob q).stay (fun c v hc r=>k c v ?_ r) (fun c r=>by rw[Zag (Zaf r fresh)];exact r) fun c xs r=>by rw[Zag (Zaf r fresh)];exact r
   rcases hc with z | z
   ·rw[z];exact nit b ob q
   ·exact nit c _ z
theorem Inv.turnedAll {X:Cx}{pins:List (Addr × Obj)}{σ:St}{H:Hp}{s:Shared}{h':Heap}{fp:List Addr}{tk:Nat} (I:Inv X pins σ H s) (hf:∀ b∈fp,FpOk X pins H b) (k:∀ b o,b ∉ fp->s.heap.get? b=some o->h'.get? b=some o) :
  Inv X pins σ H { s with heap:=h',toks:=tk }:=by
 have nit:∀ b o,H b=some o->b ∉ fp:=fun b o q z=>by rw[(hf b z).1] at q;cases q
 refine I.step (g':=s.gens) (d':=s.drawn) (ch:=fp) (fun b hb=>?_) (fun b o _ _ hc q _=>k b o hc q) (fun b o _ _ hc q _=>⟨o.slots,k b o hc q⟩) (fun b o _ q n=>n) (fun b o hc q=>⟨o,k b o hc q⟩) (fun _ _ q=>q) (fun _ _ _ q=>q) (fun b ps q=>⟨#[],by rw[q];simp⟩) (fun m hm=>?_) (fun b ob q=>?_) I.bare
 ·obtain⟨f0,f1,f2,f3,f4,f5⟩:=hf b hb;exact⟨f3,f1,f4,f5⟩
 ·obtain⟨o,es,ep,ho,r⟩:=hm;exact⟨o,es,ep,k _ o (fun z=>(hf _ z).2.1 rfl) ho,r⟩
 ·refine (I.hok b ob q).stay (fun c v hc r=>k c v ?_ r) (fun _ q=>q) fun _ _ q=>q;rcases hc with z | z
  ·rw[z];exact nit b ob q
  ·exact nit c _ z
end L2
namespace L2
open PySem PySem.Spec PyProof.Rows PySem.SeqAt
section
variable {X:Cx}
theorem Zl1:OpR X (binaryOp .Mult) (rI (fun i j=>∃ m n,YaT i<=m/\YaT j<=n/\m+n<=134217728) fun i j=>.int (i*j)) :=
 opI fun _ _ _ _ _ _ _ hc q=>mul_int q (by obtain⟨m,n,h1,h2,h3⟩:=hc;exact IntMulOk.of_le h1 h2 h3)
theorem Zkt:OpR X (binaryOp .FloorDiv) (rI (fun _ j=>0<j/\YaT j<=8000) fun i j=>.int (i / j)):=opI fun i j _ _ _ _ _ hc q=>by
 have h1:(0:Int)<j:=hc.1;have h2:j.natAbs<2 ^ 8000:=intBits_le_iff.mp hc.2;refine floordiv_int (by (clear h2 h1;omega)) (by rw[YeK i (by (clear h2 h1;omega))];exact q) (.inl (PyProof.noPylong_of_log2 ?_));have h3:j.natAbs.log2<8000:=(Nat.log2_lt (by (clear h2 h1;omega))).mpr h2
 (clear h2 h1 hc;omega)
theorem Zir {ns ms:List Int}:(((YaG (min ns.length ms.length)).all fun i=>ns.getD i 0 == ms.getD i 0) && (ns.length == ms.length))=decide (ns=ms):=by
 by_cases h:ns.length=ms.length
 ·rw[<- h,Nat.min_self,Zkb h];simp
 ·rw[decide_eq_false (fun z=>h (by rw[z]))];simp[h]
def rNeT (K:Yac):R2:=fun x y H Q=>∃ (a b:Addr) (ns ms:List Int),x=.ref a/\y=.ref b/\SqT K H a (ns.map V.int)/\SqT K H b (ms.map V.int)/\Q (.bl (!decide (ns=ms))) H
theorem Zm6 (hu:X.A.units<cLine):OpR X (compareOp .NotEq) (rNeT X.K):=by
 intro pins s σ H x y v u Q I rx ry h;obtain⟨a,b,ns,ms,rfl,rfl,ha,hb,q⟩:=h;cases rx;cases ry;obtain⟨its,r1,p1,_⟩:=I.tuple ha;obtain⟨its2,r2,p2,_⟩:=I.tuple hb;have l1:its.toArray.size=ns.length:=by rw[Yah,<- r1.length,Yaa]
 have l2:its2.toArray.size=ms.length:=by rw[Yah,<- r2.length,Yaa]
 refine YeE (e:=fun i=>ns.getD i 0 == ms.getD i 0) (show s.heap.IsTuple a its.toArray from p1) (show s.heap.IsTuple b its2.toArray from p2) hu (fun j h1 h2=>?_) _ _ _ _ ?_
 ·obtain⟨t1,e1⟩:=ZcT r1 h1;obtain⟨t2,e2⟩:=ZcT r2 h2;rw[e1,e2];exact Ye1 _ _ _ _
 ·rw[l1,l2,Zir];exact⟨.bl _,H,I,rfl,q⟩
theorem Zcy (hc:X.calm=true):Zcz X (.builtin "sum") (fun xs H Q=>∃ (a:Addr) (ns:List Int),xs=[.ref a]/\SqT X.K H a (ns.map V.int)/\Q (.int ns.sum) H):=by
 intro pins s σ H xs us Q I r h;obtain⟨a,ns,rfl,hq,q⟩:=h;obtain⟨u,rfl,r1⟩:=Zep r;cases r1;obtain⟨its,rv,p0,hz⟩:=I.tuple hq;have p:s.heap.IsTuple a its.toArray:=p0;refine call_sum_walkG (wpAny_pyIter_tuple p ?_);have hlt:a<s.heap.objs.size:=by obtain⟨o,e,_⟩:=p;exact Yap e
 have hne:a≠s.heap.objs.size:=YaU hlt;have hlen:its.toArray.size=ns.length:=by rw[Yah,<- rv.length,Yaa]
 refine⟨s.heap.objs.size,_,_,_,_,_,fun i=>ns.getD i 0,rfl,Walks.tuple (A:=X.A.in1) (I.ok.hd hc) _ a hne its.toArray,⟨⟨_,YaB _ rfl,rfl,rfl⟩,?_⟩,?_,?_,?_⟩
 ·obtain⟨o,e,c,d⟩:=p;exact⟨o,Yae _ e,c,d⟩
 ·intro b hb;rcases YaC.mp hb with z | z
  ·rw[z,YbF];exact Ycw _
  ·have z:b=a:=by simpa using z
   rw[z,YbF];exact Yd0 hlt
 ·intro i v e;have hi:i<its.toArray.size:=(Yew.mp e).1
  obtain⟨t,q⟩:=ZcT rv hi;rw[Ycq hi] at e;have e':=YaL e;rw[q] at e';exact⟨t,e'.symm⟩
 ·intro h' tk t' k;refine⟨.int ns.sum,H,I.kept (h':=h') (t':=tk) fun b o e=>k b o ?_ (Yae _ e),⟨t',?_⟩,q⟩
  ·intro hm;have:b=s.heap.objs.size:=by simpa using hm
   rw[this] at e;exact absurd (Yap e) (Ybo _)
  ·rw[hlen,Zb5 ns _ (Yak _),YaN]
end
section
variable {prog:Program}{w:World}{A:Around}{E:Value->Shared->Prop}{s:Shared}
end
section
variable {X:Cx}
end
theorem Zcw {K:Yac}{own:List Str}{js:List Nat}{g:TG}{tt:TT}{te:TE}{σ:St}{H1:Hp}{Q:VK}{a:Addr}{xs:List V} (Pv:Addr->Nat->Hp->Prop) (h0:∀ acc,H1 acc=none->Pv acc 0 (upd H1 acc (.lst []))) (hl:∀ acc i H,H1 acc=none->i<=xs.length->Pv acc i H->SqT K H a xs)
  (hs:∀ acc i x H,H1 acc=none->xs[i]?=some x->Pv acc i H->g x (blkσ own js σ) H fun τ H4=>tt τ H4 fun c H5=>
   if c=true then te τ H5 fun y H6=>∃ ys,H6 acc=some (.lst ys)/\ys.length<sizeLine/\(i+1<=xs.length/\Pv acc (i+1) (upd H6 acc (.lst (ys++[y])))) else (i+1<=xs.length/\Pv acc (i+1) H5))
  (hd:∀ acc H,H1 acc=none->Pv acc xs.length H->Q (.ref acc) H):Zby own js g tt te σ (Itt K a) H1 Q:=by
 intro acc hacc;refine⟨fun i H=>i<=xs.length/\Pv acc i H,xs.length,⟨YaY _,h0 acc hacc⟩,?_⟩;rintro i H ⟨hi,p⟩;have q:=hl acc i H hacc hi p;by_cases hlt:i<xs.length
 ·refine .inr ⟨hlt,⟨xs,xs[i],q,by simp[hlt]⟩,fun x H' y=>?_⟩;obtain⟨e,y⟩:=y;subst e;exact hs acc i x _ hacc (y xs q) p
 ·have e:i=xs.length:=by omega
  subst e;exact .inl ⟨⟨xs,q,Yak _⟩,hd acc H hacc p⟩
end L2
namespace Lv
open PySem L2
theorem Zm2 {X:Cx}{x:Str}{T:String}{pos:Pos} (hg:Gl X x) (hm:X.mg x=none) (hv:bootBuiltins x=some (.type T)) (hn:x≠"__name__":=by decide) (hd:(x == ("__debug__":Str))=false:=by decide):PE X (.Name x pos) (tC (.ty T)) :=
 ZlY hg hm hv rfl hn hd
theorem ZcM {X:Cx}{x:Str}{i:Int}{t:Tok}{pos:Pos} (hg:Gl X x) (hm:X.mg x=some (.int i t)) (hd:(x == ("__debug__":Str))=false:=by decide):PE X (.Name x pos) (tC (.int i)) :=
 Ziz hg hm ⟨t,rfl⟩ hd
structure Txt (mg:Str->Option Value):Prop where
 isinstance:mg "isinstance"=none
 int:mg "int"=none
 bool:mg "bool"=none
 list:mg "list"=none
 tuple:mg "tuple"=none
 min:mg "min"=none
 max:mg "max"=none
 len:mg "len"=none
 range:mg "range"=none
 all:mg "all"=none
 sum:mg "sum"=none
 sorted:mg "sorted"=none
 zip:mg "zip"=none
theorem Zc6:bootBuiltins "isinstance"=some (.builtin "isinstance"):=by decide +kernel
theorem Zod:bootBuiltins "int"=some (.type "int"):=by decide +kernel
theorem Zny:bootBuiltins "bool"=some (.type "bool"):=by decide +kernel
theorem Znx:bootBuiltins "list"=some (.type "list"):=by decide +kernel
theorem Zbl:bootBuiltins "tuple"=some (.type "tuple"):=by decide +kernel
theorem Znv:bootBuiltins "min"=some (.builtin "min"):=by decide +kernel
theorem Znw:bootBuiltins "max"=some (.builtin "max"):=by decide +kernel
theorem Ze1:bootBuiltins "sum"=some (.builtin "sum"):=by decide +kernel
theorem ZbY:bootBuiltins "sorted"=some (.builtin "sorted"):=by decide +kernel
theorem Zgd {K:Yac}:Ydv K (.type "int") (.type "int")=some true:=by rfl
theorem Zfq {K:Yac}:Ydv K (.type "int") (.type "bool")=some false:=by with_unfolding_all rfl
structure Cal (P:Program) (w:World) (K:Yac) (mg:Str->Option Value) (base:Heap) (k:Nat) (x:Str) (ps:List Str) (sp:Sp) (f:Addr) (fd:FuncData):Prop where
 ok:FnOk P w K mg base CX0 k f fd ps sp
 mg:mg x=some (.ref f)
 kp:Yaq K (.ref f)=true
 bd:Binds K fd ps []
theorem Zam {X:Cx}{k:Nat}{x:Str}{ps:List Str}{sp:Sp}{f:Addr}{fd:FuncData}{e:Expr}{es:List Expr}{t:TA}{p pos:Pos} (C:Cal X.prog X.w X.K X.mg X.base k x ps sp f fd) (hr:Room k X.A) (hg:Gl X x) (ha:PA X (e::es) t)
  (hdb:(x == ("__debug__":Str))=false:=by decide) (he:starEach (e::es) X.env=(false,eval e X.env)::starEach es X.env:=by rfl) (hpl:(backTo pos (starEach es X.env)).any (·.1)=false:=by rfl) :
  PE X (.Call (.Name x p) (e::es) [] pos) (ZjY sp [] E0 t):=ZiA C.ok hr hg C.mg C.kp C.bd .nil ZiB ha hdb he hpl
theorem Zg5 (K:Yac) {X:Cx} (hK:X.K=K:=by rfl):IxR X (rIxL K):=by subst hK;exact ix_list
theorem ZaJ {xs:List Int}{i:Nat}{x:V} (h:(xs.map V.int)[i]?=some x):∃ p,xs[i]?=some p/\x=.int p:=by
 rw[Yat] at h
 cases e:xs[i]? with
 | none=>rw[e] at h;cases h
 | some p=>rw[e] at h;exact⟨p,rfl,(YaL h).symm⟩
theorem _root_.L2.Same.new {q:Addr}{H:Hp}{o:HO} (h:H q=none):Same H (upd H q o):=fun b u e=>by rw[Zag (Zaf e h)];exact e
theorem _root_.L2.Same.put {q:Addr}{H H':Hp}{o:HO} (s:Same H H') (h:H q=none):Same H (upd H' q o):=fun b u e=>by rw[Zag (Zaf e h)];exact s b u e
theorem _root_.L2.Same.tup {K:Yac}{H H':Hp}{a:Addr}{xs:List V} (e:Same H H') (h:SqT K H a xs):SqT K H' a xs:=by
 rcases h with (h | ⟨o,h⟩) | h
 ·exact .inl (.inl (e _ _ h))
 ·exact .inl (.inr ⟨o,e _ _ h⟩)
 ·exact .inr h
theorem Zg3 {n:Nat}{x:Int} (h0:0<=x) (h1:x<n):ixN n x=some x.toNat:=by
 unfold ixN;rw[if_pos h0,if_pos h1]
theorem ZdK {fs:List Int}{x:Int} (h0:0<=x) (h1:x<fs.length):atI (fs.map V.int) x=some (.int (fs.getD x.toNat 0)):=by
 unfold atI;have hx:x.toNat<fs.length:=by omega
 rw[Yaa,Zg3 h0 h1];show (fs.map V.int)[x.toNat]?=_;rw[Yat,Yad hx,Yai,Yad hx];rfl
theorem Zk6 {c0:Int}{cr:List Int}:atI ((c0::cr).map V.int) 0=some (.int c0):=ZdJ (j:=0) rfl
theorem cut2 {a b R:TS}{D:Ends}{σ:St}{H:Hp} (M:St->Hp->Prop) (h1:∀ R':TS,(∀ σ' H',M σ' H'->R' D σ' H')->tSeq a (tSeq b R') D σ H) (h2:∀ σ' H',M σ' H'->R D σ' H'):tSeq a (tSeq b R) D σ H:=h1 R h2
theorem cut1 {a R:TS}{D:Ends}{σ:St}{H:Hp} (M:St->Hp->Prop) (h1:∀ R':TS,(∀ σ' H',M σ' H'->R' D σ' H')->tSeq a R' D σ H) (h2:∀ σ' H',M σ' H'->R D σ' H'):tSeq a R D σ H:=h1 R h2
def Sm (p:Addr) (H H':Hp):Prop:=∀ b o,H b=some o->b≠p->H' b=some o
theorem Sm.trans {p:Addr}{H H1 H2:Hp} (a:Sm p H H1) (b:Sm p H1 H2):Sm p H H2:=fun c o h n=>b c o (a c o h n) n
theorem Sm.of {p:Addr}{H H':Hp} (h:Same H H'):Sm p H H':=fun b o e _=>h b o e
theorem Sm.new {p q:Addr}{H:Hp}{o:HO} (h:H q=none):Sm p H (upd H q o):=fun b u e _=>by rw[Zag (Zaf e h)];exact e
theorem Sm.put {p:Addr}{H:Hp}{o:HO}:Sm p H (upd H p o):=fun b u e n=>by rw[Zag n];exact e
theorem Sm.free {p q:Addr}{H H':Hp} (s:Sm p H H') (hn:q≠p) (h:H' q=none):H q=none:=by
 cases e:H q with
 | none=>rfl
 | some o=>rw[s q o e hn] at h;cases h
theorem Sm.after {p:Addr}{H H1 H2:Hp} (s:Same H H1) (m:Sm p H1 H2) (h:H p=none):Same H H2:=fun b o e=>m b o (s b o e) (Zaf e h)
def Zes:Sp:=fun vs H Q _=>∃ i,vs=[.int i]/\Q (.bl true) H
theorem ZaX {m:Int} (h0:0<=m) (h1:m<2 ^ 64):YaT m<=8000:=Ybw (intBits_le_64 (by (clear h1;omega)) h1) (by decide)
def ZbF (c:List Int):List Int:=(c.tail.map (c.getD 0 0+·))++[c.getD 0 0]
def Zbz (p:Nat):List Int:=1::Yaj (p - 1) 0
def cnt (p:Nat):Nat->List Int
 | 0=>Zbz p
 | n+1=>ZbF (cnt p n)
theorem ZiU {c:List Int} (h:c≠[]):(ZbF c).length=c.length:=by
 cases c with
 | nil=>exact absurd rfl h
 | cons x r=>simp[ZbF]
theorem ZeY {p:Nat} (hp:1<=p):∀ n,(cnt p n).length=p
 | 0=>by simp[cnt,Zbz];omega
 | n+1=>by
  have:=ZeY hp n;show (ZbF (cnt p n)).length=p;rw[ZiU (by intro z;rw[z] at this;simp at this;omega),this]
def Down (c:List Int):Prop:=c.Pairwise (· ≥ ·)/\∀ x∈c,0<=x
theorem Zjt {c:List Int} (h:Down c):Down (ZbF c):=by
 cases c with
 | nil=>exact⟨by simp[ZbF],by intro x hx;simp[ZbF] at hx;omega⟩
 | cons a r=>
  obtain⟨h1,h2⟩:=h;have h3:=Ya3.mp h1;have h0:0<=a:=h2 a (by simp);refine⟨?_,?_⟩
  ·show ((r.map (a+·))++[a]).Pairwise (· ≥ ·);rw[Ya0];refine⟨?_,by simp,?_⟩
   ·rw[Ybf];exact h3.2.imp fun h=>by (clear h0 h3;omega)
   ·intro x hx y hy;obtain⟨z,hz,rfl⟩:=YaK.mp hx;have:=h2 z (by simp[hz]);have:y=a:=by simpa using hy
    (clear h0 h3;omega)
  ·show ∀ x∈(r.map (a+·))++[a],0<=x;intro x hx;rcases Yam.mp hx with hx | hx
   ·obtain⟨z,hz,rfl⟩:=YaK.mp hx;have:=h2 z (by simp[hz])
    (clear h3;omega)
   ·have:x=a:=by simpa using hx
    (clear h3;omega)
theorem ZbV (p:Nat):∀ n,Down (cnt p n)
 | 0=>by
  refine⟨?_,?_⟩
  ·show (1::Yaj (p - 1) (0:Int)).Pairwise (· ≥ ·);rw[Ya3];refine⟨fun y hy=>?_,?_⟩
   ·have:=(Yc8.mp hy).2
    omega
   ·rw[YeP];exact .inr (Ybd _)
  ·intro x hx;rcases YaC.mp hx with rfl | hx
   ·decide
   ·have:=(Yc8.mp hx).2
    omega
 | n+1=>Zjt (ZbV p n)
def Zcf:Sp:=fun vs H Q _=>∃ i,vs=[.int i]/\2<=i/\i<=7/\Q .non H
def Zey:Sp:=fun vs H Q _=>∃ p:Nat,vs=[.int p]/\2<=p/\p<=7/\∀ l H',H l=none->H' l=some (.tup ((Zbz p).map V.int))->Same H H'->Q (.ref l) H'
def Zic (K:Yac):Sp:=fun vs H Q _=>∃ (a:Addr) (c:List Int),vs=[.ref a]/\SqT K H a (c.map V.int)/\2<=c.length/\c.length<=7/\∀ l H',H l=none->H' l=some (.tup ((ZbF c).map V.int))->Same H H'->Q (.ref l) H'
def Zch:Sp:=fun vs H Q _=>∃ p n:Nat,vs=[.int p,.int n]/\2<=p/\p<=7/\n<=300/\∀ l H',H l=none->H' l=some (.tup ((cnt p n).map V.int))->Same H H'->Q (.ref l) H'
def ZfT:Sp:=fun vs H Q _=>∃ p n:Nat,vs=[.int p,.int n]/\2<=p/\p<=7/\n<=300/\∀ H',Same H H'->Q (.int (cnt p n).sum) H'
def Zj1 (K:Yac):Sp:=fun vs H Q _=>∃ (a:Addr) (ns:List Int),vs=[.ref a]/\SqL K H a (ns.map V.int)/\ns.length<=63/\∀ H',Q (.bl true) H'
end Lv
namespace Lv
open PySem L2
def hd (p n:Nat):Int:=(cnt p n).getD 0 0
def tot (p n:Nat):Int:=(cnt p n).sum
theorem ZeZ {p:Nat} (hp:2<=p) (n:Nat):∃ a b r,cnt p n=a::b::r/\r.length=p - 2:=by
 have h:=ZeY (p:=p) (by omega) n
 match hc:cnt p n with
 | []=>rw[hc] at h;simp at h;omega
 | [x]=>rw[hc] at h;simp at h;omega
 | a::b::r=>rw[hc] at h;exact⟨a,b,r,rfl,by simp at h;(clear hp;omega)⟩
theorem Zfu {p:Nat} (hp:2<=p):∀ n,1<=hd p n
 | 0=>by simp[hd,cnt,Zbz]
 | n+1=>by
  obtain⟨a,b,r,e,_⟩:=ZeZ hp n;have ih:=Zfu hp n;have nn:=(ZbV p n).2 b (by rw[e];simp);unfold hd at ih ⊢;show 1<=(ZbF (cnt p n)).getD 0 0;rw[e] at ih ⊢;simp[ZbF] at ih ⊢
  (clear hp;omega)
theorem Zh9 (c:Int):∀ r:List Int,(r.map (c+·)).sum=r.length*c+r.sum
 | []=>by simp
 | x::r=>by
  rw[YaM,Yas,Zh9 c r,Yas,Yaz,Yej,YbC];omega
theorem ZjZ (a:Int) (r:List Int):(ZbF (a::r)).sum=(a::r).sum+r.length*a:=by
 show ((r.map (a+·))++[a]).sum=_;rw[Ybu,Zh9,Yas,Yas,Yd1];omega
theorem Zeq {p:Nat} (hp:2<=p) (n:Nat):tot p (n+1)=tot p n+(p - 1:Nat)*hd p n:=by
 obtain⟨a,b,r,e,hr⟩:=ZeZ hp n;unfold tot hd;show (ZbF (cnt p n)).sum=_;rw[e,ZjZ];have:(b::r).length=p - 1:=by simp;omega
 rw[this];rfl
theorem Zh4 {p:Nat} (hp:2<=p) (n:Nat):tot p n+1<=tot p (n+1):=by
 rw[Zeq hp];have h1:=Zfu hp n;have h2:((1:Nat):Int)*1<=((p - 1:Nat):Int)*hd p n:=Int.mul_le_mul (by (clear h1;omega)) h1 (by decide) (by (clear h1 hp;omega))
 (clear h1 hp;omega)
theorem Zda {p:Nat} (hp:2<=p) {m n:Nat} (h:m<=n):tot p m<=tot p n:=by
  induction n with
  | zero => have : m = 0 := by (clear hp; omega)
            subst this;exact Ybd _
  | succ n ih=>
    by_cases e:m=n+1
    · subst e;exact Ybd _
    · have:=ih (by (clear ih hp;omega));have:=Zh4 hp n
      (clear e h ih hp;omega)
theorem ZmR {c:List Int} (h:∀ x∈c,0<=x):c.getD 0 0<=c.sum:=by
 cases c with
 | nil=>simp
 | cons a r=>
  have:∀ l:List Int,(∀ x∈l,0<=x)->0<=l.sum:=by
   intro l
   induction l with
   | nil=>intro _;simp
   | cons x y ih=>
    intro h;rw[Yas];have:=h x (by simp);have:=ih fun z hz=>h z (by simp[hz])
    (clear ih;omega)
  have:=this r fun x hx=>h x (by simp[hx]);rw[Yas];simp;omega
end Lv
namespace L2
open PySem PySem.Spec PyProof.Rows PySem.SeqAt
def HIt (b:Bool) (h:Heap) (it l:Addr) (i:Nat):Prop:=match b with | true=>h.IsListIter it l i | false=>h.IsTupleIter it l i
def HSq (b:Bool) (h:Heap) (l:Addr) (xs:Array Value):Prop:=match b with | true=>h.IsList l xs | false=>h.IsTuple l xs
theorem HIt.at {b:Bool}{h h':Heap}{it l:Addr}{i:Nat} (x:HIt b h it l i) (e:∀ o,h.get? it=some o->h'.get? it=some o):HIt b h' it l i:=by
 cases b
 ·exact Heap.IsTupleIter.at x e
 ·exact Heap.IsListIter.at x e
theorem HIt.ext {b:Bool}{h h':Heap}{it l c:Addr}{i:Nat} (x:HIt b h it l i) (hs:YdG c h h') (n:it≠c):HIt b h' it l i:=x.at fun o e=>hs _ _ n e
theorem HIt.obj {b:Bool}{h:Heap}{it l:Addr}{i:Nat} (x:HIt b h it l i):∃ o,h.get? it=some o/\∀ v:Option Value,o.data≠.cell v:=by
 cases b
 ·obtain⟨o,e,_,d⟩:=x;exact⟨o,e,fun v q=>by rw[d] at q;cases q⟩
 ·obtain⟨o,e,_,d⟩:=x;exact⟨o,e,fun v q=>by rw[d] at q;cases q⟩
theorem HSq.ext {b:Bool}{h h':Heap}{l c:Addr}{xs:Array Value} (x:HSq b h l xs) (hs:YdG c h h') (n:l≠c):HSq b h' l xs:=by
 cases b
 ·exact Heap.IsTuple.extBut x hs n
 ·exact Heap.IsList.extBut x hs n
section
variable {prog:Program}{w:World}{A:Around}{E:Value->Shared->Prop}{s:Shared}
theorem Zmh {b:Bool}{it l:Addr}{i:Nat}{items:Array Value}{x:Value}{Q:Value->Shared->Prop} (hit:HIt b s.heap it l i) (hl:HSq b s.heap l items) (hx:items[i]?=some x) (hQ:∀ h',HIt b h' it l (i+1)->YdB it s.heap h'->Q x { s with heap:=h' }) :
  wpAny (model prog w) A (Ya7 (.ref it)) Q E s:=by
 cases b
 ·exact Zed hit hl hx hQ
 ·exact wpAny_nextOf_list_item hit hl hx hQ
theorem Zfo {b:Bool}{it l:Addr}{i:Nat}{items:Array Value}{Q:Value->Shared->Prop} (hh:A.handled=none) (hit:HIt b s.heap it l i) (hl:HSq b s.heap l items) (hx:items[i]?=none)
  (hE:∀ h' e,YdG it s.heap h'->(∃ o,h'.get? e=some o/\o.cls=.type "StopIteration")->E (.ref e) { s with heap:=h' }):wpAny (model prog w) A (Ya7 (.ref it)) Q E s:=by
 cases b
 ·exact Zbk hh hit hl hx hE
 ·exact wpAny_nextOf_list_end hh hit hl hx hE
theorem ZhT {b1 b2:Bool}{z TI TO i1 i2 l1 l2:Addr}{k1 k2:Nat}{xs ys:Array Value}{x y a b:Value}{Q:Value->Shared->Prop} (D:ZipApart z TI TO i1 i2 l1 l2) (hz:IsZip s.heap z TI TO .none) (hTI:IsPair s.heap TI (.ref i1) (.ref i2)) (hTO:IsPair s.heap TO a b)
  (h1:HIt b1 s.heap i1 l1 k1) (h2:HIt b2 s.heap i2 l2 k2) (hl1:HSq b1 s.heap l1 xs) (hl2:HSq b2 s.heap l2 ys) (hx:xs[k1]?=some x) (hy:ys[k2]?=some y)
  (hQ:∀ h',IsZip h' z TI TO (rawInt s.heap.objs.size)->IsPair h' TO x y->HIt b1 h' i1 l1 (k1+1)->HIt b2 h' i2 l2 (k2+1)->IsPair h' s.heap.objs.size x y->h'.objs.size=s.heap.objs.size+1 ->
   (∀ c o,c≠z->c≠TO->c≠i1->c≠i2->s.heap.get? c=some o->h'.get? c=some o)->Q (.ref s.heap.objs.size) { s with heap:=h' }) :
  wpAny (model prog w) A (Builtin.«zip.__next__» ⟨[.ref z],[]⟩) (fun fin s'=>∃ v,fin=.done (.ret v)/\Q v s') E s:=by
 refine wpAny_bind (m:=field (.ref z) 2) (wpAny_field hz rfl (x:=.bool false) rfl ?_);refine wpAny_bind (m:=field (.ref z) 3) (wpAny_field hz rfl (x:=.ref TI) rfl (wpAny_bind (wpAny_seqItems hTI rfl ?_)));refine wpAny_bind (m:=YbO (.ref z)) ?_;unfold YbO;refine wpAny_bind (wpAny_field hz rfl (x:=.none) rfl (wpAny_pure ?_));simp only[if_true];refine wpAny_bind (wpAny_rule (wpAny_bind (wpAny_field hz rfl (x:=.ref TO) rfl ?_)));refine wpAny_bind (wpAny_setField_rec hz (by simp) fun h₁ hz₁ hs₁=>?_)
 replace hz₁:IsZip h₁ z TI TO .ellipsis:=hz₁
 refine wpAny_bind ?_;simp only[Yd4,List.zipIdx_nil,Yeo,List.forIn_nil];refine wpAny_bind (wpAny_bind (wpAny_onRaise (wpAny_bind (m:=Ya7 (.ref i1)) ?_)));refine Zmh (h1.ext hs₁.extBut D.i1z) (hl1.ext hs₁.extBut D.l1z) hx fun h₂ h1₂ hs₂=>wpAny_pure ?_;have t2:IsPair h₂ TO a b:=hs₂.extBut _ _ D.TOi1 (hs₁.extBut _ _ D.TOz hTO);refine wpAny_bind (wpAny_seqItems t2 rfl (wpAny_bind (wpAny_updateSeq_pair t2 fun h₃ hTO₃ hs₃=>?_)))
 replace hTO₃:IsPair h₃ TO x b:=hTO₃
 refine wpAny_bind (wpAny_letGo (wpAny_pure (wpAny_bind (wpAny_bind (wpAny_onRaise (wpAny_bind (m:=Ya7 (.ref i2)) ?_))))));refine Zmh (((h2.ext hs₁.extBut D.i2z).ext hs₂.extBut D.i12.symm).ext hs₃.extBut D.TOi2.symm) (((hl2.ext hs₁.extBut D.l2z).ext hs₂.extBut D.l2i1).ext hs₃.extBut D.l2TO) hy fun h₄ h2₄ hs₄=>wpAny_pure ?_;have t4:IsPair h₄ TO x b:=hs₄.extBut _ _ D.TOi2 hTO₃;refine wpAny_bind (wpAny_seqItems t4 rfl (wpAny_bind (wpAny_updateSeq_pair t4 fun h₅ hTO₅ hs₅=>?_)))
 replace hTO₅:IsPair h₅ TO x y:=hTO₅
 refine wpAny_bind (wpAny_letGo (wpAny_pure (wpAny_pure (wpAny_bind (wpAny_seqItems hTO₅ rfl (wpAny_bind (wpAny_newTuple ?_)))))));have hsz:h₅.objs.size=s.heap.objs.size:=by rw[hs₅.1,hs₄.1,hs₃.1,hs₂.1,hs₁.1]
 have hz₅:IsZip h₅ z TI TO .ellipsis:=hs₅.extBut _ _ D.TOz.symm (hs₄.extBut _ _ D.i2z.symm (hs₃.extBut _ _ D.TOz.symm (hs₂.extBut _ _ D.i1z.symm hz₁)));have k5:∀ c o,c≠z->c≠TO->c≠i1->c≠i2->s.heap.get? c=some o->h₅.get? c=some o:=fun c o c1 c2 c3 c4 e=>hs₅.extBut _ _ c2 (hs₄.extBut _ _ c4 (hs₃.extBut _ _ c2 (hs₂.extBut _ _ c3 (hs₁.extBut _ _ c1 e))));have j1:HIt b1 h₅ i1 l1 (k1+1):=((h1₂.ext hs₃.extBut D.TOi1.symm).ext hs₄.extBut D.i12).ext hs₅.extBut D.TOi1.symm;have j2:HIt b2 h₅ i2 l2 (k2+1):=h2₄.ext hs₅.extBut D.TOi2.symm;have zlt:z<h₅.objs.size:=Yap hz₅;refine wpAny_bind (m:=Yc6 (.ref z) (.ref h₅.objs.size)) ?_;unfold Yc6;have hz₆:IsZip (h₅.push { cls:=.type "tuple",data:=.seq #[x,y] }) z TI TO .ellipsis:=Yae _ hz₅;refine wpAny_bind (wpAny_setField_rec hz₆ (by simp) fun h₇ hz₇ hs₇=>?_)
 replace hz₇:IsZip h₇ z TI TO (rawInt h₅.objs.size):=hz₇
 refine wpAny_setField_rec hz₇ (by simp) fun h₈ hz₈ hs₈=>?_
 replace hz₈:IsZip h₈ z TI TO (rawInt h₅.objs.size):=hz₈
 have up:∀ c o,c≠z->h₅.get? c=some o->h₈.get? c=some o:=fun c o c1 e=>hs₈.extBut _ _ c1 (hs₇.extBut _ _ c1 (Yae _ e));have t8:IsPair h₈ h₅.objs.size x y:=hs₈.extBut _ _ (Yb4 zlt) (hs₇.extBut _ _ (Yb4 zlt) (YaB _ rfl));have z8:h₈.objs.size=h₅.objs.size+1:=by rw[hs₈.1,hs₇.1,YbF]
 rw[hsz] at hz₈ t8 z8;refine wpAny_pure ⟨_,rfl,?_⟩;show Q (.ref h₅.objs.size) _;rw[hsz];exact hQ h₈ hz₈ (up _ _ D.TOz hTO₅) (j1.at fun o e=>up _ o D.i1z e) (j2.at fun o e=>up _ o D.i2z e) t8 z8 fun c o c1 c2 c3 c4 e=>up c o c1 (k5 c o c1 c2 c3 c4 e)
theorem ZjQ {b1 b2:Bool}{z TI TO i1 i2 l1 l2:Addr}{k1 k2:Nat}{xs ys:Array Value}{a b:Value}{Q:Fin->Shared->Prop} (hh:A.handled=none) (D:ZipApart z TI TO i1 i2 l1 l2) (hz:IsZip s.heap z TI TO .none) (hTI:IsPair s.heap TI (.ref i1) (.ref i2)) (hTO:IsPair s.heap TO a b)
  (h1:HIt b1 s.heap i1 l1 k1) (h2:HIt b2 s.heap i2 l2 k2) (hl1:HSq b1 s.heap l1 xs) (hl2:HSq b2 s.heap l2 ys) (hend:xs[k1]?=none∨ys[k2]?=none)
  (hE:∀ h' e,(∀ c o,c≠z->c≠TO->c≠i1->c≠i2->s.heap.get? c=some o->h'.get? c=some o)->(∃ o,h'.get? e=some o/\o.cls=.type "StopIteration")->E (.ref e) { s with heap:=h' }):wpAny (model prog w) A (Builtin.«zip.__next__» ⟨[.ref z],[]⟩) Q E s:=by
 refine wpAny_bind (m:=field (.ref z) 2) (wpAny_field hz rfl (x:=.bool false) rfl ?_);refine wpAny_bind (m:=field (.ref z) 3) (wpAny_field hz rfl (x:=.ref TI) rfl (wpAny_bind (wpAny_seqItems hTI rfl ?_)));refine wpAny_bind (m:=YbO (.ref z)) ?_;unfold YbO;refine wpAny_bind (wpAny_field hz rfl (x:=.none) rfl (wpAny_pure ?_));simp only[if_true];refine wpAny_bind (wpAny_rule (wpAny_bind (wpAny_field hz rfl (x:=.ref TO) rfl ?_)));refine wpAny_bind (wpAny_setField_rec hz (by simp) fun h₁ hz₁ hs₁=>?_)
 replace hz₁:IsZip h₁ z TI TO .ellipsis:=hz₁
 refine wpAny_bind ?_;simp only[Yd4,List.zipIdx_nil,Yeo,List.forIn_nil];refine wpAny_bind (wpAny_bind (wpAny_onRaise (wpAny_bind (m:=Ya7 (.ref i1)) ?_)))
 cases hx:xs[k1]? with
 | none=>
  refine Zfo hh (h1.ext hs₁.extBut D.i1z) (hl1.ext hs₁.extBut D.l1z) hx fun h₂ e hs₂ ⟨oe,hoe,hce⟩=>?_;have hz₂:IsZip h₂ z TI TO .ellipsis:=hs₂ _ _ D.i1z.symm hz₁;have ez:e≠z:=fun x=>by subst x;rw[hz₂] at hoe;cases hoe;simp at hce
  exact wpAny_setField_rec hz₂ (by simp) fun h₃ _ hs₃=>hE h₃ e (fun c o c1 _ c3 _ x=>hs₃.extBut _ _ c1 (hs₂ _ _ c3 (hs₁.extBut _ _ c1 x))) ⟨oe,hs₃.extBut _ _ ez hoe,hce⟩
 | some x=>
  have hy:ys[k2]?=none:=hend.resolve_left (by rw[hx];simp);refine Zmh (h1.ext hs₁.extBut D.i1z) (hl1.ext hs₁.extBut D.l1z) hx fun h₂ h1₂ hs₂=>wpAny_pure ?_;have t2:IsPair h₂ TO a b:=hs₂.extBut _ _ D.TOi1 (hs₁.extBut _ _ D.TOz hTO);refine wpAny_bind (wpAny_seqItems t2 rfl (wpAny_bind (wpAny_updateSeq_pair t2 fun h₃ hTO₃ hs₃=>?_)));refine wpAny_bind (wpAny_letGo (wpAny_pure (wpAny_bind (wpAny_bind (wpAny_onRaise (wpAny_bind (m:=Ya7 (.ref i2)) ?_))))));refine Zfo hh (((h2.ext hs₁.extBut D.i2z).ext hs₂.extBut D.i12.symm).ext hs₃.extBut D.TOi2.symm) (((hl2.ext hs₁.extBut D.l2z).ext hs₂.extBut D.l2i1).ext hs₃.extBut D.l2TO) hy fun h₄ e hs₄ ⟨oe,hoe,hce⟩=>?_;have hz₄:IsZip h₄ z TI TO .ellipsis:=hs₄ _ _ D.i2z.symm (hs₃.extBut _ _ D.TOz.symm (hs₂.extBut _ _ D.i1z.symm hz₁));have ez:e≠z:=fun x=>by subst x;rw[hz₄] at hoe;cases hoe;simp at hce
  exact wpAny_setField_rec hz₄ (by simp) fun h₅ _ hs₅=>hE h₅ e (fun c o c1 c2 c3 c4 x=>hs₅.extBut _ _ c1 (hs₄ _ _ c4 (hs₃.extBut _ _ c2 (hs₂.extBut _ _ c3 (hs₁.extBut _ _ c1 x))))) ⟨oe,hs₅.extBut _ _ ez hoe,hce⟩
theorem Zfi {b1 b2:Bool}{z TI TO i1 i2 l1 l2:Addr}{k1 k2:Nat}{xs ys:Array Value}{x y a b:Value}{Q:Option Value->Shared->Prop} (D:ZipApart z TI TO i1 i2 l1 l2) (hz:IsZip s.heap z TI TO .none) (hTI:IsPair s.heap TI (.ref i1) (.ref i2)) (hTO:IsPair s.heap TO a b)
  (h1:HIt b1 s.heap i1 l1 k1) (h2:HIt b2 s.heap i2 l2 k2) (hl1:HSq b1 s.heap l1 xs) (hl2:HSq b2 s.heap l2 ys) (hx:xs[k1]?=some x) (hy:ys[k2]?=some y)
  (hQ:∀ h',IsZip h' z TI TO (rawInt s.heap.objs.size)->IsPair h' TO x y->HIt b1 h' i1 l1 (k1+1)->HIt b2 h' i2 l2 (k2+1)->IsPair h' s.heap.objs.size x y->h'.objs.size=s.heap.objs.size+1 ->
   (∀ c o,c≠z->c≠TO->c≠i1->c≠i2->s.heap.get? c=some o->h'.get? c=some o)->Q (some (.ref s.heap.objs.size)) { s with heap:=h' }):wpAny (model prog w) A (pyNext (.ref z)) Q E s:=by
 have hT:s.TypeIs (.ref z) "zip":=⟨_,hz,rfl⟩
 unfold pyNext;exact wpAny_bind (wpAny_attempt (wpAny_callSpecial?_slot (name:=Ydb "__next__") hT F.slot_zip_next (wpAny_call_entry F.slot_zip_next hT F.entry_zip_next (ZhT D hz hTI hTO h1 h2 hl1 hl2 hx hy fun h' a1 a2 a3 a4 a5 a6 a7=>wpAny_pure (hQ h' a1 a2 a3 a4 a5 a6 a7)) (F.args_zip_next_1 _))))
theorem Zf4 {b1 b2:Bool}{z TI TO i1 i2 l1 l2:Addr}{k1 k2:Nat}{xs ys:Array Value}{a b:Value}{Q:Option Value->Shared->Prop} (hh:A.handled=none) (D:ZipApart z TI TO i1 i2 l1 l2) (hz:IsZip s.heap z TI TO .none) (hTI:IsPair s.heap TI (.ref i1) (.ref i2)) (hTO:IsPair s.heap TO a b)
  (h1:HIt b1 s.heap i1 l1 k1) (h2:HIt b2 s.heap i2 l2 k2) (hl1:HSq b1 s.heap l1 xs) (hl2:HSq b2 s.heap l2 ys) (hend:xs[k1]?=none∨ys[k2]?=none)
  (hQ:∀ h',(∀ c o,c≠z->c≠TO->c≠i1->c≠i2->s.heap.get? c=some o->h'.get? c=some o)->Q none { s with heap:=h' }):wpAny (model prog w) A (pyNext (.ref z)) Q E s:=by
 have hT:s.TypeIs (.ref z) "zip":=⟨_,hz,rfl⟩
 unfold pyNext;refine wpAny_bind (wpAny_attempt (wpAny_callSpecial?_slot (name:=Ydb "__next__") hT F.slot_zip_next (wpAny_call_entry F.slot_zip_next hT F.entry_zip_next (ZjQ hh D hz hTI hTO h1 h2 hl1 hl2 hend fun h' e hk ⟨o,ho,hc⟩=>?_) (F.args_zip_next_1 _))));exact wpAny_bind (wpAny_isInstance (T:="StopIteration") (b:=true) ⟨o,ho,hc⟩ isSubtype_stop (wpAny_pure (hQ _ hk)))
def Zmo (b:Bool):String:=match b with | true=>"list_iterator" | false=>"tuple_iterator"
def zB1 (b1:Bool) (h:Heap) (l1:Addr):Heap:=h.push { cls:=.type (Zmo b1),data:=.fields #[.ref l1,.int 0 0] }
def zB2 (b1 b2:Bool) (h:Heap) (l1 l2:Addr):Heap:=(zB1 b1 h l1).push { cls:=.type (Zmo b2),data:=.fields #[.ref l2,.int 0 0] }
def zB3 (b1 b2:Bool) (h:Heap) (l1 l2:Addr):Heap:=(zB2 b1 b2 h l1 l2).push { cls:=.type "tuple",data:=.seq #[.ref h.objs.size,.ref (zB1 b1 h l1).objs.size] }
def zB4 (b1 b2:Bool) (h:Heap) (l1 l2:Addr):Heap:=(zB3 b1 b2 h l1 l2).push { cls:=.type "tuple",data:=.seq #[.none,.none] }
def zB5 (b1 b2:Bool) (h:Heap) (l1 l2:Addr):Heap:=(zB4 b1 b2 h l1 l2).push { cls:=.type "zip",data:=.fields #[.none,.bool false,.bool false,.ref (zB2 b1 b2 h l1 l2).objs.size,.ref (zB3 b1 b2 h l1 l2).objs.size] }
theorem ZjP (b1 b2:Bool) (l1 l2:Addr) (xs ys:Array Value) :
  Meets (Builtin.«zip.__new__» ⟨[.type "zip",.ref l1,.ref l2],[]⟩) (fun _ R s=>HSq b1 s.heap l1 xs/\HSq b2 s.heap l2 ys/\R (.ok (.ret (.ref (zB4 b1 b2 s.heap l1 l2).objs.size))) { s with heap:=zB5 b1 b2 s.heap l1 l2 }) :=
 .of_wp fun prog w A R s h=>by
  obtain⟨hp,g,d,tk,os⟩:=s;obtain⟨hl1,hl2,h⟩:=h;have hsub:=sub_zip;cases b1 <;> cases b2
  ·have p1:YdC (Ycr ⟨hp,g,d,tk,os⟩) l1 xs:=hl1;have p2:YdC (Ycr ⟨hp.push { cls:=.type "tuple_iterator",data:=.fields #[.ref l1,.int 0 0] },g,d,tk,os⟩) l2 ys:=YeL hl2 _
   wp_walk using wpAny_pyIter_tuple p1,wpAny_pyIter_tuple p2
   exact⟨_,rfl,h⟩
  ·have p1:YdC (Ycr ⟨hp,g,d,tk,os⟩) l1 xs:=hl1;have p2:Yeq (Ycr ⟨hp.push { cls:=.type "tuple_iterator",data:=.fields #[.ref l1,.int 0 0] },g,d,tk,os⟩) l2 ys:=YeR hl2 _
   wp_walk using wpAny_pyIter_tuple p1,wpAny_pyIter_list p2
   exact⟨_,rfl,h⟩
  ·have p1:Yeq (Ycr ⟨hp,g,d,tk,os⟩) l1 xs:=hl1;have p2:YdC (Ycr ⟨hp.push { cls:=.type "list_iterator",data:=.fields #[.ref l1,.int 0 0] },g,d,tk,os⟩) l2 ys:=YeL hl2 _
   wp_walk using wpAny_pyIter_list p1,wpAny_pyIter_tuple p2
   exact⟨_,rfl,h⟩
  ·have p1:Yeq (Ycr ⟨hp,g,d,tk,os⟩) l1 xs:=hl1;have p2:Yeq (Ycr ⟨hp.push { cls:=.type "list_iterator",data:=.fields #[.ref l1,.int 0 0] },g,d,tk,os⟩) l2 ys:=YeR hl2 _
   wp_walk using wpAny_pyIter_list p1,wpAny_pyIter_list p2
   exact⟨_,rfl,h⟩
theorem HIt.made {b:Bool}{h:Heap}{it l:Addr} (e:h.get? it=some { cls:=.type (Zmo b),data:=.fields #[.ref l,.int 0 0] }):HIt b h it l 0:=by
 cases b
 ·exact⟨_,e,rfl,rfl⟩
 ·exact⟨_,e,rfl,rfl⟩
theorem ZjE {b1 b2:Bool}{l1 l2:Addr}{xs ys:Array Value}{Q:Value->Shared->Prop} (hl1:HSq b1 s.heap l1 xs) (hl2:HSq b2 s.heap l2 ys)
  (h:∀ h',IsZip h' (s.heap.objs.size+4) (s.heap.objs.size+2) (s.heap.objs.size+3) .none->IsPair h' (s.heap.objs.size+2) (.ref s.heap.objs.size) (.ref (s.heap.objs.size+1))->IsPair h' (s.heap.objs.size+3) .none .none ->
   HIt b1 h' s.heap.objs.size l1 0->HIt b2 h' (s.heap.objs.size+1) l2 0->(∀ c o,s.heap.get? c=some o->h'.get? c=some o)->Q (.ref (s.heap.objs.size+4)) { s with heap:=h' }):wpAny (model prog w) A (call (.type "zip") [.ref l1,.ref l2]) Q E s:=by
 refine callType_new F.called_zip (by decide) (F.typeCall_zip_2 _ _) (F.newCall_zip_2 _ _) (fun obj=>F.args_object_init_3 obj _ _) F.entry_zip_new (ZjP b1 b2 l1 l2 xs ys) ⟨hl1,hl2,?_⟩;have z1:(zB1 b1 s.heap l1).objs.size=s.heap.objs.size+1:=YbF ..;have z2:(zB2 b1 b2 s.heap l1 l2).objs.size=s.heap.objs.size+2:=by unfold zB2;rw[YbF,z1]
 have z3:(zB3 b1 b2 s.heap l1 l2).objs.size=s.heap.objs.size+3:=by unfold zB3;rw[YbF,z2]
 have z4:(zB4 b1 b2 s.heap l1 l2).objs.size=s.heap.objs.size+4:=by unfold zB4;rw[YbF,z3]
 have g5:(zB5 b1 b2 s.heap l1 l2).get? (zB4 b1 b2 s.heap l1 l2).objs.size=some _:=YaB _ rfl;have g4:(zB5 b1 b2 s.heap l1 l2).get? (zB3 b1 b2 s.heap l1 l2).objs.size=some _:=Yae _ (YaB _ rfl);have g3:(zB5 b1 b2 s.heap l1 l2).get? (zB2 b1 b2 s.heap l1 l2).objs.size=some _:=Yae _ (Yae _ (YaB _ rfl));have g2:(zB5 b1 b2 s.heap l1 l2).get? (zB1 b1 s.heap l1).objs.size=some _:=Yae _ (Yae _ (Yae _ (YaB _ rfl)));have g1:(zB5 b1 b2 s.heap l1 l2).get? s.heap.objs.size=some _:=Yae _ (Yae _ (Yae _ (Yae _ (YaB _ rfl))));show _/\_;rw[z2,z3,z4] at g5;rw[z1,z2] at g3;rw[z3] at g4;rw[z1] at g2;rw[z4];exact⟨⟨_,g5,rfl⟩,h _ g5 g3 g4 (HIt.made g1) (HIt.made g2) fun c o x=>Yae _ (Yae _ (Yae _ (Yae _ (Yae _ x))))⟩
end
theorem SqB.heap {X:Cx}{b:Bool}{pins:List (Addr × Obj)}{σ:St}{H:Hp}{s:Shared}{a:Addr}{xs:List V} (I:Inv X pins σ H s) (h:SqB b X.K H a xs):∃ its:List Value,Vals xs its/\HSq b s.heap a its.toArray:=by
 cases b
 ·obtain⟨its,r,p,_⟩:=I.tuple h;exact⟨its,r,p⟩
 ·obtain⟨its,r,p,_⟩:=I.list h;exact⟨its,r,p.isList⟩
theorem HSq.lt {b:Bool}{h:Heap}{l:Addr}{xs:Array Value} (x:HSq b h l xs):l<h.objs.size:=by
 cases b
 ·obtain⟨o,e,_⟩:=x;exact Yap e
 ·obtain⟨o,e,_⟩:=x;exact Yap e
theorem SqB.inj {X:Cx}{b:Bool}{pins:List (Addr × Obj)}{σ:St}{H:Hp}{s:Shared}{a:Addr}{xs ys:List V} (I:Inv X pins σ H s) (h:SqB b X.K H a xs) (g:SqB b X.K H a ys):xs=ys:=by
 cases b
 ·exact I.tuple_inj h g
 ·exact I.list_inj h g
def ItzB (b1 b2:Bool) (K:Yac) (a b:Addr):It :=
  ⟨fun i H=>∃ xs ys x y,SqB b1 K H a xs/\SqB b2 K H b ys/\xs[i]?=some x/\ys[i]?=some y,
   fun i H z H'=>∃ p x y,H p=none/\z=.ref p/\H'=upd H p (.tup [x,y])/\(∀ xs,SqB b1 K H a xs->xs[i]?=some x)/\∀ ys,SqB b2 K H b ys->ys[i]?=some y,
   fun i H=>∃ xs ys,SqB b1 K H a xs/\SqB b2 K H b ys/\(xs.length<=i∨ys.length<=i)⟩
end L2
namespace L2
open PySem PySem.Spec PyProof.Rows PySem.SeqAt
def Zk7 (b1 b2:Bool) (z TI TO i1 i2 l1 l2:Addr) (i:Nat) (h:Heap):Prop:=IsZip h z TI TO .none/\IsPair h TI (.ref i1) (.ref i2)/\(∃ a b,IsPair h TO a b)/\HIt b1 h i1 l1 i/\HIt b2 h i2 l2 i
theorem ZhW {P:Program}{w:World}{K:Yac}{es:List Expr}{x1}{pos:Pos}{b1 b2:Bool}{z TI TO i1 i2 l1 l2:Addr} (D:ZipApart z TI TO i1 i2 l1 l2):Turn P w K (.Tuple es x1 pos) (ItzB b1 b2 K l1 l2) [z,TI,TO,i1,i2] z (Zk7 b1 b2 z TI TO i1 i2 l1 l2) where
 mem:=by simp
 obj:=fun i h st b hb=>by
  obtain⟨h1,h2,⟨a,c,h3⟩,h4,h5⟩:=st;simp only[YaC,Yct,or_false] at hb;rcases hb with rfl | rfl | rfl | rfl | rfl
  ·exact⟨_,h1,fun v q=>nomatch q⟩
  ·exact⟨_,h2,fun v q=>nomatch q⟩
  ·exact⟨_,h3,fun v q=>nomatch q⟩
  ·exact h4.obj
  ·exact h5.obj
 keep:=fun i h h' st k=>by
  obtain⟨h1,h2,⟨a,c,h3⟩,h4,h5⟩:=st;exact⟨k z (by simp) _ h1,k TI (by simp) _ h2,⟨a,c,k TO (by simp) _ h3⟩,h4.at fun o q=>k i1 (by simp) o q,h5.at fun o q=>k i2 (by simp) o q⟩
 item:=by
  intro X hP hw hK hc i pins s σ H E I hf st hg;subst hP hw hK;obtain⟨xs,ys,x,y,hq1,hq2,hx,hy⟩:=hg;obtain⟨its,rv,p⟩:=hq1.heap I;obtain⟨its2,rv2,p2⟩:=hq2.heap I;obtain⟨u,hu,ru⟩:=rv.get hx;obtain⟨u2,hu2,ru2⟩:=rv2.get hy;obtain⟨s1,s2,⟨a,c,s3⟩,s4,s5⟩:=id st;refine Zfi D s1 s2 s3 s4 s5 p p2 (x:=u) (y:=u2) (by simpa using hu) (by simpa using hu2) fun h' g1 g2 g3 g4 g5 g6 hk=>?_;refine⟨_,rfl,?_⟩;refine wpAny_letOwnedTupleGo_zip g1 fun h'' he hs=>?_;have live:∀ b∈[z,TI,TO,i1,i2],b<s.heap.objs.size:=fun b hb=>by
   obtain⟨h1,h2,⟨a,c,h3⟩,h4,h5⟩:=st;obtain⟨o4,e4,_⟩:=h4.obj;obtain⟨o5,e5,_⟩:=h5.obj;simp only[YaC,Yct,or_false] at hb;rcases hb with rfl | rfl | rfl | rfl | rfl
   ·exact Yap h1
   ·exact Yap h2
   ·exact Yap h3
   ·exact Yap e4
   ·exact Yap e5
  have hsz:s.heap.objs.size≠z:=Yb4 (live z (by simp));have k:∀ b o,b ∉ [z,TI,TO,i1,i2]->s.heap.get? b=some o->h''.get? b=some o:=fun b o hb q=>by
   simp only[YaC,Yct,or_false,not_or] at hb;exact (hs.2 b hb.1).trans (hk b o hb.1 hb.2.2.1 hb.2.2.2.1 hb.2.2.2.2 q)
  have st':Zk7 b1 b2 z TI TO i1 i2 l1 l2 (i+1) h'':=by
   refine⟨he,(hs.2 TI D.TIz).trans (hk TI _ D.TIz D.TITO D.TIi1 D.TIi2 s2),⟨u,u2,(hs.2 TO D.TOz).trans g2⟩,?_,?_⟩
   ·exact g3.ext hs.extBut D.i1z
   ·exact g4.ext hs.extBut D.i2z
  have th:∀ b∈[z,TI,TO,i1,i2],∃ o,h''.get? b=some o:=fun b hb=>by
   obtain⟨h1,h2,⟨a,c,h3⟩,h4,h5⟩:=st';obtain⟨o4,e4,_⟩:=h4.obj;obtain⟨o5,e5,_⟩:=h5.obj;simp only[YaC,Yct,or_false] at hb;rcases hb with rfl | rfl | rfl | rfl | rfl
   ·exact⟨_,h1⟩
   ·exact⟨_,h2⟩
   ·exact⟨_,h3⟩
   ·exact⟨_,e4⟩
   ·exact⟨_,e5⟩
  have fresh:H s.heap.objs.size=none:=I.hok.fresh (Yak _);refine⟨.ref s.heap.objs.size,_,I.pairOut (fp:=[z,TI,TO,i1,i2]) (tk:=s.toks) hf k ((hs.2 _ hsz).trans g5) live th ru ru2,rfl,⟨s.heap.objs.size,x,y,fresh,rfl,rfl,fun ys hy=>by rw[hy.inj I hq1];exact hx,fun zs hz=>by rw[hz.inj I hq2];exact hy⟩,st',fun b hb=>?_⟩;rw[Zag (YaU (live b hb))];exact (hf b hb).1
 done:=by
  intro X hP hw hK hc i pins s σ H E I hf st hg;subst hP hw hK;obtain⟨xs,ys,hq1,hq2,hx⟩:=hg;obtain⟨its,rv,p⟩:=hq1.heap I;obtain⟨its2,rv2,p2⟩:=hq2.heap I;obtain⟨s1,s2,⟨a,c,s3⟩,s4,s5⟩:=st;have e1:=rv.length;have e2:=rv2.length;refine Zf4 (I.ok.hd hc) D s1 s2 s3 s4 s5 p p2 (by rcases hx with q | q;exact .inl (by simp;(clear e2;omega));exact .inr (by simp;(clear e1;omega))) fun h' hk=>⟨rfl,I.turnedAll (fp:=[z,TI,TO,i1,i2]) (tk:=s.toks) hf fun b o hb q=>?_⟩
  simp only[YaC,Yct,or_false,not_or] at hb;exact hk b o hb.1 hb.2.2.1 hb.2.2.2.1 hb.2.2.2.2 q
 self:=fun _ _ _ _ _ st h=>wpAny_pyIter_zip st.1 h
def Zn8 (K:Yac) (ta:TA):TI:=fun σ H R=>ta σ H fun vs H1=>∃ b1 b2 a b,vs=[.ref a,.ref b]/\(∃ xs,SqB b1 K H1 a xs)/\(∃ ys,SqB b2 K H1 b ys)/\R (ItzB b1 b2 K a b) H1
theorem Zds {X:Cx}{es:List Expr}{x1}{tpos:Pos}{e f:Expr}{ta:TA}{p pos:Pos} (hg:Gl X "zip") (hm:X.mg "zip"=none) (ha:PA X [e,f] ta) (hs:starEach [e,f] X.env=[(false,eval e X.env),(false,eval f X.env)]:=by rfl) (hs2:starEach [f] X.env=[(false,eval f X.env)]:=by rfl) :
  PI X (.Tuple es x1 tpos) (.Call (.Name "zip" p) [e,f] [] pos) (Zn8 X.K ta):=by
 intro pins s σ H R I h;refine Call_ (Zcs I hg hm (show bootBuiltins "zip"=some (.type "zip") by decide +kernel) (Ybr (thn (ha pos pins s σ H _ I h) fun us s1 ⟨vs,H1,I1,r1,q1⟩=>?_) (by rw[hs,hs2]) (by rw[hs2];rfl)));obtain⟨b1,b2,a,b,e1,⟨xs,hq⟩,⟨ys,hq2⟩,q⟩:=q1;subst e1;obtain⟨u,u2,rfl,r,r2⟩:=ZjR r1;cases r;cases r2;obtain⟨its,rv,pl⟩:=hq.heap I1;obtain⟨its2,rv2,pl2⟩:=hq2.heap I1;have la:=pl.lt;have lb:=pl2.lt;have ne:∀ {i j:Nat},i≠j->s1.heap.objs.size+i≠s1.heap.objs.size+j:=fun h z=>h (Nat.add_left_cancel z);have nl:∀ {c:Addr} (i:Nat),c<s1.heap.objs.size->c≠s1.heap.objs.size+i:=fun i h=>YaU (Yaw h (Nat.le_add_right _ _));refine ZjE pl pl2 fun h' g1 g2 g3 g4 g5 k=>wpAny_pyIter_zip g1 ?_;have D:ZipApart (s1.heap.objs.size+4) (s1.heap.objs.size+2) (s1.heap.objs.size+3) (s1.heap.objs.size+0) (s1.heap.objs.size+1) a b :=
  ⟨ne (by decide),ne (by decide),ne (by decide),ne (by decide),ne (by decide),ne (by decide),ne (by decide),ne (by decide),ne (by decide),ne (by decide),nl 4 la,nl 3 la,nl 0 la,nl 1 la,nl 4 lb,nl 3 lb,nl 0 lb,nl 1 lb⟩
 refine⟨s1.heap.objs.size+4,[s1.heap.objs.size+4,s1.heap.objs.size+2,s1.heap.objs.size+3,s1.heap.objs.size+0,s1.heap.objs.size+1],_,_,H1,rfl,I1.kept (t':=s1.toks) k,ZhW D,⟨g1,g2,⟨_,_,g3⟩,g4,g5⟩,fun c hc=>?_,q⟩;have ge:s1.heap.objs.size<=c:=by
  simp only[YaC,Yct,or_false] at hc;rcases hc with rfl | rfl | rfl | rfl | rfl <;> exact Nat.le_add_right _ _
 exact I1.fpOk ge (I1.hok.fresh ge)
theorem Zk1 {b1 b2:Bool}{K:Yac}{own:List Str}{js:List Nat}{g:TG}{tt:TT}{te:TE}{σ:St}{H1:Hp}{Q:VK}{a b:Addr}{xs ys:List V} (hlen:xs.length<=ys.length) (Pv:Addr->Nat->Hp->Prop) (h0:∀ acc,H1 acc=none->Pv acc 0 (upd H1 acc (.lst [])))
  (hl:∀ acc i H,H1 acc=none->i<=xs.length->Pv acc i H->SqB b1 K H a xs/\SqB b2 K H b ys)
  (hs:∀ acc i x y p H,H1 acc=none->xs[i]?=some x->ys[i]?=some y->Pv acc i H->H p=none->g (.ref p) (blkσ own js σ) (upd H p (.tup [x,y])) fun τ H4=>tt τ H4 fun c H5=>
   if c=true then te τ H5 fun y H6=>∃ ys,H6 acc=some (.lst ys)/\ys.length<sizeLine/\(i+1<=xs.length/\Pv acc (i+1) (upd H6 acc (.lst (ys++[y])))) else (i+1<=xs.length/\Pv acc (i+1) H5))
  (hd:∀ acc H,H1 acc=none->Pv acc xs.length H->Q (.ref acc) H):Zby own js g tt te σ (ItzB b1 b2 K a b) H1 Q:=by
 intro acc hacc;refine⟨fun i H=>i<=xs.length/\Pv acc i H,xs.length,⟨YaY _,h0 acc hacc⟩,?_⟩;rintro i H ⟨hi,p⟩;obtain⟨q1,q2⟩:=hl acc i H hacc hi p;by_cases hlt:i<xs.length
 ·have hl2:i<ys.length:=by (clear hi;omega)
  refine .inr ⟨hlt,⟨xs,ys,xs[i],ys[i],q1,q2,by simp[hlt],by simp[hl2]⟩,fun x H' y=>?_⟩;obtain⟨pa,z1,z2,hp,e1,e2,y1,y2⟩:=y;subst e1 e2;exact hs acc i z1 z2 pa H hacc (y1 xs q1) (y2 ys q2) p hp
 ·have e:i=xs.length:=by (clear hlen;omega)
  subst e;exact .inl ⟨⟨xs,ys,q1,q2,.inl (Yak _)⟩,hd acc H hacc p⟩
end L2
namespace Lv
open PySem L2
theorem Zbe (K:Yac) {X:Cx}{es:List Expr}{k:Nat}{t:TGs}{n:Nat}{pos:Pos} (hc:X.calm=true) (h:PGs X es t) (hK:X.K=K:=by rfl) (hn:(assignEach es X.env).length=n:=by rfl) (hst:(assignEach es X.env).findIdx? (·.1)=none:=by rfl):PG X (.Tuple es k pos) (gTup K n t):=by
 subst hK;exact Zdt hc h hn hst
end Lv
namespace L2
open PySem PySem.Spec PyProof.Rows PySem.SeqAt
theorem Zku (K:Yac) {X:Cx} (hK:X.K=K:=by rfl):OpR X (binaryOp .Add) (ZmY K):=by subst hK;exact ZiD
theorem ZfF (K:Yac) {X:Cx} (hK:X.K=K:=by rfl):Zcz X (.builtin "len") (fun xs H Q=>∃ p ys,xs=[.ref p]/\(SqL K H p ys∨SqT K H p ys)/\Q (.int ys.length) H):=by subst hK;exact Zap
theorem CompOk.bare {X:Cx}{scope:Scope}{own:List Str} (h:((scope.kind == .function) && scope.names.all fun y=>(y.2 != .cell) && (y.2 != .free) && ((y.2 != .local) || (scope.names.lookup y.1 == some .local)))=true):CompOk X scope own []:=by
 simp only[Ycu,beq_iff_eq,Yd9,Yet,bne_iff_ne,ne_eq] at h;obtain⟨h1,h2⟩:=h;refine⟨h1,fun y hy=>(h2 y hy).1.1,fun y hy hf=>absurd hf (h2 y hy).1.2,fun y hy hl=>?_,fun j hj=>by cases hj⟩;rcases (h2 y hy).2 with z | z
 ·exact absurd hl z
 ·exact z
section
variable {X:Cx}
def LLs (H:Hp) (rs:List Addr) (N:List (List Int)):Prop:=rs.length=N.length/\∀ (j:Nat) r xs,rs[j]?=some r->N[j]?=some xs->H r=some (.lst (xs.map V.int))
def TTs (H:Hp) (rs:List Addr) (N:List (List Int)):Prop:=rs.length=N.length/\∀ (j:Nat) r xs,rs[j]?=some r->N[j]?=some xs->H r=some (.tup (xs.map V.int))
theorem TTs.same {H H':Hp}{rs:List Addr}{N:List (List Int)} (h:TTs H rs N) (s:Same H H'):TTs H' rs N:=⟨h.1,fun j r xs a b=>s _ _ (h.2 j r xs a b)⟩
theorem TTs.lst {H:Hp}{rs:List Addr}{N:List (List Int)}{acc:Addr}{ys zs:List V} (h:TTs H rs N) (e:H acc=some (.lst zs)):TTs (upd H acc (.lst ys)) rs N:=⟨h.1,fun j r xs a b=>by
 have:=h.2 j r xs a b;rw[Zag (by intro z;subst z;rw[e] at this;cases this)];exact this⟩
theorem Zbt {α:Type}{xs:List α}{x y:α}{j:Nat} (h:(xs++[x])[j]?=some y):xs[j]?=some y∨(j=xs.length/\y=x):=by
 by_cases hj:j<xs.length
 ·rw[Ybe hj] at h;exact .inl h
 ·rw[YaV (by omega)] at h;have:j - xs.length=0:=by
   cases e:j - xs.length with
   | zero=>rfl
   | succ m=>rw[e] at h;simp at h
  rw[this] at h;exact .inr ⟨by omega,by simpa using h.symm⟩
theorem TTs.snoc {H:Hp}{rs:List Addr}{N:List (List Int)}{r:Addr}{x:List Int} (h:TTs H rs N) (e:H r=some (.tup (x.map V.int))):TTs H (rs++[r]) (N++[x]):=⟨by simp[h.1],fun j r' xs a b=>by
 rcases Zbt a with a | ⟨a,rfl⟩
 ·rcases Zbt b with b | ⟨b,_⟩
  ·exact h.2 j r' xs a b
  ·have:=(Yab.mp a).1;have:=h.1;omega
 ·rcases Zbt b with b | ⟨_,rfl⟩
  ·have:=(Yab.mp b).1;have:=h.1;omega
  ·exact e⟩
theorem Zio {rs:List Addr}{us:List Value} (r:Vals (rs.map V.ref) us) {j:Nat}{a:Addr} (h:rs[j]?=some a):us[j]?=some (.ref a):=by
 obtain⟨u,hu,ru⟩:=r.get (x:=V.ref a) (i:=j) (by rw[Yat,h];rfl);cases ru;exact hu
def ZnW (K:Yac):R2:=fun x y H Q=>∃ (a b:Addr) (rs qs:List Addr) (N:List (List Int)),x=.ref a/\y=.ref b/\SqT K H a (rs.map V.ref)/\SqT K H b (qs.map V.ref)/\TTs H rs N/\TTs H qs N/\Q (.bl false) H
theorem Zbp (n:Nat):((YaG n).all fun _=>true)=true:=by simp
theorem Zl0 (hu:X.A.units+1<cLine):OpR X (compareOp .NotEq) (ZnW X.K):=by
 intro pins s σ H x y v u Q I rx ry h;obtain⟨a,b,rs,qs,N,rfl,rfl,ha,hb,h1,h2,q⟩:=h;cases rx;cases ry;obtain⟨i1,v1,p1,_⟩:=I.tuple ha;obtain⟨i2,v2,p2,_⟩:=I.tuple hb;have z1:i1.toArray.size=rs.length:=by rw[Yah,<- v1.length,Yaa]
 have z2:i2.toArray.size=qs.length:=by rw[Yah,<- v2.length,Yaa]
 refine YeE (e:=fun _=>true) (show s.heap.IsTuple a i1.toArray from p1) (show s.heap.IsTuple b i2.toArray from p2) (by (clear z2 z1;omega)) (fun j g1 g2=>?_) _ _ _ _ ?_
 ·have j1:j<rs.length:=by rw[<- z1];exact g1
  have j2:j<qs.length:=by rw[<- z2];exact g2
  have jN:j<N.length:=by rw[<- h1.1];exact j1
  have e1:=Zio v1 (Yad j1);have e2:=Zio v2 (Yad j2);have f1:i1.toArray[j]=.ref rs[j]:=by simpa using (Yab.mp e1).2
  have f2:i2.toArray[j]=.ref qs[j]:=by simpa using (Yab.mp e2).2
  rw[f1,f2];by_cases hne:rs[j]=qs[j]
  ·rw[hne];exact Yer _
  ·obtain⟨k1,w1,l1,_⟩:=I.tuple (SqT.of (K:=X.K) (h1.2 j _ _ (Yad j1) (Yad jN)));obtain⟨k2,w2,l2,_⟩:=I.tuple (SqT.of (K:=X.K) (h2.2 j _ _ (Yad j2) (Yad jN)));have y1:k1.toArray.size=N[j].length:=by rw[Yah,<- w1.length,Yaa]
   have y2:k2.toArray.size=N[j].length:=by rw[Yah,<- w2.length,Yaa]
   refine Ye0 hne ?_;have:=RcAt.tuples (A:=X.A.in1) (s:=s) (e:=fun _=>true) (show s.heap.IsTuple rs[j] k1.toArray from l1) (show s.heap.IsTuple qs[j] k2.toArray from l2) hu (fun m h1 h2=>by
    obtain⟨t1,e1⟩:=ZcT w1 h1;obtain⟨t2,e2⟩:=ZcT w2 h2;rw[e1,e2];have:=Ye1 (A:=X.A.in1.in1) (s:=s) (N[j].getD m 0) t1 (N[j].getD m 0) t2;rw[beq_self_eq_true] at this;exact this)
   rw[y1,y2,Zbp] at this;simpa using this
 ·rw[z1,z2,h1.1,h2.1,Zbp];simp only[beq_self_eq_true,Bool.and_true,YcE];exact⟨.bl false,H,I,rfl,q⟩
end
end L2
namespace Lv
open PySem L2
def fstN (N:List (List Int)):List Int:=(N.headD []).map (·+1)
def Zfm (N:List (List Int)):List (List Int):=(N.tail.map (fstN N++·))++[fstN N]
def num0 (p:Nat):List (List Int):=[0]::Yaj (p - 1) []
def num (p:Nat):Nat->List (List Int)
 | 0=>num0 p
 | n+1=>Zfm (num p n)
def lens (N:List (List Int)):List Int:=N.map fun l=>(l.length:Int)
theorem Zi3 (N:List (List Int)):lens (Zfm N)=ZbF (lens N):=by
 cases N with
 | nil=>simp[lens,Zfm,ZbF,fstN]
 | cons a r=>
  simp[lens,Zfm,ZbF,fstN,YeZ]
theorem ZbU (p:Nat):∀ n,lens (num p n)=cnt p n
 | 0=>by simp[lens,num,num0,cnt,Zbz]
 | n+1=>by
  show lens (Zfm (num p n))=ZbF (cnt p n);rw[Zi3,ZbU p n]
theorem ZbE {p:Nat} (hp:1<=p) (n:Nat):(num p n).length=p:=by
 have:=congrArg Ydl (ZbU p n);rw[ZeY hp] at this;simpa[lens] using this
theorem Zlp {c:List Int} (h:∀ x∈c,0<=x) {x:Int} (hx:x∈c):x<=c.sum:=by
 induction c with
 | nil=>cases hx
 | cons a r ih=>
  have nn:∀ l:List Int,(∀ x∈l,0<=x)->0<=l.sum:=by
   intro l
   induction l with
   | nil=>intro _;simp
   | cons x y ih=>
    intro h;rw[Yas];have:=h x (by simp);have:=ih fun z hz=>h z (by simp[hz])
    (clear ih;omega)
  rw[Yas];have ha:=h a (by simp);have hr:∀ x∈r,0<=x:=fun x hx=>h x (by simp[hx]);rcases YaC.mp hx with rfl | hx
  ·have:=nn r hr
   (clear ha ih;omega)
  ·have:=ih hr hx
   (clear ih;omega)
theorem Zlm {p n:Nat}{xs:List Int} (h:xs∈num p n):(xs.length:Int)<=tot p n:=by
 refine Zlp (ZbV p n).2 ?_;rw[<- ZbU p n];exact YaK.mpr ⟨xs,h,rfl⟩
theorem ZgS {p:Nat} (hp:2<=p) (n:Nat):∃ a r,num p n=a::r/\a≠[]/\r.length=p - 1:=by
 have h:=ZbE (p:=p) (by omega) n
 cases e:num p n with
 | nil=>rw[e] at h;simp at h;omega
 | cons a r=>
  rw[e] at h;refine⟨a,r,rfl,?_,by simp at h;(clear hp;omega)⟩;rintro rfl;have h1:=Zfu hp n;unfold hd at h1;rw[<- ZbU p n,e] at h1;simp[lens] at h1
theorem ZbB {n:Nat} (h:n<=8000):n<sizeLine:=Yfu h (by decide)
def Zev:Sp:=fun vs H Q _=>∃ p n:Nat,vs=[.int p,.int n]/\2<=p/\p<=7/\n<=300/\tot p n<=4000/\∀ H',Same H H'->Q .non H'
def ZcC:Sp:=fun vs H Q _=>∃ (a:Addr) (rs:List Addr) (N:List (List Int)),vs=[.ref a]/\H a=some (.tup (rs.map V.ref))/\TTs H rs N/\2<=N.length/\N.length<=7/\N.headD []≠[]/\(∀ xs∈N,xs.length<=4000) /\
 ∀ l qs H',H l=none->H' l=some (.tup (qs.map V.ref))->TTs H' qs (Zfm N)->Same H H'->Q (.ref l) H'
def Zfc:Sp:=fun vs H Q _=>∃ p n:Nat,vs=[.int p,.int n]/\2<=p/\p<=7/\n<=300/\tot p n<=4000/\∀ l qs H',H l=none->H' l=some (.tup (qs.map V.ref))->TTs H' qs (num p n)->Same H H'->Q (.ref l) H'
theorem Zim {α:Type}{n j:Nat}{x y:α} (h:(Yaj n x)[j]?=some y):y=x:=by
 rw[YcC] at h;split at h
 ·exact (YaL h).symm
 ·cases h
theorem Zbf {rs:List Addr}{i:Nat}{x:V} (h:(rs.map V.ref)[i]?=some x):∃ r,rs[i]?=some r/\x=.ref r:=by
 rw[Yat] at h
 cases e:rs[i]? with
 | none=>rw[e] at h;cases h
 | some p=>rw[e] at h;exact⟨p,rfl,(YaL h).symm⟩
def Zj0:Sp:=fun vs H Q _=>∃ i,vs=[.int i]/\i<=4000/\Q .non H
def ZbO:Sp:=fun vs H Q _=>∃ p:Nat,vs=[.int p]/\2<=p/\p<=7/\∀ l qs H',H l=none->H' l=some (.tup (qs.map V.ref))->TTs H' qs (num0 p)->Same H H'->Q (.ref l) H'
def ZfZ (fn:Addr):Sp:=fun vs H Q _=>∃ p n:Nat,vs=[.int p,.int n,.ref fn]/\2<=p/\p<=7/\n<=300/\tot p n<=4000/\∀ l qs H',H l=none->H' l=some (.tup (qs.map V.ref))->TTs H' qs (num p n)->Same H H'->Q (.ref l) H'
end Lv
namespace Lv
open PySem L2 PySem.Spec PyProof.Rows
structure FunD (K:Yac) (x qual:Str) (st:Stmt) (f da:Addr) (fd:FuncData):Prop where
 ex:∃ (oc:Value) (od:Option Addr) (kV doc pm:Value) (an:Option Addr) (cdv ct:Value) (osl:Array (Option Value)),
  fd=YaA x qual (Zao st) (Zal st) (Zad st) (.ref da) kV doc pm an cdv ct/\K.lookup f=some ⟨oc,od,.func fd,osl⟩/\Yax K cdv qual=true
 kp:Yaq K (.ref f)=true
section
variable {P:Program}{w:World}{K:Yac}{mg:Str->Option Value}{base:Heap}
theorem FunD.ok {x qual:Str}{st:Stmt}{f da:Addr}{fd:FuncData}{N ps:List Str}{k:Nat}{sp:Sp} (F:FunD K x qual st f da fd) (S:FnScope N ps (Zad st)) (len:∀ vs H Q E,sp vs H Q E->vs.length=ps.length)
  (hbody:∀ (cdv:Value) (A:Around) (outer:List Env) (s:Shared) (H:Hp) (vs:List V) (Q:VK) (E:XK),Room k (A.deeper (envOfC qual (Zad st) s.heap.objs.size f cdv))->sp vs H Q E ->
   ∃ t,PSs (cxOf CX0 P w K mg base N qual (Zad st) f cdv A outer s H E).nox (Zal st) t/\t { nx:=fun _ H'=>Q .non H',rt:=Q } (ZdM N vs) H):FnOk P w K mg base CX0 (k+1) f fd ps sp:=by
 obtain⟨oc,od,kV,doc,pm,an,cdv,ct,osl,rfl,lk,hcd⟩:=F.ex;refine Znn lk hcd S len fun A outer s H vs Q E hr hsp=>?_;obtain⟨t,h,q⟩:=hbody cdv A outer s H vs Q E hr hsp;exact⟨t,h.nox,q⟩
theorem FunD.binds {x qual:Str}{st:Stmt}{f da:Addr}{fd:FuncData}{ps:List Str}{o:Obj}{items:Array Value}{n:Nat} (F:FunD K x qual st f da fd) (ho:K.lookup da=some o) (hs:o.data=.seq items n) (ds:List Value) (qs:List Str) (hq:qs.length+ds.length=ps.length)
  (h:∀ (kV doc pm:Value) (an:Option Addr) (cdv ct:Value) (us:List Value),us.length=qs.length ->
   ∃ k:Option (Array Value)->Sem (List (Str × Value)),bindArgs (YaA x qual (Zao st) (Zal st) (Zad st) (.ref da) kV doc pm an cdv ct) ⟨us,[]⟩=seqItems? (.ref da) >>= k/\k (some items)=pure (ps.zip (us++ds))):Binds K fd ps ds:=by
 obtain⟨oc,od,kV,doc,pm,an,cdv,ct,osl,rfl,lk,hcd⟩:=F.ex;intro s us X hl;obtain⟨k,h1,h2⟩:=h kV doc pm an cdv ct us (by rw[Yaf] at hl;omega);exact PySem.W.binds_K X rfl ho hs h1 h2
theorem Zms {x qual:Str}{st:Stmt}{f da:Addr}{oc:Value}{od an:Option Addr}{osl:Array (Option Value)}{kV doc pm cdv ct:Value} (l:K.lookup f=some ⟨oc,od,.func (YaA x qual (Zao st) (Zal st) (Zad st) (.ref da) kV doc pm an cdv ct),osl⟩)
  (c:Yax K cdv qual=true) (k:Yaq K (.ref f)=true):FunD K x qual st f da (YaA x qual (Zao st) (Zal st) (Zad st) (.ref da) kV doc pm an cdv ct):=⟨⟨oc,od,kV,doc,pm,an,cdv,ct,osl,rfl,l,c⟩,k⟩
end
structure CalD (P:Program) (w:World) (K:Yac) (mg:Str->Option Value) (base:Heap) (k:Nat) (x:Str) (ps:List Str) (dvs:List V) (sp:Sp) (f:Addr) (fd:FuncData):Prop where
 ok:FnOk P w K mg base CX0 k f fd ps sp
 mg:mg x=some (.ref f)
 kp:Yaq K (.ref f)=true
 bd:∃ ds,Binds K fd ps ds/\Vals dvs ds
theorem ZlX {X:Cx}{k:Nat}{x:Str}{ps:List Str}{dvs:List V}{sp:Sp}{f:Addr}{fd:FuncData}{e:Expr}{es:List Expr}{t:TA}{p pos:Pos} (C:CalD X.prog X.w X.K X.mg X.base k x ps dvs sp f fd) (hr:Room k X.A) (hg:Gl X x) (ha:PA X (e::es) t)
  (hdb:(x == ("__debug__":Str))=false:=by decide) (he:starEach (e::es) X.env=(false,eval e X.env)::starEach es X.env:=by rfl) (hpl:(backTo pos (starEach es X.env)).any (·.1)=false:=by rfl) :
  PE X (.Call (.Name x p) (e::es) [] pos) (ZjY sp dvs E0 t):=by
 obtain⟨ds,h1,h2⟩:=C.bd;exact ZiA C.ok hr hg C.mg C.kp h1 h2 ZiB ha hdb he hpl
def ZmP (j:Nat) (f:Addr) (t:TE):TE:=fun σ H Q=>σ[j]?=some (some (.ref f))/\t σ H Q
theorem ZeL {X:Cx}{k:Nat}{x y:Str}{ps:List Str}{sp:Sp}{f:Addr}{fd:FuncData}{e:Expr}{es:List Expr}{t:TA}{p pos:Pos} (j:Nat) (C:Cal X.prog X.w X.K X.mg X.base k y ps sp f fd) (hr:Room k X.A) (ha:PA X (e::es) t) (hN:X.N[j]?=some x:=by rfl) (hv:Vis X.env.scope x:=by first | exact YaI rfl | exact Yde (YaI rfl) | exact Yde (Yde rfl))
  (hdb:(x == ("__debug__":Str))=false:=by decide) (hcd:(x == ("__classdict__":Str))=false:=by decide) (he:starEach (e::es) X.env=(false,eval e X.env)::starEach es X.env:=by rfl) (hpl:(backTo pos (starEach es X.env)).any (·.1)=false:=by rfl) :
  PE X (.Call (.Name x p) (e::es) [] pos) (ZmP j f (ZjY sp [] E0 t)):=by
 intro pins s σ H Q I h;obtain⟨h0,h⟩:=h;refine wpAny_Call_Name_kw ?_;refine thn (Zlj hN hv hdb hcd pins s σ H (fun v H1=>v=.ref f/\t σ H1 fun vs H2=>sp (vs++[]) H2 Q E0) I ⟨_,h0,rfl,h⟩) fun u s1 ⟨v,H1,I1,r,ev,q⟩=>?_;subst ev;obtain rfl:u=Ybt f:=r;refine Yc0 (h₀:=X.base) I.ok.mod.kin C.kp (thn (ha pos pins s1 σ H1 _ I1 q) fun us s2 ⟨vs,H2,I2,r2,q2⟩=>⟨I2.kIn,?_⟩) he hpl;exact ZgD C.ok hr C.bd .nil ZiB I2 r2 q2
theorem Zc2 {X:Cx}{k:Nat}{x:Str}{ps:List Str}{sp:Sp}{f:Addr}{fd:FuncData}{pos:Pos} (C:Cal X.prog X.w X.K X.mg X.base k x ps sp f fd) (hg:Gl X x) (hd:(x == ("__debug__":Str))=false:=by decide):PE X (.Name x pos) (tC (.ref f)) :=
 Ziz hg C.mg rfl hd
def Zcg:Sp:=fun vs H Q _=>∃ i m,vs=[.int i,.int m]/\0<=i/\i<=m/\Q .non H
end Lv
namespace L2
open PySem PySem.Spec PyProof.Rows
end L2
namespace L2
open PySem PySem.Spec PyProof.Rows
def Fly (H:Hp) (h0 h:Heap) (ea:Addr) (cls:Value) (od:Option Addr) (fl:Value):Prop :=
 ∃ (a0:Value) (T:Addr) (oe oT:Obj) (vs ts:Array Value),(H ea=none/\H T=none/\h0.get? ea=none/\h0.get? T=none) /\
  h.get? ea=some oe/\((oe.cls=cls/\vs[0]?=some a0)/\oe.dict=od)/\oe.data=.fields vs/\vs[1]?=some (.ref T)/\T≠ea/\h.get? T=some oT/\oT.data=.fields ts/\ts[3]?=some fl
def CX1 (P:Program) (w:World):CXT:=fun outer H s E e s'=>∃ (ea:Addr) (cls:Value) (od:Option Addr) (H':Hp),e=.ref ea/\s'.os=s.os/\AllBare s'.gens/\Un (frs outer) [] H H' s.heap s'.heap/\HOk P w H' s'.heap/\Fly H' s.heap s'.heap ea cls od .none/\E cls od H'
section
variable {P:Program}{w:World}{K:Yac}{mg:Str->Option Value}{base:Heap}{N:List Str}{qual:Str}{scope:Scope}{f:Addr}{cd:Value}{A:Around}{outer:List Env}{s:Shared}{H:Hp}{E:XK}
end
end L2
namespace L2
open PySem PySem.Spec PyProof.Rows PySem.W
section
variable {prog:Program}{w:World}{A:Around}{E:Value->Shared->Prop}{s:Shared}{K:Frag}{x C D:Addr}{ox:Obj}
def Zjr (K:Frag) (C:Addr):Bool:=findIn K (.ref C) "__getattribute__" == some (some (.builtin "BaseException.__getattribute__")) && (findIn K (.ref C) "__getattr__" == some none &&
 (findIn K (.ref C) "__class__" == some (some (.builtin "object.__class__")) && (mroIn K C (.type "object") == some true && (mroIn K C (.type "BaseException") == some true && ((clsIn K C).isSome &&
 (specialIn K (.builtin "object.__class__") "__get__" == some (some (.builtin "getset_descriptor.__get__")) && takesIn K (.builtin "object.__class__") == some true))))))
def Znq (K:Frag) (C:Addr):Bool:=excIn K C [.type "ValueError",.type "Exception",.type "BaseException",.type "object"] "ValueError.__new__" && Zjr K C
end
section
variable {X:Cx}
end
end L2
namespace L2
open PySem PySem.Spec PyProof.Rows PySem.W
section
variable {P:Program}{w:World}{K:Yac}{mg:Str->Option Value}{base:Heap}
end
structure CalE (P:Program) (w:World) (K:Yac) (mg:Str->Option Value) (base:Heap) (k:Nat) (x:Str) (ps:List Str) (dvs:List V) (sp:Sp) (f:Addr) (fd:FuncData):Prop where
 ok:FnOk P w K mg base (CX1 P w) k f fd ps sp
 mg:mg x=some (.ref f)
 kp:Yaq K (.ref f)=true
 bd:∃ ds,Binds K fd ps ds/\Vals dvs ds
section
variable {X:Cx}
inductive FParts (X:Cx):List Expr->List TE->Prop
 | nil:FParts X [] []
 | con {x:Str}{j pos}{es:List Expr}{ts:List TE} (h:x.length<=1000) (r:FParts X es ts):FParts X (.Constant (.str x) j pos::es) ts
 | val {v:Expr}{t:TE}{pos:Pos}{es:List Expr}{ts:List TE} (h:PE X v t) (r:FParts X es ts):FParts X (.FormattedValue v (-1) none pos::es) (t::ts)
end
section
variable {X:Cx}{pins:List (Addr × Obj)}{σ:St}{H:Hp}{s:Shared}
end
def Ends.without (D:Ends) (i:Nat):Ends:={ nx:=fun σ H=>D.nx (σ.set i none) H,rt:=D.rt,bk:=fun σ H=>D.bk (σ.set i none) H,ct:=fun σ H=>D.ct (σ.set i none) H }
section
variable {X:Cx}
end
end L2
namespace L2
open PySem PySem.Spec PyProof.Rows
def ZgT:Expr->Bool
 | .Starred ..=>false
 | _=>true
theorem Zhu {e:Expr}{es:List Expr}{env:Env} (h:ZgT e=true):starEach (e::es) env=(false,eval e env)::starEach es env:=by
 cases e <;> first | rfl | (cases h)
structure WA (X:Cx) (es:List Expr) (t:TA):Prop where
 out:PA X es t
structure WS (X:Cx) (st:Stmt) (t:TS):Prop where
 out:PS X st t
structure WSs (X:Cx) (sts:List Stmt) (t:TS):Prop where
 out:PSs X sts t
section
variable {X:Cx}{st:Stmt}{rest a b:List Stmt}{t u:TS}{c e:Expr}{tc:TT}{pos:Pos}{es:List Expr}{te:TE}{ta:TA}
theorem Zah (h1:WS X st t) (h2:WSs X rest u):WSs X (st::rest) (tSeq t u):=⟨Zai h1.out h2.out⟩
theorem ZaI (h:WS X st t):WSs X [st] t:=⟨Zan h.out⟩
theorem Zbq:WSs X [] ZmL:=⟨ZbC⟩
theorem wss {sts:List Stmt} (h:PSs X sts t):WSs X sts t:=⟨h⟩
theorem Zeo (hc:PT X c tc) (ha:WSs X a t) (hb:WSs X b u):WS X (.If c a b pos) (tIfS tc t u):=⟨Zfj hc ha.out hb.out⟩
theorem ws (h:PS X st t):WS X st t:=⟨h⟩
theorem ZhV:WA X [] tNil:=⟨Zac⟩
theorem Zbr (hn:ZgT e=true) (ha:PE X e te) (hr:WA X es ta):WA X (e::es) (ZjX te ta):=⟨Zaa ha hr.out (Zhu hn)⟩
end
section
variable {P:Program}{w:World}{K:Yac}{mg:Str->Option Value}{base:Heap}
theorem okW {x qual:Str}{st:Stmt}{f:Addr}{fd:FuncData}{N ps:List Str}{k:Nat}{sp:Sp} (F:Fun K x qual st f fd) (S:FnScope N ps (Zad st)) (len:∀ vs H Q E,sp vs H Q E->vs.length=ps.length)
  (hbody:∀ (cdv:Value) (A:Around) (outer:List Env) (s:Shared) (H:Hp) (vs:List V) (Q:VK) (E:XK),Room k (A.deeper (envOfC qual (Zad st) s.heap.objs.size f cdv))->sp vs H Q E ->
   ∃ t,WSs (cxOf CX0 P w K mg base N qual (Zad st) f cdv A outer s H E).nox (Zal st) t/\t { nx:=fun _ H'=>Q .non H',rt:=Q } (ZdM N vs) H):FnOk P w K mg base CX0 (k+1) f fd ps sp :=
 F.ok S len fun cdv A outer s H vs Q E hr hsp=>by
  obtain⟨t,h,q⟩:=hbody cdv A outer s H vs Q E hr hsp;exact⟨t,h.out,q⟩
end
end L2
namespace L2
open PySem PySem.Spec PyProof.Rows PySem.SeqAt
section
variable {X:Cx}{pins:List (Addr × Obj)}{σ:St}{H:Hp}{s:Shared}{a:Addr}{u v:HO}{kvs:List (Key × V)}
end
section
variable {X:Cx}
end
section
variable {X:Cx}
end
section
variable {prog:Program}{w:World}{A:Around}{R:Result->Shared->Prop}{s:Shared}
end
section
variable {X:Cx}{pins:List (Addr × Obj)}{σ:St}{H H':Hp}{s s':Shared}{scope:Scope}{own:List Str}{js:List Nat}{C:Addr}{fp:List Addr}
end
section
variable {X:Cx}{scope:Scope}{own:List Str}{js:List Nat}{kx vx iter target:Expr}{ifs:List Expr}{wi:TI}{g:TG}{tt:TT}{tk tv:TE}{pos:Pos}
end
end L2
namespace L2
open PySem PyProof.Rows
structure KO extends KeyOrd where
 ky:Keyed->α
namespace KO
variable {O:KO}{x y z:Keyed}
def le (O:KO) (x y:Keyed):Prop:=O.blt (O.ky y) (O.ky x)=false
theorem le_refl:O.le x x:=O.irrefl _
theorem le_trans (h1:O.le x y) (h2:O.le y z):O.le x z:=YcS (O:=O.toKeyOrd) h1 h2
theorem le_of_lt (h:O.blt (O.ky x) (O.ky y)=true):O.le x y:=KeyOrd.klt_asymm (O:=O.toKeyOrd) h
abbrev Srt (O:KO) (l:List Keyed):Prop:=l.Pairwise O.le
end KO
def Zge:Bool->Keyed->Array Keyed->Nat->Nat->Nat->StateT SortSt Sem (Option Nat):=sortPriv% PySem.Builtin.gallop
def ZkK:Array Keyed->Array Keyed->StateT SortSt Sem (Array Keyed):=sortPriv% PySem.Builtin.mergeLo
def ZkL:Array Keyed->Array Keyed->StateT SortSt Sem (Array Keyed):=sortPriv% PySem.Builtin.mergeHi
def Zhx:Nat->StateT SortSt Sem Unit:=sortPriv% PySem.Builtin.setMinGallop
section
variable {prog:Program}{w:World}{A:Around}{E:Value->Shared->Prop}{s:Shared}{O:KO}{knd:SortKind}{ok:Keyed->Prop}{st:SortSt}
def Asks (prog:Program) (w:World) (A:Around) (s:Shared) (O:KO) (knd:SortKind) (ok:Keyed->Prop):Prop :=
 ∀ x y,ok x->ok y->∀ (E:Value->Shared->Prop) (Q:Bool->Shared->Prop),Q (O.blt (O.ky x) (O.ky y)) s->wpAny (model prog w) A (keyLt' knd x.1 y.1) Q E s
theorem Ze2 {x y:Keyed}{Q:Option Bool->SortSt->Prop} (hA:Asks prog w A s O knd ok) (hk:kindOf st=knd) (hx:ok x) (hy:ok y) (h:Q (some (O.blt (O.ky x) (O.ky y))) st):wpS (model prog w) A E s (lt' x y) Q st:=by
 rw[lt'_eq];refine wpS_bind (wpS_get ?_);rw[hk];refine wpS_bind (wpS_lift (wpAny_attempt (hA x y hx hy _ _ ⟨rfl,?_⟩)));exact wpS_pure h
theorem Zas {arr:Array Keyed}{i:Nat}{x:Keyed}{Q:Keyed->SortSt->Prop} (e:arr[i]?=some x) (h:Q x st):wpS (model prog w) A E s (elem' arr i) Q st:=by
 rw[elem'_eq,e];exact wpS_pure h
def ZjH (left:Bool) (key:Keyed) (arr:Array Keyed) (base i:Nat):StateT SortSt Sem (Option Bool) :=
 elem' arr (base+i) >>= fun x=>if left=true then lt' x key else lt' key x >>= fun r=>pure (r.map (! ·))
theorem ZdS {left:Bool}{key:Keyed}{arr:Array Keyed}{base n hint:Nat}{Q:Option Nat->SortSt->Prop} (hA:Asks prog w A s O knd ok) (hk:kindOf st=knd) (hkey:ok key) (B:Nat->Bool)
    (hB:∀ i,i<n->∃ x,arr[base+i]?=some x/\ok x/\B i=if left=true then O.blt (O.ky x) (O.ky key) else !(O.blt (O.ky key) (O.ky x)))
    (mono:∀ i j,i<=j->j<n->B j=true->B i=true) (hh:hint<n)
    (h:∀ k,k<=n->(∀ i,i<k->B i=true)->(∀ i,k<=i->i<n->B i=false)->Q (some k) st):wpS (model prog w) A E s (Zge left key arr base n hint) Q st:=by
  have bey:∀ i,i<n->∀ {Q':Option Bool->SortSt->Prop},Q' (some (B i)) st->wpS (model prog w) A E s (ZjH left key arr base i) Q' st:=by
    intro i hi Q' hq;obtain⟨x,e,hx,eb⟩:=hB i hi;refine wpS_bind (Zas e ?_);rw[eb] at hq
    cases left with
    | true=>simp only[if_true] at hq ⊢;exact Ze2 hA hk hx hkey hq
    | false=>
      simp only[YaQ,if_false] at hq ⊢;exact wpS_bind (Ze2 hA hk hkey hx (wpS_pure hq))
  have monoF:∀ i j,i<=j->j<n->B i=false->B j=false:=by
    intro i j hij hj hf
    cases e:B j with
    | false=>rfl
    | true=>rw[mono i j hij hj e] at hf;cases hf
  have jp:∀ lo hi,lo<=hi->hi<=n->(∀ i,i<lo->B i=true)->(∀ i,hi<=i->i<n->B i=false) ->
      wpS (model prog w) A E s (forIn [:n] ((none : Option (Option Nat)), lo, hi) fun _ c => if c.2.1 ≥ c.2.2 then pure (Ycm (none, c.2.1, c.2.2)) else ZjH left key arr base (c.2.1 + (c.2.2 - c.2.1) / 2) >>= fun x => match x with
          | some more=>if more=true then pure (Ybi (none,c.2.1+(c.2.2 - c.2.1) / 2+1,c.2.2)) else pure (Ybi (none,c.2.1,c.2.1+(c.2.2 - c.2.1) / 2))
          | _=>pure (Ycm (some none,c.2.1,c.2.2)))
        (fun c st'=>st'=st/\∃ l k,c=(none,l,k)/\Q (some k) st) st:=by
    intro lo hi hle hin hlo hhi;refine wpS_forRange (I:=fun x c st'=>st'=st/\∃ l k,c=(none,l,k)/\l<=k/\k<=n/\k - l<=n - x/\(∀ i,i<l->B i=true)/\(∀ i,k<=i->i<n->B i=false)) ?step ?fin ⟨rfl,lo,hi,rfl,hle,hin,by (clear hle hh;omega),hlo,hhi⟩
    case fin=>
      rintro c st' ⟨rfl,l,k,rfl,h1,h2,h3,h4,h5⟩;have e:l=k:=by (clear h2 hin hle hh;omega)
      subst e;exact⟨rfl,l,l,rfl,h l h2 h4 h5⟩
    case step=>
      rintro x c st' _ hx ⟨rfl,l,k,rfl,h1,h2,h3,h4,h5⟩;dsimp only;by_cases hge:l ≥ k
      · rw[if_pos hge];have e:l=k:=by (clear h3 h2 hx hin hle hh;omega)
        subst e;exact wpS_pure ⟨rfl,l,l,rfl,h l h2 h4 h5⟩
      · rw[if_neg hge];have hm:l+(k - l) / 2<k:=by (clear h3 h2 h1 hx hin hle hh;omega)
        refine wpS_bind (bey _ (by (clear hm h3 h1 hx hin hle hh;omega)) ?_)
        cases e:B (l+(k - l) / 2) with
        | true=>
          simp only[if_true];exact wpS_pure ⟨rfl,_,_,rfl,by (clear hm h3 h2 h1 hx hin hle hh;omega),h2,by (clear hm hge h2 h1 hx hin hle hh;omega),fun i hi=>mono i _ (by (clear hm hge h3 h2 h1 hx hin hle hh;omega)) (by (clear hi hm h3 h1 hx hin hle hh;omega)) e,h5⟩
        | false=>
          simp only[YaQ,if_false];exact wpS_pure ⟨rfl,_,_,rfl,by (clear hm hge h3 h2 h1 hx hin hle hh;omega),by (clear hm hge h3 hx hin hle hh;omega),by (clear hm hge h2 h1 hx hin hle hh;omega),h4,fun i h6 h7=>monoF _ i h6 h7 e⟩
  refine wpS_bind (bey hint hh ?_);dsimp only
  cases e0:B hint with
  | true=>
    simp only[if_true];refine wpS_bind (wpS_mono (wpS_forRange (I:=fun x c st'=>st'=st/\∃ l k,c=((none:Option (Option Nat)),l,k)/\l<k/\x+1<=k/\hint+l<n/\B (hint+l)=true)
      (Q:=fun c st'=>st'=st/\∃ l k,c=((none:Option (Option Nat)),l,k)/\l<k/\hint+l<n/\B (hint+l)=true/\(n - hint<=k∨(hint+k<n/\B (hint+k)=false))) ?step ?fin ⟨rfl,0,1,rfl,by (clear hh;omega),by (clear hh;omega),hh,e0⟩) ?post)
    case fin=>
      rintro c st' ⟨rfl,l,k,rfl,h1,h2,h3,h4⟩;exact⟨rfl,l,k,rfl,h1,h3,h4,.inl (by (clear h3 h1 hh;omega))⟩
    case step=>
      rintro x c st' _ hx ⟨rfl,l,k,rfl,h1,h2,h3,h4⟩;dsimp only;by_cases hge:k ≥ n - hint
      · rw[if_pos hge];exact wpS_pure ⟨rfl,l,k,rfl,h1,h3,h4,.inl hge⟩
      · rw[if_neg hge];refine wpS_bind (bey (hint+k) (by (clear h3 h2 h1 hx hh;omega)) ?_)
        cases e:B (hint+k) with
        | true=>
          simp only[YcE,YaQ,if_false];exact wpS_pure ⟨rfl,_,_,rfl,by (clear hge h3 h2 h1 hx hh;omega),by (clear hge h3 h1 hx hh;omega),by (clear h3 h2 h1 hx hh;omega),e⟩
        | false=>
          simp only[Bool.not_false,if_true];exact wpS_pure ⟨rfl,l,k,rfl,h1,h3,h4,.inr ⟨by (clear h3 h2 h1 hx hh;omega),e⟩⟩
    case post=>
      rintro c st' ⟨rfl,l,k,rfl,h1,h3,h4,h5⟩;dsimp only;refine wpS_bind (wpS_mono (jp (hint+l+1) (hint+min k (n - hint)) (by (clear h5 hh;omega)) (by (clear h5 h3 h1;omega)) (fun i hi=>mono i (hint+l) (by (clear h5 h3 h1 hh;omega)) h3 h4) (fun i h6 h7=>?_)) ?_)
      · rcases h5 with h5 | ⟨h5,h8⟩
        · (clear h3 h1 hh;omega)
        · exact monoF (hint+k) i (by (clear h5 h3 h1 hh;omega)) h7 h8
      · rintro c st' ⟨rfl,l,k,rfl,q⟩;exact wpS_pure q
  | false=>
    simp only[YaQ,if_false];refine wpS_bind (wpS_mono (wpS_forRange (I:=fun x c st'=>st'=st/\∃ l k,c=((none:Option (Option Nat)),l,k)/\l<k/\x+1<=k/\l<=hint/\B (hint - l)=false)
      (Q:=fun c st'=>st'=st/\∃ l k,c=((none:Option (Option Nat)),l,k)/\l<k/\l<=hint/\B (hint - l)=false/\(hint+1<=k∨(k<=hint/\B (hint - k)=true))) ?step ?fin ⟨rfl,0,1,rfl,by (clear hh;omega),by (clear hh;omega),by (clear hh;omega),e0⟩) ?post)
    case fin=>
      rintro c st' ⟨rfl,l,k,rfl,h1,h2,h3,h4⟩;exact⟨rfl,l,k,rfl,h1,h3,h4,.inl (by (clear h3 h1;omega))⟩
    case step=>
      rintro x c st' _ hx ⟨rfl,l,k,rfl,h1,h2,h3,h4⟩;dsimp only;by_cases hge:k ≥ hint+1
      · rw[if_pos hge];exact wpS_pure ⟨rfl,l,k,rfl,h1,h3,h4,.inl hge⟩
      · rw[if_neg hge];refine wpS_bind (bey (hint - k) (by (clear hge h3 h2 h1 hx;omega)) ?_)
        cases e:B (hint - k) with
        | true=>
          simp only[if_true];exact wpS_pure ⟨rfl,l,k,rfl,h1,h3,h4,.inr ⟨by (clear h3 h2 h1 hx hh;omega),e⟩⟩
        | false=>
          simp only[YaQ,if_false];exact wpS_pure ⟨rfl,_,_,rfl,by (clear hge h3 h2 h1 hx hh;omega),by (clear hge h3 h1 hx hh;omega),by (clear h3 h2 h1 hx hh;omega),e⟩
    case post=>
      rintro c st' ⟨rfl,l,k,rfl,h1,h3,h4,h5⟩;dsimp only;refine wpS_bind (wpS_mono (jp (hint+1 - min k (hint+1)) (hint - l) (by (clear h5 h3 hh;omega)) (by (clear h5 h3 h1;omega)) (fun i hi=>?_) (fun i h6 h7=>monoF _ i h6 h7 h4)) ?_)
      · rcases h5 with h5 | ⟨h5,h8⟩
        · (clear h3 h1 hh;omega)
        · exact mono i (hint - k) (by (clear h5 h3 h1 hh;omega)) (by (clear h5 hi h3 h1;omega)) h8
      · rintro c st' ⟨rfl,l,k,rfl,q⟩;exact wpS_pure q
end
section
variable {O:KO}{a b out:List Keyed}{ia ib:Nat}{x:Keyed}
theorem Zgj {l:List Keyed}{i:Nat}{x:Keyed} (e:l[i]?=some x):l.drop i=x::l.drop (i+1):=by
 obtain⟨h,rfl⟩:=Yab.mp e;exact Ycs h
theorem Zhd (a:Array Keyed) (i:Nat):(a.extract i a.size).toList=a.toList.drop i:=by
 rw[YcW];simp only[YeV];exact Ya2 (by simp)
theorem Zgi (a:Array Keyed) (i k:Nat):(a.extract i (i+k)).toList=(a.toList.drop i).take k:=by
 rw[YcW];simp[YeV]
structure MI (O:KO) (a b out:List Keyed) (ia ib:Nat):Prop where
 perm:(out++(a.drop ia++b.drop ib)).Perm (a++b)
 srt:O.Srt out
 le:∀ x∈out,∀ y∈a.drop ia++b.drop ib,O.le x y
theorem Zgy (h:O.Srt out) (hx:∀ y∈out,O.le y x):O.Srt (out++[x]) :=
 Ya0.mpr ⟨h,YeO _ _,fun y hy z hz=>by rw[YaD.mp hz];exact hx y hy⟩
theorem MI.takeA (h:MI O a b out ia ib) (sa:O.Srt a) (e:a[ia]?=some x) (hb:∀ y∈b.drop ib,O.le x y):MI O a b (out++[x]) (ia+1) ib:=by
 have ed:=Zgj e;have sd:O.Srt (x::a.drop (ia+1)):=ed ▸ sa.drop;refine⟨?_,Zgy h.srt fun y hy=>h.le y hy x (by rw[ed];simp),fun y hy z hz=>?_⟩
 ·have p:=h.perm;rw[ed] at p;simpa using p
 ·rcases Yam.mp hy with hy | hy
  ·refine h.le y hy z ?_;rw[ed];rcases Yam.mp hz with hz | hz
   ·exact YaF _ (Yag _ hz)
   ·exact Yao _ hz
  ·rw[YaD.mp hy];rcases Yam.mp hz with hz | hz
   ·exact (Ya3.mp sd).1 z hz
   ·exact hb z hz
theorem MI.takeB (h:MI O a b out ia ib) (sb:O.Srt b) (e:b[ib]?=some x) (ha:∀ y∈a.drop ia,O.le x y):MI O a b (out++[x]) ia (ib+1):=by
 have ed:=Zgj e;have sd:O.Srt (x::b.drop (ib+1)):=ed ▸ sb.drop;refine⟨?_,Zgy h.srt fun y hy=>h.le y hy x (by rw[ed];simp),fun y hy z hz=>?_⟩
 ·have p:=h.perm;rw[ed] at p;refine Ydj ?_ p;rw[Yav];exact YbK _ (show List.Perm (x::(a.drop ia++b.drop (ib+1))) _ from Ydp.symm)
 ·rcases Yam.mp hy with hy | hy
  ·refine h.le y hy z ?_;rw[ed];rcases Yam.mp hz with hz | hz
   ·exact YaF _ hz
   ·exact Yao _ (Yag _ hz)
  ·rw[YaD.mp hy];rcases Yam.mp hz with hz | hz
   ·exact ha z hz
   ·exact (Ya3.mp sd).1 z hz
theorem Zfb {l:List Keyed}{i k:Nat}{x:Keyed} (e:l[i+k]?=some x):(l.drop i).take (k+1)=(l.drop i).take k++[x]:=by
 rw[List.take_succ,Yda,e];rfl
theorem MI.takeAs (h:MI O a b out ia ib) (sa:O.Srt a):∀ k,ia+k<=a.length->(∀ i z,i<k->a[ia+i]?=some z->∀ y∈b.drop ib,O.le z y)->MI O a b (out++(a.drop ia).take k) (ia+k) ib
 | 0,_,_=>by simpa using h
 | k+1,hl,hz=>by
  have q:=MI.takeAs h sa k (by omega) fun i z hi e=>hz i z (by (clear hl;omega)) e;have e:a[ia+k]?=some a[ia+k]:=Yad (by omega);have r:=q.takeA sa e (hz k _ (by omega) e);rw[Yav,<- Zfb e] at r;exact r
theorem MI.takeBs (h:MI O a b out ia ib) (sb:O.Srt b):∀ k,ib+k<=b.length->(∀ i z,i<k->b[ib+i]?=some z->∀ y∈a.drop ia,O.le z y)->MI O a b (out++(b.drop ib).take k) ia (ib+k)
 | 0,_,_=>by simpa using h
 | k+1,hl,hz=>by
  have q:=MI.takeBs h sb k (by omega) fun i z hi e=>hz i z (by (clear hl;omega)) e;have e:b[ib+k]?=some b[ib+k]:=Yad (by omega);have r:=q.takeB sb e (hz k _ (by omega) e);rw[Yav,<- Zfb e] at r;exact r
def Mg (O:KO) (a b r:List Keyed):Prop:=r.Perm (a++b)/\O.Srt r
theorem MI.doneA (h:MI O a b out ia ib) (sa:O.Srt a) (e:b.length<=ib):Mg O a b (out++a.drop ia++b.drop ib):=by
 have eb:b.drop ib=[]:=Ydu e;refine⟨by rw[Yav];exact h.perm,?_⟩;rw[eb,Ybb];exact Ya0.mpr ⟨h.srt,sa.drop,fun x hx y hy=>h.le x hx y (YaF _ hy)⟩
theorem MI.doneB (h:MI O a b out ia ib) (sa:O.Srt a) (sb:O.Srt b) (hl:∀ x∈b.drop ib,∀ y∈a.drop ia,O.le x y):Mg O a b (out++b.drop ib++a.drop ia):=by
 refine⟨by rw[Yav];exact (YbK _ YcO).trans h.perm,?_⟩;rw[Yav];refine Ya0.mpr ⟨h.srt,Ya0.mpr ⟨sb.drop,sa.drop,hl⟩,fun x hx y hy=>h.le x hx y ?_⟩;rcases Yam.mp hy with hy | hy
 ·exact Yao _ hy
 ·exact YaF _ hy
end
section
variable {prog:Program}{w:World}{A:Around}{E:Value->Shared->Prop}{s:Shared}{O:KO}{knd:SortKind}{ok:Keyed->Prop}{st:SortSt}
theorem ZaB {α:Type}{c:Prop} [Decidable c] {p q:StateT SortSt Sem α}{Q:α->SortSt->Prop} (h1:c->wpS (model prog w) A E s p Q st) (h2:¬ c->wpS (model prog w) A E s q Q st):wpS (model prog w) A E s (if c then p else q) Q st:=by
 by_cases h:c
 ·rw[if_pos h];exact h1 h
 ·rw[if_neg h];exact h2 h
def Gal (st st':SortSt):Prop:=kindOf st'=kindOf st/\arrOf st'=arrOf st/\pendingOf st'=pendingOf st/\failedOf st'=failedOf st
theorem Gal.refl:Gal st st:=⟨rfl,rfl,rfl,rfl⟩
theorem Za5 {g:Nat}{st1:SortSt}{Q:Unit->SortSt->Prop} (hG:Gal st st1) (h:∀ st',Gal st st'->Q () st'):wpS (model prog w) A E s (Zhx g) Q st1 :=
 wpS_modify (h _ ⟨hG.1,hG.2.1,hG.2.2.1,hG.2.2.2⟩)
theorem Zcj {l:List Keyed} (sl:O.Srt l) {i j:Nat}{x y:Keyed} (hij:i<=j) (hx:l[i]?=some x) (hy:l[j]?=some y):O.le x y:=by
 obtain⟨h1,rfl⟩:=Yab.mp hx;obtain⟨h2,rfl⟩:=Yab.mp hy;rcases Yft hij with h | h
 ·exact YeI.mp sl i j h1 h2 h
 ·subst h;exact KO.le_refl
theorem ZaV {l:List Keyed}{i:Nat}{y:Keyed} (h:y∈l.drop i):∃ j,i<=j/\l[j]?=some y:=by
 obtain⟨j,hj,e⟩:=Ye7.mp h;exact⟨i+j,by omega,by rw[<- Yda,Yad hj,e]⟩
theorem ZcS {l:List Keyed} (sl:O.Srt l) {i:Nat}{x:Keyed} (hx:l[i]?=some x):∀ y∈l.drop i,O.le x y:=fun y hy=>
 let ⟨_,hj,e⟩:=ZaV hy
 Zcj sl hj hx e
theorem ZaH {a:Array Keyed}{i:Nat} (h:i<a.size):∃ x,a[i]?=some x/\a.toList[i]?=some x/\x∈a.toList :=
 ⟨a[i],Ycq h,by rw[Yan];exact Ycq h,by simp⟩
theorem Zem {a:Array Keyed}{i:Nat}{x:Keyed} (h:a[i]?=some x):a.toList[i]?=some x:=by rw[Yan];exact h
theorem Zb1 {key:Keyed}{a:Array Keyed}{i n hint:Nat}{Q:Option Nat->SortSt->Prop} (hA:Asks prog w A s O knd ok) (hk:kindOf st=knd) (hkey:ok key) (oka:∀ x∈a.toList,ok x) (hi:i+n<=a.size)
  (sa:∀ p q x y,i<=p->p<=q->q<i+n->a[p]?=some x->a[q]?=some y->O.le x y) (hh:hint<n)
  (h:∀ k,k<=n->(∀ j z,j<k->a[i+j]?=some z->O.le z key)->(∀ j z,k<=j->j<n->a[i+j]?=some z->O.blt (O.ky key) (O.ky z)=true)->Q (some k) st):wpS (model prog w) A E s (Zge false key a i n hint) Q st:=by
 refine ZdS hA hk hkey (fun j=>!(O.blt (O.ky key) (O.ky (a.getD (i+j) key)))) ?_ ?_ hh ?_
 ·intro j hj;obtain⟨x,e1,_,e3⟩:=ZaH (a:=a) (i:=i+j) (by (clear hh;omega));refine⟨x,e1,oka x e3,?_⟩;have e4:a.getD (i+j) key=x:=by rw[Ya6,e1];rfl
  simp[e4]
 ·intro p q hpq hq hb;obtain⟨x,e1,_,_⟩:=ZaH (a:=a) (i:=i+p) (by (clear hh;omega));obtain⟨y,f1,_,_⟩:=ZaH (a:=a) (i:=i+q) (by (clear hpq hh;omega));have e4:a.getD (i+p) key=x:=by rw[Ya6,e1];rfl
  have f4:a.getD (i+q) key=y:=by rw[Ya6,f1];rfl
  rw[f4] at hb;rw[e4];have z:O.le x key:=KO.le_trans (sa _ _ x y (by (clear hq hpq hh hi;omega)) (by (clear hq hh hi;omega)) (by (clear hpq hh hi;omega)) e1 f1) (show O.blt _ _=false by simpa using hb);have z:O.blt (O.ky key) (O.ky x)=false:=z;simpa using z
 ·intro k hk1 h1 h2;refine h k hk1 (fun j z hj e=>?_) (fun j z hj hj2 e=>?_)
  ·have e4:a.getD (i+j) key=z:=by rw[Ya6,e];rfl
   have:=h1 j hj;rw[e4] at this;exact (show O.blt _ _=false by simpa using this)
  ·have e4:a.getD (i+j) key=z:=by rw[Ya6,e];rfl
   have:=h2 j hj hj2;rw[e4] at this;simpa using this
theorem Zbb {key:Keyed}{a:Array Keyed}{i n hint:Nat}{Q:Option Nat->SortSt->Prop} (hA:Asks prog w A s O knd ok) (hk:kindOf st=knd) (hkey:ok key) (oka:∀ x∈a.toList,ok x) (hi:i+n<=a.size)
  (sa:∀ p q x y,i<=p->p<=q->q<i+n->a[p]?=some x->a[q]?=some y->O.le x y) (hh:hint<n)
  (h:∀ k,k<=n->(∀ j z,j<k->a[i+j]?=some z->O.blt (O.ky z) (O.ky key)=true)->(∀ j z,k<=j->j<n->a[i+j]?=some z->O.le key z)->Q (some k) st):wpS (model prog w) A E s (Zge true key a i n hint) Q st:=by
 refine ZdS hA hk hkey (fun j=>O.blt (O.ky (a.getD (i+j) key)) (O.ky key)) ?_ ?_ hh ?_
 ·intro j hj;obtain⟨x,e1,_,e3⟩:=ZaH (a:=a) (i:=i+j) (by (clear hh;omega));refine⟨x,e1,oka x e3,?_⟩;have e4:a.getD (i+j) key=x:=by rw[Ya6,e1];rfl
  simp[e4]
 ·intro p q hpq hq hb;obtain⟨x,e1,_,_⟩:=ZaH (a:=a) (i:=i+p) (by (clear hh;omega));obtain⟨y,f1,_,_⟩:=ZaH (a:=a) (i:=i+q) (by (clear hpq hh;omega));have e4:a.getD (i+p) key=x:=by rw[Ya6,e1];rfl
  have f4:a.getD (i+q) key=y:=by rw[Ya6,f1];rfl
  rw[f4] at hb;rw[e4];exact KeyOrd.klt_of_kle_of_klt (O:=O.toKeyOrd) (sa _ _ x y (by (clear hq hpq hh hi;omega)) (by (clear hq hh hi;omega)) (by (clear hpq hh hi;omega)) e1 f1) hb
 ·intro k hk1 h1 h2;refine h k hk1 (fun j z hj e=>?_) (fun j z hj hj2 e=>?_)
  ·have e4:a.getD (i+j) key=z:=by rw[Ya6,e];rfl
   have:=h1 j hj;rw[e4] at this;exact this
  ·have e4:a.getD (i+j) key=z:=by rw[Ya6,e];rfl
   have:=h2 j hj hj2;rw[e4] at this;exact this
theorem srtA {a:Array Keyed} (sa:O.Srt a.toList) (i n:Nat):∀ p q x y,i<=p->p<=q->q<i+n->a[p]?=some x->a[q]?=some y->O.le x y:=fun p q x y _ h _ e1 e2=>Zcj sa h (Zem e1) (Zem e2)
theorem ZfN {a b:Array Keyed}{Q:Array Keyed->SortSt->Prop} (hA:Asks prog w A s O knd ok) (hk:kindOf st=knd) (oka:∀ x∈a.toList,ok x) (okb:∀ x∈b.toList,ok x) (sa:O.Srt a.toList) (sb:O.Srt b.toList) (ha:1<=a.size) (hb:1<=b.size)
  (hfirst:∀ y,b[0]?=some y->∀ x∈a.toList,O.le y x) (hlast:∀ z,a[a.size - 1]?=some z->∀ y∈b.toList,O.blt (O.ky y) (O.ky z)=true)
  (h:∀ r st',Gal st st'->Mg O a.toList b.toList r.toList->Q r st'):wpS (model prog w) A E s (ZkK a b) Q st:=by
 obtain⟨b0,eb0,eb0',_⟩:=ZaH (a:=b) (i:=0) (by (clear ha;omega));have done:∀ {out:Array Keyed}{ia ib:Nat},MI O a.toList b.toList out.toList ia ib->b.size<=ib->Mg O a.toList b.toList (out++a.extract ia a.size++b.extract ib b.size).toList:=by
  intro out ia ib m hl;rw[Ya9,Ya9,Zhd,Zhd];exact m.doneA sa hl
 have last:∀ {out:Array Keyed}{ia ib:Nat},MI O a.toList b.toList out.toList ia ib->ia+1=a.size->Mg O a.toList b.toList (out++b.extract ib b.size++a.extract ia a.size).toList:=by
  intro out ia ib m hl;rw[Ya9,Ya9,Zhd,Zhd];refine m.doneB sa sb fun x hx y hy=>?_;obtain⟨j,hj,e⟩:=ZaV hy;have hj2:j<a.size:=(Yab.mp e).1
  have e2:j=a.size - 1:=by (clear hb ha;omega)
  rw[e2] at e;rw[Yan] at e;exact KO.le_of_lt (hlast y e x (Yba hx))
 have pB:∀ {out:Array Keyed}{ia ib:Nat}{y:Keyed},MI O a.toList b.toList out.toList ia ib->b[ib]?=some y->(∀ z∈a.toList.drop ia,O.le y z)->MI O a.toList b.toList (out.push y).toList ia (ib+1):=by
  intro out ia ib y m e hz;rw[YcM];exact m.takeB sb (Zem e) hz
 have pA:∀ {out:Array Keyed}{ia ib:Nat}{y:Keyed},MI O a.toList b.toList out.toList ia ib->a[ia]?=some y->(∀ z∈b.toList.drop ib,O.le y z)->MI O a.toList b.toList (out.push y).toList (ia+1) ib:=by
  intro out ia ib y m e hz;rw[YcM];exact m.takeA sa (Zem e) hz
 refine wpS_bind (wpS_lift (wpAny_rule ⟨rfl,?_⟩));refine wpS_bind (Zas eb0 ?_);have m0:MI O a.toList b.toList #[b0].toList 0 1 :=
  MI.takeB (out:=[]) (ib:=0) ⟨by simp,Ycd,fun x hx=>by cases hx⟩ sb eb0' (by simpa using hfirst b0 eb0)
 dsimp only;by_cases c1:1=b.size
 ·rw[if_pos (by simpa using c1)];exact wpS_pure (h _ _ Gal.refl (done m0 (by (clear hb ha;omega))))
 rw[if_neg (by simpa using c1)];by_cases c2:0+1=a.size
 ·rw[if_pos (by simpa using c2)];exact wpS_pure (h _ _ Gal.refl (last m0 (by (clear c1 hb ha;omega))))
 rw[if_neg (by simpa using c2)];refine wpS_bind (wpS_get ?_);refine wpS_bind (wpS_mono (wpS_forRange
  (I:=fun x c st'=>Gal st st'/\∃ (out:Array Keyed) (ia ib g:Nat),c=((none:Option (Array Keyed)),out,ia,ib,g)/\MI O a.toList b.toList out.toList ia ib/\ia+1<a.size/\ib<b.size/\x<=ia+ib)
  (Q:=fun c st'=>Gal st st'/\∃ (r out:Array Keyed) (ia ib g:Nat),c=(some r,out,ia,ib,g)/\Mg O a.toList b.toList r.toList) ?step ?fin ⟨Gal.refl,#[b0],0,1,gallopOf st,rfl,m0,by (clear c1 hb;omega),by (clear c2 ha;omega),by (clear c2 c1 hb ha;omega)⟩) ?post)
 case fin=>
  rintro c st' ⟨_,out,ia,ib,g,rfl,_,h1,h2,h3⟩
  (clear c2 c1 hb ha;omega)
 case post=>
  rintro c st' ⟨hG,r,out,ia,ib,g,rfl,hm⟩;exact wpS_pure (h r st' hG hm)
 case step=>
  rintro x c st1 _ hx ⟨hG1,out,ia,ib,g,rfl,hm,h1,h2,h3⟩;dsimp only;have hk1:kindOf st1=knd:=hG1.1.trans hk;refine wpS_bind (wpS_mono (wpS_forRange
   (I:=fun y c st'=>st'=st1/\∃ (out:Array Keyed) (ia ib p q:Nat),c=((none:Option (Array Keyed)),out,ia,ib,p,q)/\MI O a.toList b.toList out.toList ia ib/\ia+1<a.size/\ib<b.size/\x+y<=ia+ib)
   (Q:=fun c st'=>st'=st1/\((∃ (r out:Array Keyed) (ia ib p q:Nat),c=(some r,out,ia,ib,p,q)/\Mg O a.toList b.toList r.toList) ∨
    (∃ (out:Array Keyed) (ia ib p q:Nat),c=(none,out,ia,ib,p,q)/\MI O a.toList b.toList out.toList ia ib/\ia+1<a.size/\ib<b.size/\x+1<=ia+ib))) ?step1 ?fin1 ⟨rfl,out,ia,ib,0,0,rfl,hm,h1,h2,by (clear h2 h1 hx c2 c1 hb ha;omega)⟩) ?post1)
  case fin1=>
   rintro c st' ⟨rfl,out,ia,ib,p,q,rfl,hm,h1,h2,h3⟩;exact⟨rfl,.inr ⟨out,ia,ib,p,q,rfl,hm,h1,h2,by (clear h2 h1 hx c2 c1 hb ha;omega)⟩⟩
  case step1=>
   rintro y c st' _ hy ⟨rfl,out,ia,ib,p,q,rfl,hm,h1,h2,h3⟩;dsimp only;obtain⟨u,eu,eu',mu⟩:=ZaH (a:=b) h2;obtain⟨v,ev,ev',mv⟩:=ZaH (a:=a) (i:=ia) (by (clear h3 h2 hy hx c2 c1 hb ha;omega));refine wpS_bind (Zas eu (wpS_bind (Zas ev ?_)));refine wpS_bind (Ze2 hA hk1 (okb u mu) (oka v mv) ?_)
   cases e:O.blt (O.ky u) (O.ky v) with
   | true=>
    simp only[if_true];refine wpS_bind (Zas eu ?_);have m2:=pB hm eu fun z hz=>KO.le_trans (KO.le_of_lt e) (ZcS sa ev' z hz);by_cases c3:ib+1=b.size
    ·rw[if_pos (by simpa using c3)];exact wpS_pure ⟨rfl,.inl ⟨_,_,_,_,_,_,rfl,done m2 (by (clear h3 h2 h1 hy hx c2 c1 hb ha;omega))⟩⟩
    rw[if_neg (by simpa using c3)];refine ZaB (fun _=>?_) (fun _=>?_)
    ·exact wpS_pure ⟨rfl,.inr ⟨_,_,_,_,_,rfl,m2,by (clear c3 h3 h2 hy hx c2 c1 hb ha;omega),by (clear h3 h1 hy hx c2 c1 hb ha;omega),by (clear c3 h2 h1 hy hx c2 c1 hb ha;omega)⟩⟩
    ·exact wpS_pure ⟨rfl,_,_,_,_,_,rfl,m2,by (clear c3 h3 h2 hy hx c2 c1 hb ha;omega),by (clear h3 h1 hy hx c2 c1 hb ha;omega),by (clear c3 h2 h1 hy hx c2 c1 hb ha;omega)⟩
   | false=>
    simp only[YaQ,if_false];refine wpS_bind (Zas ev ?_);have m2:=pA hm ev fun z hz=>KO.le_trans (show O.le v u from e) (ZcS sb eu' z hz);by_cases c3:ia+1+1=a.size
    ·rw[if_pos (by simpa using c3)];exact wpS_pure ⟨rfl,.inl ⟨_,_,_,_,_,_,rfl,last m2 c3⟩⟩
    rw[if_neg (by simpa using c3)];refine ZaB (fun _=>?_) (fun _=>?_)
    ·exact wpS_pure ⟨rfl,.inr ⟨_,_,_,_,_,rfl,m2,by (clear h3 h2 hy hx c2 c1 hb ha;omega),by (clear c3 h3 h1 hy hx c2 c1 hb ha;omega),by (clear c3 h2 h1 hy hx c2 c1 hb ha;omega)⟩⟩
    ·exact wpS_pure ⟨rfl,_,_,_,_,_,rfl,m2,by (clear h3 h2 hy hx c2 c1 hb ha;omega),by (clear c3 h3 h1 hy hx c2 c1 hb ha;omega),by (clear c3 h2 h1 hy hx c2 c1 hb ha;omega)⟩
  case post1=>
   rintro c st' ⟨rfl,⟨r,out,ia,ib,p,q,rfl,hr⟩ | ⟨out,ia,ib,p,q,rfl,hm,h1,h2,h3⟩⟩
   ·exact wpS_pure ⟨hG1,_,_,_,_,_,rfl,hr⟩
   dsimp only;refine wpS_bind (wpS_lift (wpAny_rule ⟨rfl,?_⟩));refine wpS_bind (wpS_mono (wpS_forRange
    (I:=fun y c st'=>Gal st st'/\∃ (out:Array Keyed) (ia ib g p q:Nat),c=((none:Option (Array Keyed)),out,ia,ib,g,p,q)/\MI O a.toList b.toList out.toList ia ib/\ia+1<a.size/\ib<b.size/\x+1<=ia+ib)
    (Q:=fun c st'=>Gal st st'/\((∃ (r out:Array Keyed) (ia ib g p q:Nat),c=(some r,out,ia,ib,g,p,q)/\Mg O a.toList b.toList r.toList) ∨
     (∃ (out:Array Keyed) (ia ib g p q:Nat),c=(none,out,ia,ib,g,p,q)/\MI O a.toList b.toList out.toList ia ib/\ia+1<a.size/\ib<b.size/\x+1<=ia+ib))) ?step2 ?fin2 ⟨hG1,out,ia,ib,g+1,p,q,rfl,hm,h1,h2,h3⟩) ?post2)
   case fin2=>
    rintro c st' ⟨hG,out,ia,ib,g,p,q,rfl,hm,h1,h2,h3⟩;exact⟨hG,.inr ⟨out,ia,ib,g,p,q,rfl,hm,h1,h2,h3⟩⟩
   case post2=>
    rintro c st' ⟨hG,⟨r,out,ia,ib,g,p,q,rfl,hr⟩ | ⟨out,ia,ib,g,p,q,rfl,hm,h1,h2,h3⟩⟩
    ·exact wpS_pure ⟨hG,_,_,_,_,_,rfl,hr⟩
    exact wpS_bind (Za5 hG fun st2 hG2=>wpS_pure ⟨hG2,_,_,_,_,rfl,hm,h1,h2,h3⟩)
   case step2=>
    rintro y c st' _ hy ⟨hG,out,ia,ib,g,p,q,rfl,hm,h1,h2,h3⟩;dsimp only;obtain⟨u,eu,eu',mu⟩:=ZaH (a:=b) h2;refine ZaB (fun cg=>?_) (fun cg=>?_)
    all_goals
     refine wpS_bind (Za5 hG fun st2 hG2=>wpS_bind (Zas eu ?_));refine wpS_bind (Zb1 hA (hG2.1.trans hk) (okb u mu) oka (by (clear cg h3 h2 hy hx c2 c1 hb ha;omega)) (srtA sa _ _) (by (clear cg h3 h2 hy hx c2 c1 hb ha;omega)) fun k hk1 b1 b2=>?_);have m3:=hm.takeAs sa k (by simp;(clear cg h3 h2 hy hx c2 c1 hb ha;omega)) fun i z hi e y hy=>KO.le_trans (b1 i z hi (by rw[<- Yan];exact e)) (ZcS sb eu' y hy);have hu:∀ z∈a.toList.drop (ia+k),O.le u z:=by
      intro z hz;obtain⟨j,hj,e⟩:=ZaV hz;have hj2:j<a.size:=(Yab.mp e).1
      refine KO.le_of_lt (b2 (j - ia) z (by (clear hj2 hk1 cg h3 h2 h1 hy hx c2 c1 hb ha;omega)) (by (clear hj hk1 cg h3 h2 hy hx c2 c1 hb ha;omega)) ?_);rw[show ia+(j - ia)=j by (clear hj2 hk1 cg h3 h2 h1 hy hx c2 c1 hb ha;omega),<- Yan];exact e
     have hka:ia+k<a.size:=by
      rcases Yft hk1 with z | z
      ·(clear hk1 cg h3 h2 h1 hy hx c2 c1 hb ha;omega)
      ·obtain⟨zl,el,_,_⟩:=ZaH (a:=a) (i:=a.size - 1) (by (clear z hk1 cg h3 h2 h1 hy hx c2 c1 hb ha;omega));have q1:=hlast zl el u mu;have q2:=b1 (a.size - 1 - ia) zl (by (clear hk1 cg h3 h2 hy hx c2 c1 hb ha;omega)) (by rw[show ia+(a.size - 1 - ia)=a.size - 1 by (clear z hk1 cg h3 h2 hy hx c2 c1 hb ha;omega)];exact el);rw[show O.blt (O.ky u) (O.ky zl)=false from q2] at q1;cases q1
     dsimp only;by_cases ck:k > 0
     ·rw[if_pos ck];rw[<- Zgi,<- Ya9] at m3;by_cases c3:ia+k+1=a.size
      ·rw[if_pos (by simpa using c3)];exact wpS_pure ⟨hG2,.inl ⟨_,_,_,_,_,_,_,rfl,last m3 c3⟩⟩
      rw[if_neg (by simpa using c3),if_neg (by simp;(clear c3 ck hk1 cg h3 h2 h1 hy hx c2 c1 hb ha;omega))];refine wpS_bind (Zas eu ?_);have m4:=pB m3 eu hu;by_cases c4:ib+1=b.size
      ·rw[if_pos (by simpa using c4)];exact wpS_pure ⟨hG2,.inl ⟨_,_,_,_,_,_,_,rfl,done m4 (by (clear c3 ck hka hk1 cg h3 h2 h1 hy hx c2 c1 hb ha;omega))⟩⟩
      rw[if_neg (by simpa using c4)];obtain⟨v,ev,ev',mv⟩:=ZaH (a:=a) (i:=ia+k) (by (clear c4 c3 ck hk1 cg h3 h2 h1 hy hx c2 c1 hb ha;omega));refine wpS_bind (Zas ev ?_);refine wpS_bind (Zbb hA (hG2.1.trans hk) (oka v mv) okb (by (clear c4 c3 ck hka hk1 cg h3 h1 hy hx c2 c1 hb ha;omega)) (srtA sb _ _) (by (clear c3 ck hka hk1 cg h3 h1 hy hx c2 c1 hb ha;omega)) fun k2 hk2 d1 d2=>?_);have m5:=m4.takeBs sb k2 (by simp;(clear c4 c3 ck hka hk1 cg h3 h1 hy hx c2 c1 hb ha;omega)) fun i z hi e y hy=>KO.le_trans (KO.le_of_lt (d1 i z hi (by rw[<- Yan];exact e))) (ZcS sa ev' y hy);have hv:∀ z∈b.toList.drop (ib+1+k2),O.le v z:=by
       intro z hz;obtain⟨j,hj,e⟩:=ZaV hz;have hj2:j<b.size:=(Yab.mp e).1
       refine d2 (j - (ib+1)) z (by (clear hj2 hk2 c4 c3 ck hka hk1 cg h3 h2 h1 hy hx c2 c1 hb ha;omega)) (by (clear hj hk2 c3 ck hka hk1 cg h3 h1 hy hx c2 c1 hb ha;omega)) ?_;rw[show ib+1+(j - (ib+1))=j by (clear hj2 hk2 c4 c3 ck hka hk1 cg h3 h2 h1 hy hx c2 c1 hb ha;omega),<- Yan];exact e
      dsimp only;by_cases ck2:k2 > 0
      ·rw[if_pos ck2];rw[<- Zgi,<- Ya9] at m5;by_cases c6:ib+1+k2=b.size
       ·rw[if_pos (by simpa using c6)];exact wpS_pure ⟨hG2,.inl ⟨_,_,_,_,_,_,_,rfl,done m5 (by (clear ck2 hk2 c4 c3 ck hka hk1 cg h3 h2 h1 hy hx c2 c1 hb ha;omega))⟩⟩
       rw[if_neg (by simpa using c6)];refine wpS_bind (Zas ev ?_);have m7:=pA m5 ev hv;by_cases c7:ia+k+1+1=a.size
       ·rw[if_pos (by simpa using c7)];exact wpS_pure ⟨hG2,.inl ⟨_,_,_,_,_,_,_,rfl,last m7 c7⟩⟩
       rw[if_neg (by simpa using c7)];refine ZaB (fun _=>?_) (fun _=>?_)
       ·exact wpS_pure ⟨hG2,.inr ⟨_,_,_,_,_,_,rfl,m7,by (clear c6 ck2 hk2 c4 ck hk1 cg h3 h2 h1 hy hx c2 c1 hb ha;omega),by (clear c7 ck2 c4 c3 ck hka hk1 cg h3 h1 hy hx c2 c1 hb ha;omega),by (clear c7 c6 ck2 hk2 c4 c3 ck hka hk1 cg h2 h1 hy hx c2 c1 hb ha;omega)⟩⟩
       ·exact wpS_pure ⟨hG2,_,_,_,_,_,_,rfl,m7,by (clear c6 ck2 hk2 c4 ck hk1 cg h3 h2 h1 hy hx c2 c1 hb ha;omega),by (clear c7 ck2 c4 c3 ck hka hk1 cg h3 h1 hy hx c2 c1 hb ha;omega),by (clear c7 c6 ck2 hk2 c4 c3 ck hka hk1 cg h2 h1 hy hx c2 c1 hb ha;omega)⟩
      ·rw[if_neg ck2];have k0:k2=0:=by (clear hk2 c4 c3 ck hka hk1 cg h3 h2 h1 hy hx c2 c1 hb ha;omega)
       subst k0;rw[Yb5,Ybb] at m5;refine wpS_bind (Zas ev ?_);have m7:=pA m5 ev hv;by_cases c7:ia+k+1+1=a.size
       ·rw[if_pos (by simpa using c7)];exact wpS_pure ⟨hG2,.inl ⟨_,_,_,_,_,_,_,rfl,last m7 c7⟩⟩
       rw[if_neg (by simpa using c7)];refine ZaB (fun _=>?_) (fun _=>?_)
       ·exact wpS_pure ⟨hG2,.inr ⟨_,_,_,_,_,_,rfl,m7,by (clear ck2 hk2 c4 ck hk1 cg h3 h2 h1 hy hx c2 c1 hb ha;omega),by (clear c7 ck2 hk2 c3 ck hka hk1 cg h3 h1 hy hx c2 c1 hb ha;omega),by (clear c7 ck2 hk2 c4 c3 ck hka hk1 cg h2 h1 hy hx c2 c1 hb ha;omega)⟩⟩
       ·exact wpS_pure ⟨hG2,_,_,_,_,_,_,rfl,m7,by (clear ck2 hk2 c4 ck hk1 cg h3 h2 h1 hy hx c2 c1 hb ha;omega),by (clear c7 ck2 hk2 c3 ck hka hk1 cg h3 h1 hy hx c2 c1 hb ha;omega),by (clear c7 ck2 hk2 c4 c3 ck hka hk1 cg h2 h1 hy hx c2 c1 hb ha;omega)⟩
     ·rw[if_neg ck];have k0:k=0:=by (clear hka hk1 cg h3 h2 h1 hy hx c2 c1 hb ha;omega)
      subst k0;rw[Yb5,Ybb] at m3;refine wpS_bind (Zas eu ?_);have m4:=pB m3 eu hu;by_cases c4:ib+1=b.size
      ·rw[if_pos (by simpa using c4)];exact wpS_pure ⟨hG2,.inl ⟨_,_,_,_,_,_,_,rfl,done m4 (by (clear ck hka hk1 cg h3 h2 h1 hy hx c2 c1 hb ha;omega))⟩⟩
      rw[if_neg (by simpa using c4)];obtain⟨v,ev,ev',mv⟩:=ZaH (a:=a) (i:=ia+0) (by (clear c4 ck hka hk1 cg h3 h2 hy hx c2 c1 hb ha;omega));refine wpS_bind (Zas ev ?_);refine wpS_bind (Zbb hA (hG2.1.trans hk) (oka v mv) okb (by (clear c4 ck hka hk1 cg h3 h1 hy hx c2 c1 hb ha;omega)) (srtA sb _ _) (by (clear ck hka hk1 cg h3 h1 hy hx c2 c1 hb ha;omega)) fun k2 hk2 d1 d2=>?_);have m5:=m4.takeBs sb k2 (by simp;(clear c4 ck hka hk1 cg h3 h1 hy hx c2 c1 hb ha;omega)) fun i z hi e y hy=>KO.le_trans (KO.le_of_lt (d1 i z hi (by rw[<- Yan];exact e))) (ZcS sa ev' y hy);have hv:∀ z∈b.toList.drop (ib+1+k2),O.le v z:=by
       intro z hz;obtain⟨j,hj,e⟩:=ZaV hz;have hj2:j<b.size:=(Yab.mp e).1
       refine d2 (j - (ib+1)) z (by (clear hj2 hk2 c4 ck hka hk1 cg h3 h2 h1 hy hx c2 c1 hb ha;omega)) (by (clear hj hk2 ck hka hk1 cg h3 h1 hy hx c2 c1 hb ha;omega)) ?_;rw[show ib+1+(j - (ib+1))=j by (clear hj2 hk2 c4 ck hka hk1 cg h3 h2 h1 hy hx c2 c1 hb ha;omega),<- Yan];exact e
      dsimp only;by_cases ck2:k2 > 0
      ·rw[if_pos ck2];rw[<- Zgi,<- Ya9] at m5;by_cases c6:ib+1+k2=b.size
       ·rw[if_pos (by simpa using c6)];exact wpS_pure ⟨hG2,.inl ⟨_,_,_,_,_,_,_,rfl,done m5 (by (clear ck2 hk2 c4 ck hka hk1 cg h3 h2 h1 hy hx c2 c1 hb ha;omega))⟩⟩
       rw[if_neg (by simpa using c6)];refine wpS_bind (Zas ev ?_);have m7:=pA m5 ev hv;by_cases c7:ia+0+1+1=a.size
       ·rw[if_pos (by simpa using c7)];exact wpS_pure ⟨hG2,.inl ⟨_,_,_,_,_,_,_,rfl,last m7 c7⟩⟩
       rw[if_neg (by simpa using c7)];refine ZaB (fun _=>?_) (fun _=>?_)
       ·exact wpS_pure ⟨hG2,.inr ⟨_,_,_,_,_,_,rfl,m7,by (clear c6 ck2 hk2 c4 ck hka hk1 cg h3 h2 hy hx c2 c1 hb ha;omega),by (clear c7 ck2 c4 ck hka hk1 cg h3 h1 hy hx c2 c1 hb ha;omega),by (clear c7 c6 ck2 hk2 c4 ck hka hk1 cg h2 h1 hy hx c2 c1 hb ha;omega)⟩⟩
       ·exact wpS_pure ⟨hG2,_,_,_,_,_,_,rfl,m7,by (clear c6 ck2 hk2 c4 ck hka hk1 cg h3 h2 hy hx c2 c1 hb ha;omega),by (clear c7 ck2 c4 ck hka hk1 cg h3 h1 hy hx c2 c1 hb ha;omega),by (clear c7 c6 ck2 hk2 c4 ck hka hk1 cg h2 h1 hy hx c2 c1 hb ha;omega)⟩
      ·rw[if_neg ck2];have k0:k2=0:=by (clear hk2 c4 ck hka hk1 cg h3 h2 h1 hy hx c2 c1 hb ha;omega)
       subst k0;rw[Yb5,Ybb] at m5;refine wpS_bind (Zas ev ?_);have m7:=pA m5 ev hv;by_cases c7:ia+0+1+1=a.size
       ·rw[if_pos (by simpa using c7)];exact wpS_pure ⟨hG2,.inl ⟨_,_,_,_,_,_,_,rfl,last m7 c7⟩⟩
       rw[if_neg (by simpa using c7)];refine ZaB (fun _=>?_) (fun _=>?_)
       ·exact wpS_pure ⟨hG2,.inr ⟨_,_,_,_,_,_,rfl,m7,by (clear ck2 hk2 c4 ck hka hk1 cg h3 h2 hy hx c2 c1 hb ha;omega),by (clear c7 ck2 hk2 ck hka hk1 cg h3 h1 hy hx c2 c1 hb ha;omega),by (clear c7 ck2 hk2 c4 ck hka hk1 cg h2 h1 hy hx c2 c1 hb ha;omega)⟩⟩
       ·exact wpS_pure ⟨hG2,_,_,_,_,_,_,rfl,m7,by (clear ck2 hk2 c4 ck hka hk1 cg h3 h2 hy hx c2 c1 hb ha;omega),by (clear c7 ck2 hk2 ck hka hk1 cg h3 h1 hy hx c2 c1 hb ha;omega),by (clear c7 ck2 hk2 c4 ck hka hk1 cg h2 h1 hy hx c2 c1 hb ha;omega)⟩
end
section
variable {O:KO}{a b out:List Keyed}{na nb:Nat}{x:Keyed}
structure MH (O:KO) (a b out:List Keyed) (na nb:Nat):Prop where
 perm:(a.take na++b.take nb++out.reverse).Perm (a++b)
 srt:O.Srt out.reverse
 le:∀ x∈a.take na++b.take nb,∀ y∈out,O.le x y
theorem Zh8 {l:List Keyed}{i:Nat}{x:Keyed} (e:l[i]?=some x):l.take (i+1)=l.take i++[x]:=by
 rw[List.take_succ,e];rfl
theorem MH.takeA (h:MH O a b out (na+1) nb) (sa:O.Srt a) (e:a[na]?=some x) (hb:∀ y∈b.take nb,O.le y x):MH O a b (out++[x]) na nb:=by
 have ed:=Zh8 e;have sd:O.Srt (a.take na++[x]):=ed ▸ sa.take;have hx:x∈a.take (na+1)++b.take nb:=by rw[ed];simp
 refine⟨?_,?_,fun y hy z hz=>?_⟩
 ·have p:=h.perm;rw[ed] at p;refine Ydj ?_ p;rw[Yc1];simp only[YbW,Ydo,Yb6,Yav,List.singleton_append];refine YbK _ ?_;exact (Ydp (a:=x) (l₁:=b.take nb) (l₂:=out.reverse))
 ·rw[Yc1];exact Ya3.mpr ⟨fun y hy=>h.le x hx y (YcV.mp hy),h.srt⟩
 ·rcases Yam.mp hz with hz | hz
  ·refine h.le y ?_ z hz;rw[ed];rcases Yam.mp hy with hy | hy
   ·exact YaF _ (YaF _ hy)
   ·exact Yao _ hy
  ·rw[YaD.mp hz];rcases Yam.mp hy with hy | hy
   ·exact (Ya0.mp sd).2.2 y hy x (by simp)
   ·exact hb y hy
theorem MH.takeB (h:MH O a b out na (nb+1)) (sb:O.Srt b) (e:b[nb]?=some x) (ha:∀ y∈a.take na,O.le y x):MH O a b (out++[x]) na nb:=by
 have ed:=Zh8 e;have sd:O.Srt (b.take nb++[x]):=ed ▸ sb.take;have hx:x∈a.take na++b.take (nb+1):=by rw[ed];simp
 refine⟨?_,?_,fun y hy z hz=>?_⟩
 ·have p:=h.perm;rw[ed] at p;rw[Yc1];simpa using p
 ·rw[Yc1];exact Ya3.mpr ⟨fun y hy=>h.le x hx y (YcV.mp hy),h.srt⟩
 ·rcases Yam.mp hz with hz | hz
  ·refine h.le y ?_ z hz;rw[ed];rcases Yam.mp hy with hy | hy
   ·exact YaF _ hy
   ·exact Yao _ (YaF _ hy)
  ·rw[YaD.mp hz];rcases Yam.mp hy with hy | hy
   ·exact ha y hy
   ·exact (Ya0.mp sd).2.2 y hy x (by simp)
theorem ZgB {l:List Keyed}{i d:Nat}{x:Keyed} (e:l[i]?=some x):(l.drop i).take (d+1)=x::(l.drop (i+1)).take d:=by
 rw[Zgj e];rfl
theorem MH.takeAs (h:MH O a b out na nb) (sa:O.Srt a) (hn:na<=a.length):∀ d,d<=na->(∀ i z,na - d<=i->i<na->a[i]?=some z->∀ y∈b.take nb,O.le y z)->MH O a b (out++((a.drop (na - d)).take d).reverse) (na - d) nb
 | 0,_,_=>by simpa using h
 | d+1,hl,hz=>by
  have q:=MH.takeAs h sa hn d (by (clear hn;omega)) fun i z h1 h2 e=>hz i z (by (clear h2 hl hn;omega)) h2 e;have e:a[na - (d+1)]?=some a[na - (d+1)]:=Yad (by omega);rw[show na - d=na - (d+1)+1 by omega] at q;have r:=q.takeA sa e (hz _ _ (by omega) (by omega) e);rw[Yav,<- YbW,<- ZgB e] at r;exact r
theorem MH.takeBs (h:MH O a b out na nb) (sb:O.Srt b) (hn:nb<=b.length):∀ d,d<=nb->(∀ i z,nb - d<=i->i<nb->b[i]?=some z->∀ y∈a.take na,O.le y z)->MH O a b (out++((b.drop (nb - d)).take d).reverse) na (nb - d)
 | 0,_,_=>by simpa using h
 | d+1,hl,hz=>by
  have q:=MH.takeBs h sb hn d (by (clear hn;omega)) fun i z h1 h2 e=>hz i z (by (clear h2 hl hn;omega)) h2 e;have e:b[nb - (d+1)]?=some b[nb - (d+1)]:=Yad (by omega);rw[show nb - d=nb - (d+1)+1 by omega] at q;have r:=q.takeB sb e (hz _ _ (by omega) (by omega) e);rw[Yav,<- YbW,<- ZgB e] at r;exact r
theorem MH.doneA (h:MH O a b out 0 nb) (sb:O.Srt b):Mg O a b (a.take 0++b.take nb++out.reverse):=by
 refine⟨h.perm,?_⟩;rw[Yb5,Yb6];exact Ya0.mpr ⟨sb.take,h.srt,fun x hx y hy=>h.le x (Yao _ hx) y (YcV.mp hy)⟩
theorem MH.doneB (h:MH O a b out na nb) (sa:O.Srt a) (sb:O.Srt b) (hl:∀ x∈b.take nb,∀ y∈a.take na,O.le x y):Mg O a b (b.take nb++a.take na++out.reverse):=by
 refine⟨(Ydf _ YcO).trans h.perm,?_⟩;refine Ya0.mpr ⟨Ya0.mpr ⟨sb.take,sa.take,hl⟩,h.srt,fun x hx y hy=>h.le x ?_ y (YcV.mp hy)⟩;rcases Yam.mp hx with hx | hx
 ·exact Yao _ hx
 ·exact YaF _ hx
theorem ZaU {l:List Keyed}{i:Nat}{y:Keyed} (h:y∈l.take i):∃ j,j<i/\l[j]?=some y:=by
 obtain⟨j,hj,e⟩:=Ye7.mp h;rw[Yay] at hj;refine⟨j,by omega,?_⟩;rw[YdV] at e;rw[Yad (by omega),e]
theorem Zi4 {l:List Keyed} (sl:O.Srt l) {i:Nat}{x:Keyed} (hx:l[i]?=some x):∀ y∈l.take (i+1),O.le y x:=fun y hy=>
 let ⟨_,hj,e⟩:=ZaU hy
 Zcj sl (by omega) e hx
theorem ZeV (a:Array Keyed) (i:Nat):(a.extract 0 i).toList=a.toList.take i:=by
 rw[YcW];simp[YeV]
theorem ZeU (a:Array Keyed) (i n:Nat):(a.extract i n).toList=(a.toList.drop i).take (n - i):=by
 rw[YcW]
end
section
variable {prog:Program}{w:World}{A:Around}{E:Value->Shared->Prop}{s:Shared}{O:KO}{knd:SortKind}{ok:Keyed->Prop}{st:SortSt}
theorem ZfO {a b:Array Keyed}{Q:Array Keyed->SortSt->Prop} (hA:Asks prog w A s O knd ok) (hk:kindOf st=knd) (oka:∀ x∈a.toList,ok x) (okb:∀ x∈b.toList,ok x) (sa:O.Srt a.toList) (sb:O.Srt b.toList) (ha:1<=a.size) (hb:1<=b.size)
  (hfirst:∀ y,b[0]?=some y->∀ x∈a.toList,O.blt (O.ky y) (O.ky x)=true) (hlast:∀ z,a[a.size - 1]?=some z->∀ y∈b.toList,O.le y z)
  (h:∀ r st',Gal st st'->Mg O a.toList b.toList r.toList->Q r st'):wpS (model prog w) A E s (ZkL a b) Q st:=by
 obtain⟨a0,ea0,ea0',_⟩:=ZaH (a:=a) (i:=a.size - 1) (by (clear hb;omega));have done:∀ {out:Array Keyed}{nb:Nat},MH O a.toList b.toList out.toList 0 nb->Mg O a.toList b.toList (a.extract 0 0++b.extract 0 nb++out.reverse).toList:=by
  intro out nb m;rw[Ya9,Ya9,ZeV,ZeV,Ycn];exact m.doneA sb
 have first:∀ {out:Array Keyed}{na:Nat},MH O a.toList b.toList out.toList na 1->Mg O a.toList b.toList (b.extract 0 1++a.extract 0 na++out.reverse).toList:=by
  intro out na m;rw[Ya9,Ya9,ZeV,ZeV,Ycn];refine m.doneB sa sb fun x hx y hy=>?_;obtain⟨j,hj,e⟩:=ZaU hx;have e2:j=0:=by (clear hb ha;omega)
  rw[e2,Yan] at e;exact KO.le_of_lt (hfirst x e y (Ybk hy))
 have pB:∀ {out:Array Keyed}{na nb:Nat}{y:Keyed},1<=nb->MH O a.toList b.toList out.toList na nb->b[nb - 1]?=some y->(∀ z∈a.toList.take na,O.le z y)->MH O a.toList b.toList (out.push y).toList na (nb - 1):=by
  intro out na nb y hn m e hz;rw[YcM];exact MH.takeB (by rw[show nb - 1+1=nb by (clear hb ha;omega)];exact m) sb (Zem e) hz
 have pA:∀ {out:Array Keyed}{na nb:Nat}{y:Keyed},1<=na->MH O a.toList b.toList out.toList na nb->a[na - 1]?=some y->(∀ z∈b.toList.take nb,O.le z y)->MH O a.toList b.toList (out.push y).toList (na - 1) nb:=by
  intro out na nb y hn m e hz;rw[YcM];exact MH.takeA (by rw[show na - 1+1=na by (clear hb ha;omega)];exact m) sa (Zem e) hz
 have leT:∀ {l:List Keyed}{i:Nat}{x:Keyed},O.Srt l->1<=i->l[i - 1]?=some x->∀ y∈l.take i,O.le y x:=by
  intro l i x sl hi e y hy;exact Zi4 sl e y (by rw[show i - 1+1=i by (clear hb ha;omega)];exact hy)
 refine wpS_bind (wpS_lift (wpAny_rule ⟨rfl,?_⟩));refine wpS_bind (Zas ea0 ?_);have m0:MH O a.toList b.toList #[a0].toList (a.size - 1) b.size:=by
  refine MH.takeA (out:=[]) (na:=a.size - 1) (nb:=b.size) ⟨?_,Ycd,fun x hx y hy=>by cases hy⟩ sa ea0' fun y hy=>hlast a0 ea0 y (Ybk hy);rw[show a.size - 1+1=a.size by (clear hb;omega),Ya2 (by simp),Ya2 (by simp)];simp
 dsimp only;by_cases c1:a.size - 1=0
 ·rw[if_pos (by simpa using c1)];rw[c1] at m0 ⊢;exact wpS_pure (h _ _ Gal.refl (done m0))
 rw[if_neg (by simpa using c1)];by_cases c2:b.size=1
 ·rw[if_pos (by simpa using c2)];rw[c2] at m0;rw[c2];exact wpS_pure (h _ _ Gal.refl (first m0))
 rw[if_neg (by simpa using c2)];refine wpS_bind (wpS_get ?_);refine wpS_bind (wpS_mono (wpS_forRange
  (I:=fun x c st'=>Gal st st'/\∃ (out:Array Keyed) (na nb g:Nat),c=((none:Option (Array Keyed)),na,nb,out,g)/\MH O a.toList b.toList out.toList na nb/\1<=na/\na<=a.size/\2<=nb/\nb<=b.size/\x+na+nb<=a.size+b.size)
  (Q:=fun c st'=>Gal st st'/\∃ (r out:Array Keyed) (na nb g:Nat),c=(some r,na,nb,out,g)/\Mg O a.toList b.toList r.toList) ?step ?fin ⟨Gal.refl,#[a0],a.size - 1,b.size,gallopOf st,rfl,m0,by (clear c2 hb ha;omega),by (clear c2 c1 hb ha;omega),by (clear c1 ha;omega),by (clear c2 c1 hb ha;omega),show 0+(a.size - 1)+b.size<=_ by (clear c2 c1 hb ha;omega)⟩) ?post)
 case fin=>
  rintro c st' ⟨_,out,na,nb,g,rfl,_,h1,h1',h2,h2',h3⟩
  (clear h2' h2 h1' c2 c1 hb ha;omega)
 case post=>
  rintro c st' ⟨hG,r,out,na,nb,g,rfl,hm⟩;exact wpS_pure (h r st' hG hm)
 case step=>
  rintro x c st1 _ hx ⟨hG1,out,na,nb,g,rfl,hm,h1,h1',h2,h2',h3⟩;dsimp only;have hk1:kindOf st1=knd:=hG1.1.trans hk;refine wpS_bind (wpS_mono (wpS_forRange
   (I:=fun y c st'=>st'=st1/\∃ (out:Array Keyed) (na nb p q:Nat),c=((none:Option (Array Keyed)),na,nb,out,p,q)/\MH O a.toList b.toList out.toList na nb/\1<=na/\na<=a.size/\2<=nb/\nb<=b.size/\x+y+na+nb<=a.size+b.size)
   (Q:=fun c st'=>st'=st1/\((∃ (r out:Array Keyed) (na nb p q:Nat),c=(some r,na,nb,out,p,q)/\Mg O a.toList b.toList r.toList) ∨
    (∃ (out:Array Keyed) (na nb p q:Nat),c=(none,na,nb,out,p,q)/\MH O a.toList b.toList out.toList na nb/\1<=na/\na<=a.size/\2<=nb/\nb<=b.size/\x+1+na+nb<=a.size+b.size))) ?step1 ?fin1 ⟨rfl,out,na,nb,0,0,rfl,hm,h1,h1',h2,h2',by (clear h2' h2 h1' h1 hx c2 c1 hb ha;omega)⟩) ?post1)
  case fin1=>
   rintro c st' ⟨rfl,out,na,nb,p,q,rfl,hm,h1,h1',h2,h2',h3⟩;exact⟨rfl,.inr ⟨out,na,nb,p,q,rfl,hm,h1,h1',h2,h2',by (clear h2' h2 h1' h1 hx c2 c1 hb ha;omega)⟩⟩
  case step1=>
   rintro y c st' _ hy ⟨rfl,out,na,nb,p,q,rfl,hm,h1,h1',h2,h2',h3⟩;dsimp only;obtain⟨u,eu,eu',mu⟩:=ZaH (a:=b) (i:=nb - 1) (by (clear h3 h2 h1' h1 hy hx c2 c1 hb ha;omega));obtain⟨v,ev,ev',mv⟩:=ZaH (a:=a) (i:=na - 1) (by (clear h3 h2' h2 h1 hy hx c2 c1 hb ha;omega));refine wpS_bind (Zas eu (wpS_bind (Zas ev ?_)));refine wpS_bind (Ze2 hA hk1 (okb u mu) (oka v mv) ?_)
   cases e:O.blt (O.ky u) (O.ky v) with
   | true=>
    simp only[if_true];refine wpS_bind (Zas ev ?_);have m2:=pA h1 hm ev fun z hz=>KO.le_trans (leT sb (by (clear h3 h2' h1' h1 hy hx c2 c1 hb ha;omega)) eu' z hz) (KO.le_of_lt e);by_cases c3:na - 1=0
    ·rw[if_pos (by simpa using c3)];rw[c3] at m2 ⊢;exact wpS_pure ⟨rfl,.inl ⟨_,_,_,_,_,_,rfl,done m2⟩⟩
    rw[if_neg (by simpa using c3)];refine ZaB (fun _=>?_) (fun _=>?_)
    ·exact wpS_pure ⟨rfl,.inr ⟨_,_,_,_,_,rfl,m2,by (clear h3 h2' h2 h1' h1 hy hx c2 c1 hb ha;omega),by (clear c3 h3 h2' h2 h1 hy hx c2 c1 hb ha;omega),by (clear c3 h3 h2' h1' h1 hy hx c2 c1 hb ha;omega),by (clear c3 h3 h2 h1' h1 hy hx c2 c1 hb ha;omega),by (clear c3 h2' h2 h1' hy hx c2 c1 hb ha;omega)⟩⟩
    ·exact wpS_pure ⟨rfl,_,_,_,_,_,rfl,m2,by (clear h3 h2' h2 h1' h1 hy hx c2 c1 hb ha;omega),by (clear c3 h3 h2' h2 h1 hy hx c2 c1 hb ha;omega),by (clear c3 h3 h2' h1' h1 hy hx c2 c1 hb ha;omega),by (clear c3 h3 h2 h1' h1 hy hx c2 c1 hb ha;omega),by (clear c3 h2' h2 h1' hy hx c2 c1 hb ha;omega)⟩
   | false=>
    simp only[YaQ,if_false];refine wpS_bind (Zas eu ?_);have m2:=pB (by (clear h3 h2' h1' h1 hy hx c2 c1 hb ha;omega)) hm eu fun z hz=>KO.le_trans (leT sa (by (clear h3 h2' h2 h1' hy hx c2 c1 hb ha;omega)) ev' z hz) (show O.le v u from e);by_cases c3:nb - 1=1
    ·rw[if_pos (by simpa using c3)];rw[c3] at m2 ⊢;exact wpS_pure ⟨rfl,.inl ⟨_,_,_,_,_,_,rfl,first m2⟩⟩
    rw[if_neg (by simpa using c3)];refine ZaB (fun _=>?_) (fun _=>?_)
    ·exact wpS_pure ⟨rfl,.inr ⟨_,_,_,_,_,rfl,m2,by (clear c3 h3 h2' h2 h1' hy hx c2 c1 hb ha;omega),by (clear c3 h3 h2' h2 h1 hy hx c2 c1 hb ha;omega),by (clear h3 h2' h1' h1 hy hx c2 c1 hb ha;omega),by (clear c3 h3 h2 h1' h1 hy hx c2 c1 hb ha;omega),by (clear c3 h2' h1' h1 hy hx c2 c1 hb ha;omega)⟩⟩
    ·exact wpS_pure ⟨rfl,_,_,_,_,_,rfl,m2,by (clear c3 h3 h2' h2 h1' hy hx c2 c1 hb ha;omega),by (clear c3 h3 h2' h2 h1 hy hx c2 c1 hb ha;omega),by (clear h3 h2' h1' h1 hy hx c2 c1 hb ha;omega),by (clear c3 h3 h2 h1' h1 hy hx c2 c1 hb ha;omega),by (clear c3 h2' h1' h1 hy hx c2 c1 hb ha;omega)⟩
  case post1=>
   rintro c st' ⟨rfl,⟨r,out,na,nb,p,q,rfl,hr⟩ | ⟨out,na,nb,p,q,rfl,hm,h1,h1',h2,h2',h3⟩⟩
   ·exact wpS_pure ⟨hG1,_,_,_,_,_,rfl,hr⟩
   dsimp only;refine wpS_bind (wpS_lift (wpAny_rule ⟨rfl,?_⟩));refine wpS_bind (wpS_mono (wpS_forRange
    (I:=fun y c st'=>Gal st st'/\∃ (out:Array Keyed) (na nb g p q:Nat),c=((none:Option (Array Keyed)),na,nb,out,g,p,q)/\MH O a.toList b.toList out.toList na nb/\1<=na/\na<=a.size/\2<=nb/\nb<=b.size/\x+1+na+nb<=a.size+b.size)
    (Q:=fun c st'=>Gal st st'/\((∃ (r out:Array Keyed) (na nb g p q:Nat),c=(some r,na,nb,out,g,p,q)/\Mg O a.toList b.toList r.toList) ∨
     (∃ (out:Array Keyed) (na nb g p q:Nat),c=(none,na,nb,out,g,p,q)/\MH O a.toList b.toList out.toList na nb/\1<=na/\na<=a.size/\2<=nb/\nb<=b.size/\x+1+na+nb<=a.size+b.size))) ?step2 ?fin2 ⟨hG1,out,na,nb,g+1,p,q,rfl,hm,h1,h1',h2,h2',h3⟩) ?post2)
   case fin2=>
    rintro c st' ⟨hG,out,na,nb,g,p,q,rfl,hm,h1,h1',h2,h2',h3⟩;exact⟨hG,.inr ⟨out,na,nb,g,p,q,rfl,hm,h1,h1',h2,h2',h3⟩⟩
   case post2=>
    rintro c st' ⟨hG,⟨r,out,na,nb,g,p,q,rfl,hr⟩ | ⟨out,na,nb,g,p,q,rfl,hm,h1,h1',h2,h2',h3⟩⟩
    ·exact wpS_pure ⟨hG,_,_,_,_,_,rfl,hr⟩
    exact wpS_bind (Za5 hG fun st2 hG2=>wpS_pure ⟨hG2,_,_,_,_,rfl,hm,h1,h1',h2,h2',h3⟩)
   case step2=>
    rintro y c st' _ hy ⟨hG,out,na,nb,g,p,q,rfl,hm,h1,h1',h2,h2',h3⟩;dsimp only;obtain⟨u,eu,eu',mu⟩:=ZaH (a:=b) (i:=nb - 1) (by (clear h3 h2 h1' h1 hy hx c2 c1 hb ha;omega));refine ZaB (fun cg=>?_) (fun cg=>?_)
    all_goals
     refine wpS_bind (Za5 hG fun st2 hG2=>wpS_bind (Zas eu ?_));refine wpS_bind (Zb1 hA (hG2.1.trans hk) (okb u mu) oka (by (clear cg h3 h2' h2 h1 hy hx c2 c1 hb ha;omega)) (srtA sa _ _) (by (clear cg h3 h2' h2 h1' hy hx c2 c1 hb ha;omega)) fun k hk1 b1 b2=>?_);have m3:=hm.takeAs sa (by simp;(clear hk1 cg h3 h2' h2 h1 hy hx c2 c1 hb ha;omega)) (na - k) (by (clear hk1 cg h3 h2' h2 h1' h1 hy hx c2 c1 hb ha;omega)) fun i z h6 h7 e y hy=>KO.le_trans (leT sb (by (clear h7 h6 hk1 cg h3 h2' h1' h1 hx c2 c1 hb ha;omega)) eu' y hy) (KO.le_of_lt (b2 i z (by (clear h7 cg h3 h2' h2 h1' h1 hx c2 c1 hb ha;omega)) (by (clear h6 hk1 cg h3 h2' h2 h1' h1 hx c2 c1 hb ha;omega)) (by rw[YbV,<- Yan];exact e)));rw[show na - (na - k)=k by (clear cg h3 h2' h2 h1' h1 hy hx c2 c1 hb ha;omega)] at m3;have hu:∀ z∈a.toList.take k,O.le z u:=by
      intro z hz;obtain⟨j,hj,e⟩:=ZaU hz;refine b1 j z hj ?_;rw[YbV,<- Yan];exact e
     dsimp only;by_cases ck:na - k > 0
     ·rw[if_pos ck];rw[<- ZeU,<- Ycn,<- Ya9] at m3;by_cases c3:k=0
      ·rw[if_pos (by simpa using c3)];rw[c3] at m3 ⊢;exact wpS_pure ⟨hG2,.inl ⟨_,_,_,_,_,_,_,rfl,done m3⟩⟩
      rw[if_neg (by simpa using c3)];refine wpS_bind (Zas eu ?_);have m4:=pB (by (clear c3 ck hk1 cg h3 h2' h1' h1 hy hx c2 c1 hb ha;omega)) m3 eu hu;by_cases c4:nb - 1=1
      ·rw[if_pos (by simpa using c4)];rw[c4] at m4 ⊢;exact wpS_pure ⟨hG2,.inl ⟨_,_,_,_,_,_,_,rfl,first m4⟩⟩
      rw[if_neg (by simpa using c4)];obtain⟨v,ev,ev',mv⟩:=ZaH (a:=a) (i:=k - 1) (by (clear c4 c3 ck cg h3 h2' h2 h1 hy hx c2 c1 hb ha;omega));refine wpS_bind (Zas ev ?_);refine wpS_bind (Zbb hA (hG2.1.trans hk) (oka v mv) okb (by (clear c4 c3 ck hk1 cg h3 h2 h1' h1 hy hx c2 c1 hb ha;omega)) (srtA sb _ _) (by (clear c4 c3 ck hk1 cg h3 h2' h1' h1 hy hx c2 c1 hb ha;omega)) fun k2 hk2 d1 d2=>?_);have hk20:1<=k2:=by
       rcases YdS k2 with z | z
       ·obtain⟨zl,el,_,_⟩:=ZaH (a:=b) (i:=0) (by (clear z hk2 c4 c3 ck hk1 cg h3 h2' h2 h1' h1 hy hx c2 c1 hb ha;omega));have q1:=hfirst zl el v mv;have q2:=d2 0 zl (by (clear hk2 c4 c3 ck hk1 cg h3 h2' h2 h1' h1 hy hx c2 c1 hb ha;omega)) (by (clear z hk2 c4 c3 ck hk1 cg h3 h2' h1' h1 hy hx c2 c1 hb ha;omega)) (by rw[YbV];exact el);rw[show O.blt (O.ky zl) (O.ky v)=false from q2] at q1;cases q1
       ·exact z
      have m5:=m4.takeBs sb (by simp;(clear hk20 hk2 c4 c3 ck hk1 cg h3 h2 h1' h1 hy hx c2 c1 hb ha;omega)) (nb - 1 - k2) (by (clear hk20 hk2 c4 c3 ck hk1 cg h3 h2' h2 h1' h1 hy hx c2 c1 hb ha;omega)) fun i z h6 h7 e y hy=>KO.le_trans (leT sa (by (clear h7 h6 hk20 hk2 c4 ck hk1 cg h3 h2' h2 h1' h1 hx c2 c1 hb ha;omega)) ev' y hy) (d2 i z (by (clear h7 hk20 c4 c3 ck hk1 cg h3 h2' h2 h1' h1 hx c2 c1 hb ha;omega)) (by (clear h6 hk20 hk2 c4 c3 ck hk1 cg h3 h2' h2 h1' h1 hx c2 c1 hb ha;omega)) (by rw[YbV,<- Yan];exact e));rw[show nb - 1 - (nb - 1 - k2)=k2 by (clear hk20 c4 c3 ck hk1 cg h3 h2' h2 h1' h1 hy hx c2 c1 hb ha;omega)] at m5;have hv:∀ z∈b.toList.take k2,O.le z v:=by
       intro z hz;obtain⟨j,hj,e⟩:=ZaU hz;refine KO.le_of_lt (d1 j z hj ?_);rw[YbV,<- Yan];exact e
      dsimp only;by_cases ck2:nb - 1 - k2 > 0
      ·rw[if_pos ck2];rw[<- ZeU,<- Ycn,<- Ya9] at m5;by_cases c6:k2=1
       ·rw[if_pos (by simpa using c6)];rw[c6] at m5 ⊢;exact wpS_pure ⟨hG2,.inl ⟨_,_,_,_,_,_,_,rfl,first m5⟩⟩
       rw[if_neg (by simpa using c6),if_neg (by simp;(clear c6 ck2 hk2 c4 c3 ck hk1 cg h3 h2' h2 h1' h1 hy hx c2 c1 hb ha;omega))];obtain⟨v2,ev2,ev2',mv2⟩:=ZaH (a:=a) (i:=k - 1) (by (clear c6 ck2 hk20 hk2 c4 c3 ck cg h3 h2' h2 h1 hy hx c2 c1 hb ha;omega));refine wpS_bind (Zas ev2 ?_);have ee:v2=v:=YaL (ev2.symm.trans ev);subst ee;have m7:=pA (by (clear c6 ck2 hk20 hk2 c4 ck hk1 cg h3 h2' h2 h1' h1 hy hx c2 c1 hb ha;omega)) m5 ev2 hv;by_cases c7:k - 1=0
       ·rw[if_pos (by simpa using c7)];rw[c7] at m7 ⊢;exact wpS_pure ⟨hG2,.inl ⟨_,_,_,_,_,_,_,rfl,done m7⟩⟩
       rw[if_neg (by simpa using c7)];refine ZaB (fun _=>?_) (fun _=>?_)
       ·exact wpS_pure ⟨hG2,.inr ⟨_,_,_,_,_,_,rfl,m7,by (clear c6 ck2 hk20 hk2 c4 c3 ck hk1 cg h3 h2' h2 h1' h1 hy hx c2 c1 hb ha;omega),by (clear c7 c6 ck2 hk20 hk2 c4 c3 ck cg h3 h2' h2 h1 hy hx c2 c1 hb ha;omega),by (clear c7 ck2 hk2 c4 c3 ck hk1 cg h3 h2' h2 h1' h1 hy hx c2 c1 hb ha;omega),by (clear c7 c6 ck2 hk20 c4 c3 ck hk1 cg h3 h2 h1' h1 hy hx c2 c1 hb ha;omega),by (clear c7 c6 ck2 hk20 c4 c3 ck cg h2' h2 h1' h1 hy hx c2 c1 hb ha;omega)⟩⟩
       ·exact wpS_pure ⟨hG2,_,_,_,_,_,_,rfl,m7,by (clear c6 ck2 hk20 hk2 c4 c3 ck hk1 cg h3 h2' h2 h1' h1 hy hx c2 c1 hb ha;omega),by (clear c7 c6 ck2 hk20 hk2 c4 c3 ck cg h3 h2' h2 h1 hy hx c2 c1 hb ha;omega),by (clear c7 ck2 hk2 c4 c3 ck hk1 cg h3 h2' h2 h1' h1 hy hx c2 c1 hb ha;omega),by (clear c7 c6 ck2 hk20 c4 c3 ck hk1 cg h3 h2 h1' h1 hy hx c2 c1 hb ha;omega),by (clear c7 c6 ck2 hk20 c4 c3 ck cg h2' h2 h1' h1 hy hx c2 c1 hb ha;omega)⟩
      ·rw[if_neg ck2];have k0:nb - 1=k2:=by (clear hk20 c4 c3 ck hk1 cg h3 h2' h2 h1' h1 hy hx c2 c1 hb ha;omega)
       rw[show nb - 1 - k2=0 by (clear k0 hk20 hk2 c4 c3 ck hk1 cg h3 h2' h2 h1' h1 hy hx c2 c1 hb ha;omega),Yb5,Ydo,Ybb] at m5;rw[k0];obtain⟨v2,ev2,ev2',mv2⟩:=ZaH (a:=a) (i:=k - 1) (by (clear k0 ck2 hk20 hk2 c4 c3 ck cg h3 h2' h2 h1 hy hx c2 c1 hb ha;omega));refine wpS_bind (Zas ev2 ?_);have ee:v2=v:=YaL (ev2.symm.trans ev);subst ee;have m7:=pA (by (clear k0 ck2 hk20 hk2 c4 ck hk1 cg h3 h2' h2 h1' h1 hy hx c2 c1 hb ha;omega)) m5 ev2 hv;by_cases c7:k - 1=0
       ·rw[if_pos (by simpa using c7)];rw[c7] at m7 ⊢;exact wpS_pure ⟨hG2,.inl ⟨_,_,_,_,_,_,_,rfl,done m7⟩⟩
       rw[if_neg (by simpa using c7)];refine ZaB (fun _=>?_) (fun _=>?_)
       ·exact wpS_pure ⟨hG2,.inr ⟨_,_,_,_,_,_,rfl,m7,by (clear k0 ck2 hk20 hk2 c4 c3 ck hk1 cg h3 h2' h2 h1' h1 hy hx c2 c1 hb ha;omega),by (clear c7 k0 ck2 hk20 hk2 c4 c3 ck cg h3 h2' h2 h1 hy hx c2 c1 hb ha;omega),by (clear c7 k0 hk20 hk2 c3 ck hk1 cg h3 h2' h1' h1 hy hx c2 c1 hb ha;omega),by (clear c7 k0 ck2 hk20 c4 c3 ck hk1 cg h3 h2 h1' h1 hy hx c2 c1 hb ha;omega),by (clear c7 k0 ck2 hk20 c4 c3 ck cg h2' h2 h1' h1 hy hx c2 c1 hb ha;omega)⟩⟩
       ·exact wpS_pure ⟨hG2,_,_,_,_,_,_,rfl,m7,by (clear k0 ck2 hk20 hk2 c4 c3 ck hk1 cg h3 h2' h2 h1' h1 hy hx c2 c1 hb ha;omega),by (clear c7 k0 ck2 hk20 hk2 c4 c3 ck cg h3 h2' h2 h1 hy hx c2 c1 hb ha;omega),by (clear c7 k0 hk20 hk2 c3 ck hk1 cg h3 h2' h1' h1 hy hx c2 c1 hb ha;omega),by (clear c7 k0 ck2 hk20 c4 c3 ck hk1 cg h3 h2 h1' h1 hy hx c2 c1 hb ha;omega),by (clear c7 k0 ck2 hk20 c4 c3 ck cg h2' h2 h1' h1 hy hx c2 c1 hb ha;omega)⟩
     ·rw[if_neg ck];have k0:na=k:=by (clear cg h3 h2' h2 h1' h1 hy hx c2 c1 hb ha;omega)
      rw[show na - k=0 by (clear k0 hk1 cg h3 h2' h2 h1' h1 hy hx c2 c1 hb ha;omega),Yb5,Ydo,Ybb] at m3;rw[k0];refine wpS_bind (Zas eu ?_);have m4:=pB (by (clear k0 ck hk1 cg h3 h2' h1' h1 hy hx c2 c1 hb ha;omega)) m3 eu hu;by_cases c4:nb - 1=1
      ·rw[if_pos (by simpa using c4)];rw[c4] at m4 ⊢;exact wpS_pure ⟨hG2,.inl ⟨_,_,_,_,_,_,_,rfl,first m4⟩⟩
      rw[if_neg (by simpa using c4)];obtain⟨v,ev,ev',mv⟩:=ZaH (a:=a) (i:=k - 1) (by (clear c4 k0 ck cg h3 h2' h2 h1 hy hx c2 c1 hb ha;omega));refine wpS_bind (Zas ev ?_);refine wpS_bind (Zbb hA (hG2.1.trans hk) (oka v mv) okb (by (clear c4 k0 ck hk1 cg h3 h2 h1' h1 hy hx c2 c1 hb ha;omega)) (srtA sb _ _) (by (clear c4 k0 ck hk1 cg h3 h2' h1' h1 hy hx c2 c1 hb ha;omega)) fun k2 hk2 d1 d2=>?_);have hk20:1<=k2:=by
       rcases YdS k2 with z | z
       ·obtain⟨zl,el,_,_⟩:=ZaH (a:=b) (i:=0) (by (clear z hk2 c4 k0 ck hk1 cg h3 h2' h2 h1' h1 hy hx c2 c1 hb ha;omega));have q1:=hfirst zl el v mv;have q2:=d2 0 zl (by (clear hk2 c4 k0 ck hk1 cg h3 h2' h2 h1' h1 hy hx c2 c1 hb ha;omega)) (by (clear z hk2 c4 k0 ck hk1 cg h3 h2' h1' h1 hy hx c2 c1 hb ha;omega)) (by rw[YbV];exact el);rw[show O.blt (O.ky zl) (O.ky v)=false from q2] at q1;cases q1
       ·exact z
      have m5:=m4.takeBs sb (by simp;(clear hk20 hk2 c4 k0 ck hk1 cg h3 h2 h1' h1 hy hx c2 c1 hb ha;omega)) (nb - 1 - k2) (by (clear hk20 hk2 c4 k0 ck hk1 cg h3 h2' h2 h1' h1 hy hx c2 c1 hb ha;omega)) fun i z h6 h7 e y hy=>KO.le_trans (leT sa (by (clear h7 h6 hk20 hk2 c4 k0 hk1 cg h3 h2' h2 h1' hx c2 c1 hb ha;omega)) ev' y hy) (d2 i z (by (clear h7 hk20 c4 k0 ck hk1 cg h3 h2' h2 h1' h1 hx c2 c1 hb ha;omega)) (by (clear h6 hk20 hk2 c4 k0 ck hk1 cg h3 h2' h2 h1' h1 hx c2 c1 hb ha;omega)) (by rw[YbV,<- Yan];exact e));rw[show nb - 1 - (nb - 1 - k2)=k2 by (clear hk20 c4 k0 ck hk1 cg h3 h2' h2 h1' h1 hy hx c2 c1 hb ha;omega)] at m5;have hv:∀ z∈b.toList.take k2,O.le z v:=by
       intro z hz;obtain⟨j,hj,e⟩:=ZaU hz;refine KO.le_of_lt (d1 j z hj ?_);rw[YbV,<- Yan];exact e
      dsimp only;by_cases ck2:nb - 1 - k2 > 0
      ·rw[if_pos ck2];rw[<- ZeU,<- Ycn,<- Ya9] at m5;by_cases c6:k2=1
       ·rw[if_pos (by simpa using c6)];rw[c6] at m5 ⊢;exact wpS_pure ⟨hG2,.inl ⟨_,_,_,_,_,_,_,rfl,first m5⟩⟩
       rw[if_neg (by simpa using c6),if_neg (by simp;(clear c6 ck2 hk2 c4 k0 ck hk1 cg h3 h2' h2 h1' h1 hy hx c2 c1 hb ha;omega))];obtain⟨v2,ev2,ev2',mv2⟩:=ZaH (a:=a) (i:=k - 1) (by (clear c6 ck2 hk20 hk2 c4 k0 ck cg h3 h2' h2 h1 hy hx c2 c1 hb ha;omega));refine wpS_bind (Zas ev2 ?_);have ee:v2=v:=YaL (ev2.symm.trans ev);subst ee;have m7:=pA (by (clear c6 ck2 hk20 hk2 c4 k0 hk1 cg h3 h2' h2 h1' hy hx c2 c1 hb ha;omega)) m5 ev2 hv;by_cases c7:k - 1=0
       ·rw[if_pos (by simpa using c7)];rw[c7] at m7 ⊢;exact wpS_pure ⟨hG2,.inl ⟨_,_,_,_,_,_,_,rfl,done m7⟩⟩
       rw[if_neg (by simpa using c7)];refine ZaB (fun _=>?_) (fun _=>?_)
       ·exact wpS_pure ⟨hG2,.inr ⟨_,_,_,_,_,_,rfl,m7,by (clear c6 ck2 hk20 hk2 c4 k0 ck hk1 cg h3 h2' h2 h1' h1 hy hx c2 c1 hb ha;omega),by (clear c7 c6 ck2 hk20 hk2 c4 k0 ck cg h3 h2' h2 h1 hy hx c2 c1 hb ha;omega),by (clear c7 ck2 hk2 c4 k0 ck hk1 cg h3 h2' h2 h1' h1 hy hx c2 c1 hb ha;omega),by (clear c7 c6 ck2 hk20 c4 k0 ck hk1 cg h3 h2 h1' h1 hy hx c2 c1 hb ha;omega),by (clear c7 c6 ck2 hk20 c4 k0 ck cg h2' h2 h1' h1 hy hx c2 c1 hb ha;omega)⟩⟩
       ·exact wpS_pure ⟨hG2,_,_,_,_,_,_,rfl,m7,by (clear c6 ck2 hk20 hk2 c4 k0 ck hk1 cg h3 h2' h2 h1' h1 hy hx c2 c1 hb ha;omega),by (clear c7 c6 ck2 hk20 hk2 c4 k0 ck cg h3 h2' h2 h1 hy hx c2 c1 hb ha;omega),by (clear c7 ck2 hk2 c4 k0 ck hk1 cg h3 h2' h2 h1' h1 hy hx c2 c1 hb ha;omega),by (clear c7 c6 ck2 hk20 c4 k0 ck hk1 cg h3 h2 h1' h1 hy hx c2 c1 hb ha;omega),by (clear c7 c6 ck2 hk20 c4 k0 ck cg h2' h2 h1' h1 hy hx c2 c1 hb ha;omega)⟩
      ·rw[if_neg ck2];have k0:nb - 1=k2:=by (clear hk20 c4 k0 ck hk1 cg h3 h2' h2 h1' h1 hy hx c2 c1 hb ha;omega)
       rw[show nb - 1 - k2=0 by (clear k0 hk20 hk2 c4 ck hk1 cg h3 h2' h2 h1' h1 hy hx c2 c1 hb ha;omega),Yb5,Ydo,Ybb] at m5;rw[k0];obtain⟨v2,ev2,ev2',mv2⟩:=ZaH (a:=a) (i:=k - 1) (by (clear k0 ck2 hk20 hk2 c4 ck hk1 cg h3 h2' h2 h1 hy hx c2 c1 hb ha;omega));refine wpS_bind (Zas ev2 ?_);have ee:v2=v:=YaL (ev2.symm.trans ev);subst ee;have m7:=pA (by (clear k0 ck2 hk20 hk2 c4 ck hk1 cg h3 h2' h2 h1' hy hx c2 c1 hb ha;omega)) m5 ev2 hv;by_cases c7:k - 1=0
       ·rw[if_pos (by simpa using c7)];rw[c7] at m7 ⊢;exact wpS_pure ⟨hG2,.inl ⟨_,_,_,_,_,_,_,rfl,done m7⟩⟩
       rw[if_neg (by simpa using c7)];refine ZaB (fun _=>?_) (fun _=>?_)
       ·exact wpS_pure ⟨hG2,.inr ⟨_,_,_,_,_,_,rfl,m7,by (clear k0 ck2 hk20 hk2 c4 ck hk1 cg h3 h2' h2 h1' h1 hy hx c2 c1 hb ha;omega),by (clear c7 k0 ck2 hk20 hk2 c4 ck hk1 cg h3 h2' h2 h1 hy hx c2 c1 hb ha;omega),by (clear c7 k0 hk20 hk2 ck hk1 cg h3 h2' h1' h1 hy hx c2 c1 hb ha;omega),by (clear c7 k0 ck2 hk20 c4 ck hk1 cg h3 h2 h1' h1 hy hx c2 c1 hb ha;omega),by (clear c7 k0 ck2 hk20 c4 ck hk1 cg h2' h2 h1' h1 hy hx c2 c1 hb ha;omega)⟩⟩
       ·exact wpS_pure ⟨hG2,_,_,_,_,_,_,rfl,m7,by (clear k0 ck2 hk20 hk2 c4 ck hk1 cg h3 h2' h2 h1' h1 hy hx c2 c1 hb ha;omega),by (clear c7 k0 ck2 hk20 hk2 c4 ck hk1 cg h3 h2' h2 h1 hy hx c2 c1 hb ha;omega),by (clear c7 k0 hk20 hk2 ck hk1 cg h3 h2' h1' h1 hy hx c2 c1 hb ha;omega),by (clear c7 k0 ck2 hk20 c4 ck hk1 cg h3 h2 h1' h1 hy hx c2 c1 hb ha;omega),by (clear c7 k0 ck2 hk20 c4 ck hk1 cg h2' h2 h1' h1 hy hx c2 c1 hb ha;omega)⟩
def ka (O:KO) (xs:Array Keyed) (i:Nat):O.α:=O.ky ((xs[i]?).getD (.none,.none))
def Up (O:KO) (lo n:Nat) (xs:Array Keyed):Prop:=∀ i j,i<=j->j<n->O.kle (ka O xs (lo+i)) (ka O xs (lo+j))
def Dn (O:KO) (lo n:Nat) (xs:Array Keyed):Prop:=∀ i j,i<=j->j<n->O.kle (ka O xs (lo+j)) (ka O xs (lo+i))
structure FB (knd:SortKind) (b₀:Array Keyed) (p₀:Array (Nat × Nat × Nat)) (lo:Nat) (st:SortSt):Prop where
 perm:(arrOf st).Perm b₀
 keep:∀ i,i<lo->(arrOf st)[i]?=b₀[i]?
 kind:kindOf st=knd
 failed:failedOf st=none
 pend:pendingOf st=p₀
section
variable {b₀:Array Keyed}{p₀:Array (Nat × Nat × Nat)}{lo:Nat}
theorem FB.size (h:FB knd b₀ p₀ lo st):(arrOf st).size=b₀.size:=h.perm.size_eq
theorem FB.put {xs:Array Keyed} (h:FB knd b₀ p₀ lo st) (hp:xs.Perm (arrOf st)) (hx:∀ i,i<lo->xs[i]?=(arrOf st)[i]?):FB knd b₀ p₀ lo (setArr st xs) :=
 ⟨hp.trans h.perm,fun i hi=>(hx i hi).trans (h.keep i hi),h.kind,h.failed,h.pend⟩
theorem FB.mir (h:FB knd b₀ p₀ lo st) {i j:Nat} (hi:lo<=i) (hj:j<=b₀.size):FB knd b₀ p₀ lo (setArr st (mirror (arrOf st) i j ((j - i) / 2))) :=
 h.put (mirror_perm _ _ _ _) fun k hk=>by rw[getElem?_mirror_all (by rw[h.size];exact hj),if_neg (by (clear hj;omega))]
theorem Zct {xs ys:Array Keyed}{i j:Nat} (h:xs[i]?=ys[j]?):ka O xs i=ka O ys j:=by unfold ka;rw[h]
theorem Zi9 {xs:Array Keyed}{i j:Nat} (hj:j<=xs.size) (k:Nat):ka O (mirror xs i j ((j - i) / 2)) k=if i<=k/\k<j then ka O xs (i+j - 1 - k) else ka O xs k:=by
 have e:=getElem?_mirror_all (i:=i) hj k;split
 ·rename_i c;rw[if_pos c] at e;exact Zct e
 ·rename_i c;rw[if_neg c] at e;exact Zct e
theorem Zb8 {xs:Array Keyed}{i j:Nat} (hj:j<=xs.size) (he:∀ k,i<=k->k<j->ka O xs k=ka O xs (j - 1)) (k:Nat):ka O (mirror xs i j ((j - i) / 2)) k=ka O xs k:=by
 rw[Zi9 hj];split
 ·rw[he _ (by (clear hj;omega)) (by (clear hj;omega)),he k (by (clear hj;omega)) (by (clear hj;omega))]
 ·rfl
theorem Zlr {xs:Array Keyed}{src d:Nat} (hs:src<xs.size) (hd:d<=src) (k:Nat):ka O (bubble xs src d) k=if k=src - d then ka O xs src else if src - d<k/\k<=src then ka O xs (k - 1) else ka O xs k:=by
 have e:=getElem?_bubble hs d hd k;split
 ·rename_i c;rw[if_pos c] at e;exact Zct e
 ·rename_i c;rw[if_neg c] at e;split
  ·rename_i c2;rw[if_pos c2] at e;exact Zct e
  ·rename_i c2;rw[if_neg c2] at e;exact Zct e
theorem Zdg {i j:Nat}{Q:Option Bool->SortSt->Prop} (hA:Asks prog w A s O knd ok) (h0:∀ x∈b₀.toList,ok x) (hF:FB knd b₀ p₀ lo st) (hi:i<b₀.size) (hj:j<b₀.size) (h:Q (some (O.blt (ka O (arrOf st) i) (ka O (arrOf st) j))) st):wpS (model prog w) A E s (ltAt' i j) Q st:=by
 obtain⟨x,ex,_,mx⟩:=ZaH (a:=arrOf st) (i:=i) (by rw[hF.size];exact hi);obtain⟨y,ey,_,my⟩:=ZaH (a:=arrOf st) (i:=j) (by rw[hF.size];exact hj);have pm:=Yev.mp hF.perm;rw[ltAt'_eq];refine wpS_bind (wpS_get ?_);refine wpS_bind (Zas ex (wpS_bind (Zas ey ?_)));refine Ze2 hA hF.kind (h0 x (pm.mem_iff.mp mx)) (h0 y (pm.mem_iff.mp my)) ?_;unfold ka at h;rw[ex,ey] at h;exact h
theorem ZbA {i j:Nat}{Q:Unit->SortSt->Prop} (h:Q () (setArr st (mirror (arrOf st) i j ((j - i) / 2)))):wpS (model prog w) A E s (reverseSlice' i j) Q st:=by
 rw[reverseSlice'_eq];exact wpS_modify h
def ascL (lo a nrem:Nat):StateT SortSt Sem (Option (Option Nat) × Nat) :=
 forIn [a:nrem] ((none,a):Option (Option Nat) × Nat) fun _ c=>ltAt' (lo+c.2) (lo+c.2 - 1) >>= fun x=>match x with
  | some sm=>if sm=true then pure (Ycm (none,c.2)) else pure (Ybi (none,c.2+1))
  | _=>pure (Ycm (some none,c.2))
theorem Zcb {a nrem:Nat}{Q:Option (Option Nat) × Nat->SortSt->Prop} (hA:Asks prog w A s O knd ok) (h0:∀ x∈b₀.toList,ok x) (hF:FB knd b₀ p₀ lo st) (hn:lo+nrem<=b₀.size) (ha:1<=a) (hl:a<=nrem) (hu:Up O lo a (arrOf st))
  (h:∀ n,a<=n->n<=nrem->Up O lo n (arrOf st)->(n=nrem∨O.klt (ka O (arrOf st) (lo+n)) (ka O (arrOf st) (lo+n - 1)))->Q (none,n) st):wpS (model prog w) A E s (ascL lo a nrem) Q st:=by
 unfold ascL;refine wpS_forRange (I:=fun n c τ=>τ=st/\c=((none:Option (Option Nat)),n)/\Up O lo n (arrOf st)) ?go ?out ⟨rfl,rfl,hu⟩
 case out=>
  rintro c τ ⟨rfl,rfl,u⟩;rw[Yeg hl] at u ⊢;exact h nrem hl (Yak _) u (.inl rfl)
 case go=>
  rintro n c τ h1 h2 ⟨rfl,rfl,u⟩;refine wpS_bind (Zdg hA h0 hF (by dsimp only;(clear h1 hl ha;omega)) (by dsimp only;(clear h1 hl ha;omega)) ?_);dsimp only
  cases e:O.blt (ka O (arrOf τ) (lo+n)) (ka O (arrOf τ) (lo+n - 1)) with
  | true=>
   simp only[if_true];exact wpS_pure (h n h1 (by (clear h1 hl ha hn;omega)) u (.inr e))
  | false=>
   simp only[YaQ,if_false];refine wpS_pure ⟨rfl,rfl,fun i j hij hj=>?_⟩;rcases YbI j n with z | z
   ·exact u i j hij z
   ·obtain rfl:j=n:=by (clear hij h2 h1 hl ha hn;omega)
    rcases YbI i j with y | y
    ·exact YcS (u i (j - 1) (by (clear z hj h2 h1 hij hl ha hn;omega)) (by (clear y z hj h2 hij hl hn;omega))) (by rw[show lo+(j - 1)=lo+j - 1 by (clear y z hj h2 hij hl hn;omega)];exact e)
    ·obtain rfl:i=j:=by (clear z hj h2 h1 hl ha hn;omega)
     exact Ych _
theorem Zgw {n:Nat}{xs:Array Keyed} (hd:Dn O lo n xs) (hsz:lo+n<=xs.size):Up O lo n (mirror xs lo (lo+n) ((lo+n - lo) / 2)):=by
 intro i j hij hj;rw[Zi9 hsz,Zi9 hsz,if_pos (by (clear hsz;omega)),if_pos (by (clear hij hsz;omega))];have q:=hd (n - 1 - j) (n - 1 - i) (by (clear hj hsz;omega)) (by (clear hij hsz;omega));rw[show lo+(n - 1 - j)=lo+(lo+n) - 1 - (lo+j) by (clear hij hsz;omega),show lo+(n - 1 - i)=lo+(lo+n) - 1 - (lo+i) by (clear hsz;omega)] at q;exact q
def dscL (lo n nrem:Nat):StateT SortSt Sem (Option (Option Nat) × Nat × Nat) :=
 forIn [n:nrem] ((none,n,0):Option (Option Nat) × Nat × Nat) fun _ c=>ltAt' (lo+c.2.1) (lo+c.2.1 - 1) >>= fun x=>match x with
  | some sm=>if sm=true then (if c.2.2 > 0 then reverseSlice' (lo+c.2.1 - (c.2.2+1)) (lo+c.2.1) >>= fun _=>pure (Ybi (none,c.2.1+1,0)) else pure (Ybi (none,c.2.1+1,0)))
   else ltAt' (lo+c.2.1 - 1) (lo+c.2.1) >>= fun y=>match y with
    | some lg=>if lg=true then pure (Ycm (none,c.2.1,c.2.2)) else pure (Ybi (none,c.2.1+1,c.2.2+1))
    | _=>pure (Ycm (some none,c.2.1,c.2.2))
  | _=>pure (Ycm (some none,c.2.1,c.2.2))
theorem Zgv {n nrem:Nat}{Q:Option (Option Nat) × Nat × Nat->SortSt->Prop} (hA:Asks prog w A s O knd ok) (h0:∀ x∈b₀.toList,ok x) (hF:FB knd b₀ p₀ lo st) (hn:lo+nrem<=b₀.size) (h1:1<=n) (hl:n<=nrem) (hd:Dn O lo n (arrOf st))
  (h:∀ m e τ,FB knd b₀ p₀ lo τ->n<=m->m<=nrem->Dn O lo m (arrOf τ)->e+1<=m->(∀ i,m - (e+1)<=i->i<m->ka O (arrOf τ) (lo+i)=ka O (arrOf τ) (lo+m - 1))->Q (none,m,e) τ):wpS (model prog w) A E s (dscL lo n nrem) Q st:=by
 unfold dscL;refine wpS_forRange (I:=fun m c τ=>∃ e,c=((none:Option (Option Nat)),m,e)/\FB knd b₀ p₀ lo τ/\Dn O lo m (arrOf τ)/\e+1<=m/\∀ i,m - (e+1)<=i->i<m->ka O (arrOf τ) (lo+i)=ka O (arrOf τ) (lo+m - 1)) ?go ?out
  ⟨0,rfl,hF,hd,by (clear hl hn;omega),fun i h2 h3=>by congr 1;(clear hl h1 hn;omega)⟩
 case out=>
  rintro c τ ⟨e,rfl,hT,d,q,he⟩;rw[Yeg hl] at d q he ⊢;exact h nrem e τ hT hl (Yak _) d q he
 case go=>
  rintro m c τ h2 h3 ⟨e,rfl,hT,d,q,he⟩;have hsz:lo+m<=(arrOf τ).size:=by rw[hT.size];(clear q h2 hl h1;omega)
  have more:∀ xs:Array Keyed,(∀ k,ka O xs k=ka O (arrOf τ) k)->O.kle (ka O (arrOf τ) (lo+m)) (ka O (arrOf τ) (lo+m - 1))->Dn O lo (m+1) xs:=by
   intro xs hk hle i j hij hj;rw[hk,hk];rcases YbI j m with z | z
   ·exact d i j hij z
   ·obtain rfl:j=m:=by (clear hij hsz q h3 h2 hl h1 hn;omega)
    rcases YbI i j with y | y
    ·exact YcS hle (by rw[show lo+j - 1=lo+(j - 1) by (clear y z hj hsz q h3 hij hl hn;omega)];exact d i (j - 1) (by (clear z hj hsz q h3 h2 hij hl h1 hn;omega)) (by (clear y z hj hsz q h3 hij hl hn;omega)))
    ·obtain rfl:i=j:=by (clear z hj hsz q h3 h2 hl h1 hn;omega)
     exact Ych _
  have eq1:∀ k,lo+m - (e+1)<=k->k<lo+m->ka O (arrOf τ) k=ka O (arrOf τ) (lo+m - 1):=fun k k1 k2=>by
   have:=he (k - lo) (by (clear k2 hsz q h3 h2 hl h1 hn;omega)) (by (clear k1 hsz q h3 hl hn;omega))
   rwa [show lo+(k - lo)=k by (clear k2 hsz h3 h2 hl h1 hn;omega)] at this
  refine wpS_bind (Zdg hA h0 hT (by dsimp only;(clear hsz q h2 hl h1;omega)) (by dsimp only;(clear hsz q h2 hl h1;omega)) ?_);dsimp only
  cases ew:O.blt (ka O (arrOf τ) (lo+m)) (ka O (arrOf τ) (lo+m - 1)) with
  | true=>
   simp only[if_true];refine ZaB (fun _=>?_) (fun _=>?_)
   ·exact wpS_bind (ZbA (wpS_pure ⟨0,rfl,hT.mir (by (clear hsz h3 h2 hl h1 hn;omega)) (by (clear hsz q h2 hl h1;omega)),more _ (Zb8 hsz eq1) (Yci ew),by (clear hsz q h3 h2 hl h1 hn;omega),fun i h2 h3=>by congr 1;(clear hsz q hl h1 hn;omega)⟩))
   ·exact wpS_pure ⟨0,rfl,hT,more _ (fun _=>rfl) (Yci ew),by (clear hsz q h3 h2 hl h1 hn;omega),fun i h2 h3=>by congr 1;(clear hsz q hl h1 hn;omega)⟩
  | false=>
   simp only[YaQ,if_false];refine wpS_bind (Zdg hA h0 hT (by (clear hsz q h2 hl h1;omega)) (by (clear hsz q h2 hl h1;omega)) ?_);dsimp only
   cases eg:O.blt (ka O (arrOf τ) (lo+m - 1)) (ka O (arrOf τ) (lo+m)) with
   | true=>
    simp only[if_true];exact wpS_pure (h m e τ hT h2 (by (clear hsz q h2 hl h1 hn;omega)) d q he)
   | false=>
    simp only[YaQ,if_false];have hx:ka O (arrOf τ) (lo+m)=ka O (arrOf τ) (lo+m - 1):=YeX (O:=O.toKeyOrd) eg ew;refine wpS_pure ⟨e+1,rfl,hT,more _ (fun _=>rfl) eg,by (clear hsz h3 h2 hl h1 hn;omega),fun i i1 i2=>?_⟩;rw[show lo+(m+1) - 1=lo+m by (clear i2 i1 hsz q h3 h2 hl h1 hn;omega)];rcases YbI i m with z | z
    ·rw[hx];exact he i (by (clear z i2 hsz q h3 h2 hl h1 hn;omega)) z
    ·obtain rfl:i=m:=by (clear i1 hsz q h3 h2 hl h1 hn;omega)
     rfl
theorem ZlA {nrem:Nat}{Q:Option Nat->SortSt->Prop} (hA:Asks prog w A s O knd ok) (h0:∀ x∈b₀.toList,ok x) (hF:FB knd b₀ p₀ lo st) (hn:lo+nrem<=b₀.size) (h1:1<=nrem)
  (h:∀ m τ,FB knd b₀ p₀ lo τ->1<=m->m<=nrem->Up O lo m (arrOf τ)->Q (some m) τ):wpS (model prog w) A E s (countRun' lo nrem) Q st:=by
 refine wpS_bind (Zcb (a:=1) hA h0 hF hn (Yak 1) h1 (fun i j hij hj=>?_) fun n n1 n2 u hor=>?_)
 ·obtain rfl:i=j:=by (clear h1 hn;omega)
  exact Ych _
 dsimp only;by_cases c:n=nrem
 ·rw[if_pos (by simpa using c)];exact wpS_pure (h n st hF n1 n2 u)
 rw[if_neg (by simpa using c)];have hlt:=hor.resolve_left c;have hsz:lo+n<=(arrOf st).size:=by rw[hF.size];(clear c hor n1 h1;omega)
 by_cases cg:n > 1
 ·rw[if_pos cg];refine wpS_bind (Zdg hA h0 hF (by (clear cg hsz c hor n2 n1;omega)) (by (clear cg hsz c hor n1;omega)) ?_)
  cases e:O.blt (ka O (arrOf st) lo) (ka O (arrOf st) (lo+n - 1)) with
  | true=>
   simp only[if_true];exact wpS_pure (h n st hF n1 n2 u)
  | false=>
   simp only[YaQ,if_false];have all:∀ k,lo<=k->k<lo+n->ka O (arrOf st) k=ka O (arrOf st) (lo+n - 1):=by
    intro k k1 k2;have a1:=u 0 (k - lo) (by (clear k2 k1 cg hsz c hor n2 n1 h1 hn;omega)) (by (clear k1 cg hsz c hor n2 h1 hn;omega));have a2:=u (k - lo) (n - 1) (by (clear k1 cg hsz c hor n2 n1 h1 hn;omega)) (by (clear k2 k1 cg hsz c hor n2 h1 hn;omega));rw[show lo+(k - lo)=k by (clear k2 cg hsz c hor n2 n1 h1 hn;omega)] at a1 a2;rw[show lo+(n - 1)=lo+n - 1 by (clear k2 k1 cg hsz c hor n2 h1 hn;omega)] at a2;exact YeX a2 (YcS (O:=O.toKeyOrd) e a1)
   refine wpS_bind (ZbA ?_);have hF7:=FB.mir hF (i:=lo) (j:=lo+n) (Yak _) (by (clear cg hsz c hor n1 h1;omega));have d7:Dn O lo (n+1) (arrOf (setArr st (mirror (arrOf st) lo (lo+n) ((lo+n - lo) / 2)))):=by
    intro i j hij hj;show O.kle (ka O (mirror (arrOf st) _ _ _) _) (ka O (mirror (arrOf st) _ _ _) _);rw[Zb8 hsz all,Zb8 hsz all];rcases YbI j n with z | z
    ·rw[all _ (by (clear z hj hij cg hsz c hor n2 n1 h1 hn;omega)) (show lo+j<lo+n by (clear hj hij cg hsz c hor n2 n1 h1 hn;omega)),all _ (by (clear z hj hij cg hsz c hor n2 n1 h1 hn;omega)) (show lo+i<lo+n by (clear hj cg hsz c hor n2 n1 h1 hn;omega))];exact Ych _
    ·obtain rfl:j=n:=by (clear hij cg hsz c hor n2 n1 h1 hn;omega)
     rcases YbI i j with y | y
     ·rw[all _ (by (clear y z hj cg hsz c hor n2 n1 hij h1 hn;omega)) (show lo+i<lo+j by (clear z hj cg hsz c hor n2 n1 hij h1 hn;omega))];exact Yci hlt
     ·obtain rfl:i=j:=by (clear z hj cg hsz c hor n2 n1 h1 hn;omega)
      exact Ych _
   refine wpS_bind (wpS_lift (wpAny_rule ⟨rfl,?_⟩));refine wpS_bind (Zgv hA h0 hF7 hn (by (clear cg hsz c hor n2 n1 h1 hn;omega)) (by (clear cg hsz hor n1 h1 hn;omega)) d7 fun m e τ hT m1 m2 d q he=>?_);dsimp only;have hsz:lo+m<=(arrOf τ).size:=by rw[hT.size];(clear q m1 cg hsz c hor n2 n1 h1;omega)
   have eq1:∀ k,lo+m - (e+1)<=k->k<lo+m->ka O (arrOf τ) k=ka O (arrOf τ) (lo+m - 1):=fun k k1 k2=>by
    have:=he (k - lo) (by (clear k2 hsz q m2 m1 cg c hor n2 n1 h1 hn;omega)) (by (clear k1 hsz q m2 cg c hor n2 n1 h1 hn;omega))
    rwa [show lo+(k - lo)=k by (clear k2 hsz m2 m1 cg c hor n2 n1 h1 hn;omega)] at this
   refine ZaB (fun _=>?_) (fun _=>?_)
   ·refine wpS_bind (ZbA ?_);have hF8:=FB.mir hT (i:=lo+m - (e+1)) (j:=lo+m) (by (clear hsz m2 m1 cg c hor n2 n1 h1 hn;omega)) (by (clear hsz q m1 cg c hor n2 n1 h1;omega));have d8:Dn O lo m (arrOf (setArr τ (mirror (arrOf τ) (lo+m - (e+1)) (lo+m) ((lo+m - (lo+m - (e+1))) / 2)))):=by
     intro i j hij hj;show O.kle (ka O (mirror (arrOf τ) _ _ _) _) (ka O (mirror (arrOf τ) _ _ _) _);rw[Zb8 hsz eq1,Zb8 hsz eq1];exact d i j hij hj
    refine wpS_bind (ZbA ?_);have hF9:=FB.mir hF8 (i:=lo) (j:=lo+m) (Yak _) (by (clear hsz q m1 cg c hor n2 n1 h1;omega));refine wpS_bind (Zcb hA h0 hF9 hn (by (clear hsz q m2 cg c hor n2 n1 h1 hn;omega)) m2 (Zgw d8 (by rw[FB.size hF8];(clear hsz q m1 cg c hor n2 n1 h1;omega))) fun m' m1' m2' u' _=>wpS_pure (h m' _ hF9 (by (clear m2' hsz q m2 cg c hor n2 n1 h1 hn;omega)) m2' u'))
   ·
    refine wpS_bind (ZbA ?_);have hF9:=FB.mir hT (i:=lo) (j:=lo+m) (Yak _) (by (clear hsz q m1 cg c hor n2 n1 h1;omega));refine wpS_bind (Zcb hA h0 hF9 hn (by (clear hsz q m2 cg c hor n2 n1 h1 hn;omega)) m2 (Zgw d (by rw[FB.size hT];(clear hsz q m1 cg c hor n2 n1 h1;omega))) fun m' m1' m2' u' _=>wpS_pure (h m' _ hF9 (by (clear m2' hsz q m2 cg c hor n2 n1 h1 hn;omega)) m2' u'))
 ·rw[if_neg cg];obtain rfl:n=1:=by (clear hsz c hor n2 h1 hn;omega)
  have d7:Dn O lo (1+1) (arrOf st):=by
   intro i j hij hj;rcases YbI i j with y | y
   ·obtain rfl:i=0:=by (clear hij cg hsz c hor n2 n1 h1 hn;omega)
    obtain rfl:j=1:=by (clear hij cg hsz c hor n2 n1 h1 hn;omega)
    exact Yci hlt
   ·obtain rfl:i=j:=by (clear hj cg hsz c hor n2 n1 h1 hn;omega)
    exact Ych _
  refine wpS_bind (wpS_lift (wpAny_rule ⟨rfl,?_⟩));refine wpS_bind (Zgv hA h0 hF hn (by (clear cg hsz c hor n2 n1 h1 hn;omega)) (by (clear cg hsz hor n2 n1 hn;omega)) d7 fun m e τ hT m1 m2 d q he=>?_);dsimp only;have hsz:lo+m<=(arrOf τ).size:=by rw[hT.size];(clear q m1 cg hsz c hor n2 n1 h1;omega)
  have eq1:∀ k,lo+m - (e+1)<=k->k<lo+m->ka O (arrOf τ) k=ka O (arrOf τ) (lo+m - 1):=fun k k1 k2=>by
   have:=he (k - lo) (by (clear k2 hsz q m2 m1 cg c hor n2 n1 h1 hn;omega)) (by (clear k1 hsz q m2 cg c hor n2 n1 h1 hn;omega))
   rwa [show lo+(k - lo)=k by (clear k2 hsz m2 m1 cg c hor n2 n1 h1 hn;omega)] at this
  refine ZaB (fun _=>?_) (fun _=>?_)
  ·refine wpS_bind (ZbA ?_);have hF8:=FB.mir hT (i:=lo+m - (e+1)) (j:=lo+m) (by (clear hsz m2 m1 cg c hor n2 n1 h1 hn;omega)) (by (clear hsz q m1 cg c hor n2 n1 h1;omega));have d8:Dn O lo m (arrOf (setArr τ (mirror (arrOf τ) (lo+m - (e+1)) (lo+m) ((lo+m - (lo+m - (e+1))) / 2)))):=by
    intro i j hij hj;show O.kle (ka O (mirror (arrOf τ) _ _ _) _) (ka O (mirror (arrOf τ) _ _ _) _);rw[Zb8 hsz eq1,Zb8 hsz eq1];exact d i j hij hj
   refine wpS_bind (ZbA ?_);have hF9:=FB.mir hF8 (i:=lo) (j:=lo+m) (Yak _) (by (clear hsz q m1 cg c hor n2 n1 h1;omega));refine wpS_bind (Zcb hA h0 hF9 hn (by (clear hsz q m2 cg c hor n2 n1 h1 hn;omega)) m2 (Zgw d8 (by rw[FB.size hF8];(clear hsz q m1 cg c hor n2 n1 h1;omega))) fun m' m1' m2' u' _=>wpS_pure (h m' _ hF9 (by (clear m2' hsz q m2 cg c hor n2 n1 h1 hn;omega)) m2' u'))
  ·
   refine wpS_bind (ZbA ?_);have hF9:=FB.mir hT (i:=lo) (j:=lo+m) (Yak _) (by (clear hsz q m1 cg c hor n2 n1 h1;omega));refine wpS_bind (Zcb hA h0 hF9 hn (by (clear hsz q m2 cg c hor n2 n1 h1 hn;omega)) m2 (Zgw d (by rw[FB.size hT];(clear hsz q m1 cg c hor n2 n1 h1;omega))) fun m' m1' m2' u' _=>wpS_pure (h m' _ hF9 (by (clear m2' hsz q m2 cg c hor n2 n1 h1 hn;omega)) m2' u'))
end
end
end L2
namespace L2
open PySem PyProof.Rows
section
variable {prog:Program}{w:World}{A:Around}{E:Value->Shared->Prop}{s:Shared}{O:KO}{knd:SortKind}{ok:Keyed->Prop}{st:SortSt}{b₀:Array Keyed}{p₀:Array (Nat × Nat × Nat)}{lo:Nat}
theorem Znd {l r:Nat} (h:l<r):l<=(l+r) / 2/\(l+r) / 2<r:=by omega
theorem Zn3 {l r k x N:Nat} (m1:l<=(l+r) / 2) (m2:(l+r) / 2<r) (hx:x<N) (e2:r<=k) (e3:r - l<=k - x):(l+r) / 2 - l<=k - (x+1):=by (clear e2 hx m2 m1;omega)
theorem Zn2 {l r k x N:Nat} (m1:l<=(l+r) / 2) (m2:(l+r) / 2<r) (hx:x<N) (e2:r<=k) (e3:r - l<=k - x):r - ((l+r) / 2+1)<=k - (x+1):=by (clear e2 hx m2 m1;omega)
theorem ZlB {n m:Nat}{Q:Bool->SortSt->Prop} (hA:Asks prog w A s O knd ok) (h0:∀ x∈b₀.toList,ok x) (hF:FB knd b₀ p₀ lo st) (hn:lo+n<=b₀.size) (h1:1<=m) (hm:m<=n) (hu:Up O lo m (arrOf st))
  (h:∀ τ,FB knd b₀ p₀ lo τ->Up O lo n (arrOf τ)->Q true τ):wpS (model prog w) A E s (binarySort' lo n m) Q st:=by
 rw[binarySort'_eq,Nat.max_eq_left h1];refine wpS_bind (wpS_mono (wpS_forRange (I:=fun k c τ=>c=(none,())/\FB knd b₀ p₀ lo τ/\Up O lo k (arrOf τ))
  (Q:=fun c τ=>c=(none,())/\FB knd b₀ p₀ lo τ/\Up O lo n (arrOf τ)) ?go ?out ⟨rfl,hF,hu⟩) ?fin)
 case fin=>
  rintro c τ ⟨rfl,hT,u⟩;exact wpS_pure (h τ hT u)
 case out=>
  rintro c τ ⟨hc,hT,u⟩;rw[Yeg hm] at u;exact⟨hc,hT,u⟩
 case go=>
  rintro k c τ k1 k2 ⟨rfl,hT,u⟩;refine wpS_bind (wpS_mono (wpS_forRange (I:=fun x c τ'=>τ'=τ/\∃ l r,c=(none,l,r)/\l<=r/\r<=k/\r - l<=k - x /\
    (∀ i,i<l->O.kle (ka O (arrOf τ) (lo+i)) (ka O (arrOf τ) (lo+k)))/\∀ i,r<=i->i<k->O.klt (ka O (arrOf τ) (lo+k)) (ka O (arrOf τ) (lo+i)))
   (Q:=fun c τ'=>τ'=τ/\∃ l,c=(none,l,l)/\l<=k/\(∀ i,i<l->O.kle (ka O (arrOf τ) (lo+i)) (ka O (arrOf τ) (lo+k)))/\∀ i,l<=i->i<k->O.klt (ka O (arrOf τ) (lo+k)) (ka O (arrOf τ) (lo+i))) ?go2 ?out2
   ⟨rfl,0,k,rfl,YaY _,Yak _,Yak _,fun i hi=>absurd hi (YcG _),fun i i1 i2=>absurd i2 (Nat.not_lt.mpr i1)⟩) ?fin2)
  case out2=>
   rintro c τ' ⟨rfl,l,r,rfl,e1,e2,e3,e4,e5⟩;obtain rfl:l=r:=by (clear e2 k2 k1 hm h1 hn;omega)
   exact⟨rfl,l,rfl,e2,e4,e5⟩
  case go2=>
   rintro x c τ' _ hx ⟨rfl,l,r,rfl,e1,e2,e3,e4,e5⟩;dsimp only;by_cases hge:l ≥ r
   ·rw[if_pos hge];obtain rfl:l=r:=by (clear e3 e2 hx k2 k1 hm h1 hn;omega)
    exact wpS_pure ⟨rfl,l,rfl,e2,e4,e5⟩
   rw[if_neg hge];obtain⟨m1,m2⟩:=Znd (Nat.lt_of_not_le hge);have mk:(l+r) / 2<k:=Yaw m2 e2;have kn:lo+k<b₀.size:=Yaw (Yfo k2 lo) hn;refine wpS_bind (Zdg hA h0 hT kn (Nat.lt_trans (Yfo mk lo) kn) ?_)
   cases e:O.blt (ka O (arrOf τ') (lo+k)) (ka O (arrOf τ') (lo+(l+r) / 2)) with
   | true=>
    simp only[if_true];exact wpS_pure ⟨rfl,l,(l+r) / 2,rfl,m1,Ybs mk,Zn3 m1 m2 hx e2 e3,e4,fun i i1 i2=>KeyOrd.klt_of_klt_of_kle e (u _ _ i1 i2)⟩
   | false=>
    simp only[YaQ,if_false];exact wpS_pure ⟨rfl,(l+r) / 2+1,r,rfl,m2,e2,Zn2 m1 m2 hx e2 e3,fun i i1=>YcS (u i ((l+r) / 2) (Nat.le_of_lt_succ i1) mk) e,e5⟩
  case fin2=>
   rintro c τ' ⟨rfl,l,rfl,e2,e4,e5⟩;dsimp only;rw[moveDown'_eq];have hks:lo+k<(arrOf τ').size:=by rw[hT.size];(clear e2 k1 hm h1;omega)
   refine wpS_bind (wpS_modify (wpS_pure ⟨rfl,hT.put (bubble_perm _ _ _) (fun i hi=>?_),?_⟩))
   ·rw[getElem?_bubble hks _ (by (clear hi hks e2 k2 k1 hm h1 hn;omega)),if_neg (by (clear hks e2 k2 k1 hm h1 hn;omega)),if_neg (by (clear hks e2 k2 k1 hm h1 hn;omega))]
   ·intro i j hij hj;show O.kle (ka O (bubble (arrOf τ') (lo+k) (lo+k - (lo+l))) _) (ka O (bubble (arrOf τ') (lo+k) (lo+k - (lo+l))) _);rw[Zlr hks (by (clear hj hij hks e2 k2 k1 hm h1 hn;omega)),Zlr hks (by (clear hj hij hks e2 k2 k1 hm h1 hn;omega)),show lo+k - (lo+k - (lo+l))=lo+l by (clear hj hij hks k2 k1 hm h1 hn;omega)]
    repeat' split
    all_goals first
     | (exfalso;omega)
     | exact Ych _
     | exact e4 _ (by omega)
     | (rw[show lo+j - 1=lo+(j - 1) by (clear hj hij hks e2 k2 k1 hm h1 hn;omega)];exact Yci (e5 _ (by (clear hj hij hks e2 k2 k1 hm h1 hn;omega)) (by (clear hj hij hks e2 k2 k1 hm h1 hn;omega))))
     | exact Yci (e5 _ (by omega) (by omega))
     | (rw[show lo+i - 1=lo+(i - 1) by (clear hj hij hks e2 k2 k1 hm h1 hn;omega),show lo+j - 1=lo+(j - 1) by (clear hj hij hks e2 k2 k1 hm h1 hn;omega)];exact u _ _ (by (clear hj hks e2 k2 k1 hm h1 hn;omega)) (by (clear hj hij hks e2 k2 k1 hm h1 hn;omega)))
     | (rw[show lo+j - 1=lo+(j - 1) by (clear hj hij hks e2 k2 k1 hm h1 hn;omega)];exact u _ _ (by (clear hj hks e2 k2 k1 hm h1 hn;omega)) (by (clear hj hij hks e2 k2 k1 hm h1 hn;omega)))
     | exact u _ _ (by (clear hj hks e2 k2 k1 hm h1 hn;omega)) (by (clear hij hks k2 k1 hm h1 hn;omega))
def pos:Nat->List (List Keyed)->List (Nat × Nat)
 | _,[]=>[]
 | o,r::rs=>(o,r.length)::pos (o+r.length) rs
theorem ZbQ:∀ (o:Nat) (xs ys:List (List Keyed)),pos o (xs++ys)=pos o xs++pos (o+xs.flatten.length) ys
 | o,[],ys=>by simp[pos]
 | o,r::rs,ys=>by
  simp only[Ybx,pos,ZbQ,YaR,Yaf];rw[Nat.add_assoc]
theorem ZcL:∀ (o:Nat) (xs:List (List Keyed)),(pos o xs).length=xs.length
 | _,[]=>rfl
 | o,r::rs=>by simp only[pos,Yaz,ZcL]
def pr (p:Nat × Nat × Nat):Nat × Nat:=(p.1,p.2.1)
structure RI (O:KO) (knd:SortKind) (a₀:List Keyed) (runs:List (List Keyed)) (rest:List Keyed) (st:SortSt):Prop where
 arr:(arrOf st).toList=runs.flatten++rest
 perm:(arrOf st).toList.Perm a₀
 srt:∀ r∈runs,O.Srt r
 ne:∀ r∈runs,1<=r.length
 kind:kindOf st=knd
 failed:failedOf st=none
 pend:(pendingOf st).toList.map pr=pos 0 runs
theorem ZdR:∀ (l:List Keyed) (n sa:Nat) (xs:Array Keyed) (P M S:List Keyed),xs.toList=P++M++S->M.length=l.length->P.length=sa+n ->
  ((l.zipIdx n).foldl (fun a (q:Keyed × Nat)=>a.setIfInBounds (sa+q.2) q.1) xs).toList=P++l++S
 | [],n,sa,xs,P,M,S,e,h1,h2=>by
  have:M=[]:=YbH.mp h1;subst this;simpa using e
 | x::l,n,sa,xs,P,[],S,e,h1,h2=>by cases h1
 | x::l,n,sa,xs,P,y::M,S,e,h1,h2=>by
  rw[Yd4,YcD];have q:=ZdR l (n+1) sa (xs.setIfInBounds (sa+n) x) (P++[x]) M S ?_ (by simpa using h1) (by simp;(clear h1;omega))
  ·rw[q];simp
  ·rw[Yeu,e,<- h2];simp
theorem ZiW {α β:Type}{f:α->β}{l:List α}{X Z:List β}{x y:β} (h:l.map f=X++x::y::Z):∃ P p q S,l=P++p::q::S/\P.map f=X/\f p=x/\f q=y/\S.map f=Z:=by
 obtain⟨P,l2,e1,e2,e3⟩:=List.map_eq_append_iff.mp h;obtain⟨p,l3,e4,e5,e6⟩:=Ye8.mp e3;obtain⟨q,S,e7,e8,e9⟩:=Ye8.mp e6;exact⟨P,p,q,S,by rw[e1,e4,e7],e2,e5,e8,e9⟩
theorem Zc7 {α:Type}{pre m post:List α}{l:List α}{i:Nat} (e:l=pre++m++post) (hi:i<m.length):l[pre.length+i]?=m[i]?:=by
 rw[e,Yav,YaV (by (clear hi;omega)),Ydn,Ybe hi]
theorem Zlc {xs:Array Keyed}{pre m post:List Keyed} (e:xs.toList=pre++m++post) (sm:O.Srt m):∀ p q x y,pre.length<=p->p<=q->q<pre.length+m.length->xs[p]?=some x->xs[q]?=some y->O.le x y:=by
 intro p q x y h1 h2 h3 e1 e2;have f1:=Zc7 (i:=p - pre.length) e (by omega);have f2:=Zc7 (i:=q - pre.length) e (by omega);rw[show pre.length+(p - pre.length)=p by (clear h3 h2;omega),Yan,e1] at f1;rw[show pre.length+(q - pre.length)=q by (clear h3;omega),Yan,e2] at f2;exact Zcj sm (by (clear h3 h1;omega)) f1.symm f2.symm
theorem Zjq {xs:Array Keyed}{P M S:List Keyed}{i j:Nat} (e:xs.toList=P++M++S) (hi:i=P.length) (hj:j=P.length+M.length):(xs.extract i j).toList=M:=by
 rw[ZeU,e,hi,hj,Yav,List.drop_left,Ydn,YeH]
theorem srt3 {x y z:List Keyed} (hx:O.Srt x) (hy:O.Srt y) (hz:O.Srt z) (xy:∀ p∈x,∀ q∈y,O.le p q) (yz:∀ p∈y,∀ q∈z,O.le p q) (xz:∀ p∈x,∀ q∈z,O.le p q):O.Srt (x++y++z):=by
 refine Ya0.mpr ⟨Ya0.mpr ⟨hx,hy,xy⟩,hz,fun p hp q hq=>?_⟩;rcases Yam.mp hp with hp | hp
 ·exact xz p hp q hq
 ·exact yz p hp q hq
theorem Zlz {M:Model}{σ:Type}{x y:σ}{Q:PUnit->σ->Prop} (h:Q ⟨⟩ x):wpS M A E s (set x:StateT σ Sem PUnit) Q y:=by
 unfold wpS;rw[StateT.run_set];exact wpAny_pure ⟨rfl,h⟩
theorem Zb0 {a₀ rest:List Keyed}{R1 R2:List (List Keyed)}{a b:List Keyed}{i:Nat}{Q:Bool->SortSt->Prop} (hA:Asks prog w A s O knd ok) (h0:∀ x∈a₀,ok x) (hR:RI O knd a₀ (R1++a::b::R2) rest st) (hi:R1.length=i)
  (h:∀ m τ,m.Perm (a++b)->RI O knd a₀ (R1++m::R2) rest τ->Q true τ):wpS (model prog w) A E s (mergeAt' i) Q st:=by
 have hp:=hR.pend;rw[ZbQ] at hp;obtain⟨P,p,q,S,ep,e1,e2,e3,e4⟩:=ZiW hp;obtain⟨p1,p2,w1⟩:=p;obtain⟨q1,q2,w2⟩:=q;simp only[pr,Prod.mk.injEq,YbV] at e2 e3;obtain⟨rfl,rfl⟩:=e2;obtain⟨rfl,rfl⟩:=e3;have hP:P.length=i:=by rw[<- hi,<- ZcL 0 R1,<- e1,Yaa]
 have g1:(pendingOf st)[i]?=some (R1.flatten.length,a.length,w1):=by
  rw[<- Yan,ep,YaV (by (clear hi;omega)),hP,YcT];rfl
 have g2:(pendingOf st)[i+1]?=some (R1.flatten.length+a.length,b.length,w2):=by
  rw[<- Yan,ep,YaV (by (clear hi;omega)),hP,Ydn];rfl
 have ea:(arrOf st).toList=R1.flatten++a++(b++(R2.flatten++rest)):=by
  rw[hR.arr];simp
 have eb:(arrOf st).toList=(R1.flatten++a)++b++(R2.flatten++rest):=by
  rw[hR.arr];simp
 have sa:O.Srt a:=hR.srt a (by simp);have sb:O.Srt b:=hR.srt b (by simp);have la:1<=a.length:=hR.ne a (by simp);have lb:1<=b.length:=hR.ne b (by simp);have oks:∀ x∈(arrOf st).toList,ok x:=fun x hx=>h0 x (hR.perm.mem_iff.mp hx);have oka:∀ x∈a,ok x:=fun x hx=>oks x (by rw[ea];simp[hx]);have okb:∀ x∈b,ok x:=fun x hx=>oks x (by rw[eb];simp[hx]);have fin:∀ (τ:SortSt) (m:List Keyed),m.Perm (a++b)->O.Srt m->(arrOf τ).toList=R1.flatten++m++(R2.flatten++rest)->kindOf τ=knd->failedOf τ=none->(pendingOf τ).toList=P++(R1.flatten.length,a.length+b.length,w1)::S->Q true τ:=by
  intro τ m pm sm em k1 k2 k3;have lm:m.length=a.length+b.length:=by rw[pm.length_eq,Yaf]
  refine h m τ pm ⟨by rw[em];simp,?_,?_,?_,k1,k2,?_⟩
  ·refine Ydj ?_ hR.perm;rw[em,ea];have:=YbK R1.flatten (Ydf (R2.flatten++rest) pm);simpa using this
  ·intro r hr;rcases Yam.mp hr with hr | hr
   ·exact hR.srt r (YaF _ hr)
   ·rcases YaC.mp hr with hr | hr
    ·rw[hr];exact sm
    ·exact hR.srt r (by simp[hr])
  ·intro r hr;rcases Yam.mp hr with hr | hr
   ·exact hR.ne r (YaF _ hr)
   ·rcases YaC.mp hr with hr | hr
    ·rw[hr];(clear lb hP hi;omega)
    ·exact hR.ne r (by simp[hr])
  ·rw[k3,ZbQ,Yau,e1,YaM,e4,YbV];simp only[pos,pr,lm,Nat.add_assoc]
 have new:(((pendingOf st).setIfInBounds i (R1.flatten.length,a.length+b.length,w1)).eraseIdxIfInBounds (i+1)).toList=P++(R1.flatten.length,a.length+b.length,w1)::S:=by
  rw[Array.toList_eraseIdxIfInBounds,Yeu,ep,<- hP];simp[List.eraseIdx_append_of_length_le]
 refine wpS_bind (wpS_get ?_);rw[show (pendingOf st)[i]?=_ from g1,show (pendingOf st)[i+1]?=_ from g2];dsimp only;refine wpS_bind (Zlz ?_);have eb0:(arrOf st).toList[(R1.flatten++a).length+0]?=b[0]?:=Zc7 eb (by (clear la hP hi;omega));have hb0:b[0]?=some b[0]:=Yad lb;have eb1:(arrOf st)[R1.flatten.length+a.length]?=some b[0]:=by
  rw[<- Yan,<- hb0,<- eb0,Yaf,Nat.add_zero]
 have mb0:b[0]∈b:=Ybq _;refine wpS_bind (Zas eb1 ?_);have hlen:(arrOf st).size=R1.flatten.length+a.length+b.length+(R2.flatten++rest).length:=by
  rw[<- Ya4,eb];simp only[Yaf]
 refine wpS_bind (Zb1 hA hR.kind (okb _ mb0) oks (show R1.flatten.length+a.length<=(arrOf st).size by (clear la hP hi;omega)) (Zlc ea sa) (by (clear hlen hP hi;omega)) fun k hk1 u1 u2=>?_);have ka1:∀ z∈a.take k,O.le z b[0]:=by
  intro z hz;obtain⟨j,hj,e⟩:=ZaU hz;refine u1 j z hj ?_;rw[<- Yan,Zc7 ea (by (clear hlen la hP hi;omega))];exact e
 have ka2:∀ z∈a.drop k,O.blt (O.ky b[0]) (O.ky z)=true:=by
  intro z hz;obtain⟨j,hj,e⟩:=ZaV hz;have hj2:j<a.length:=(Yab.mp e).1
  refine u2 j z hj hj2 ?_;rw[<- Yan,Zc7 ea hj2];exact e
 have bb:∀ z∈b,O.le b[0] z:=fun z hz=>ZcS sb hb0 z (by simpa using hz);dsimp only;by_cases ck:a.length - k=0
 ·rw[if_pos (by simpa using ck)];have ek:a.take k=a:=Ya2 (by (clear hk1 hlen la hP hi;omega));rw[ek] at ka1;refine wpS_pure (fin _ (a++b) (Yb8 _) (Ya0.mpr ⟨sa,sb,fun x hx y hy=>KO.le_trans (ka1 x hx) (bb y hy)⟩) ?_ hR.kind hR.failed new);show (arrOf st).toList=_;rw[ea];simp
 rw[if_neg (by simpa using ck)];have hla:a[a.length - 1]?=some a[a.length - 1]:=Yad (by (clear ck hk1 hlen hP hi;omega));have mla:a[a.length - 1]∈a:=Ybq _;have mla2:a[a.length - 1]∈a.drop k:=by
  refine YcP.mpr ⟨a.length - 1 - k,?_⟩;rw[Yda,show k+(a.length - 1 - k)=a.length - 1 by (clear hk1 hP hi;omega)];exact hla
 have ela:(arrOf st)[R1.flatten.length+k+(a.length - k) - 1]?=some a[a.length - 1]:=by
  rw[<- Yan,show R1.flatten.length+k+(a.length - k) - 1=R1.flatten.length+(a.length - 1) by (clear ck hP hi;omega),Zc7 ea (by (clear ck hk1 hP hi;omega))];exact hla
 refine wpS_bind (Zas ela ?_);refine wpS_bind (Zbb hA hR.kind (oka _ mla) oks (show R1.flatten.length+a.length+b.length<=(arrOf st).size by (clear ck hk1 hP hi;omega)) (by rw[<- Yaf];exact Zlc eb sb) (by (clear ck hk1 hP hi;omega)) fun n hn1 v1 v2=>?_);have kb1:∀ z∈b.take n,O.blt (O.ky z) (O.ky a[a.length - 1])=true:=by
  intro z hz;obtain⟨j,hj,e⟩:=ZaU hz;refine v1 j z hj ?_;rw[<- Yan,<- Yaf,Zc7 eb (by (clear ck hk1 hP hi;omega))];exact e
 have kb2:∀ z∈b.drop n,O.le a[a.length - 1] z:=by
  intro z hz;obtain⟨j,hj,e⟩:=ZaV hz;have hj2:j<b.length:=(Yab.mp e).1
  refine v2 j z hj hj2 ?_;rw[<- Yan,<- Yaf,Zc7 eb hj2];exact e
 have hn0:1<=n:=by
  rcases YdS n with z | z
  ·subst z;have q1:=ka2 _ mla2;rw[show O.blt (O.ky b[0]) (O.ky a[a.length - 1])=false from kb2 b[0] (by simpa using mb0)] at q1;cases q1
  ·exact z
 have aa:∀ z∈a,O.le z a[a.length - 1]:=fun z hz=>Zi4 sa hla z (by rw[show a.length - 1+1=a.length by (clear hn0 hn1 ck hk1 hP hi;omega),YaN];exact hz);dsimp only;rw[if_neg (by simp;(clear hn1 ck hk1 hP hi;omega))];have exx:((arrOf st).extract (R1.flatten.length+k) (R1.flatten.length+a.length)).toList=a.drop k :=
  Zjq (P:=R1.flatten++a.take k) (S:=b++(R2.flatten++rest)) (by rw[ea];simp[<- Yav];simp[Yav,YaH]) (by simp;(clear hn0 hn1 ck hP hi;omega)) (by simp;(clear hn0 hn1 ck hk1 hP hi;omega))
 have exy:((arrOf st).extract (R1.flatten.length+a.length) (R1.flatten.length+a.length+n)).toList=b.take n :=
  Zjq (P:=R1.flatten++a) (S:=b.drop n++(R2.flatten++rest)) (by rw[eb];simp only[Yav];rw[<- Yav (b.take n),YaH]) (by simp) (by simp;(clear hn0 ck hk1 hP hi;omega))
 have sx:O.Srt (a.drop k):=sa.drop;have sy:O.Srt (b.take n):=sb.take;have after:∀ (r:Array Keyed) (τ:SortSt),Gal (YdK (kindOf st) (arrOf st) (((pendingOf st).setIfInBounds i (R1.flatten.length,a.length+b.length,w1)).eraseIdxIfInBounds (i+1)) (gallopOf st) (failedOf st)) τ->Mg O (a.drop k) (b.take n) r.toList ->
   Q true (YdK (kindOf τ) (r.toList.zipIdx.foldl (fun a (q:Keyed × Nat)=>a.setIfInBounds (R1.flatten.length+k+q.2) q.1) (arrOf τ)) (pendingOf τ) (gallopOf τ) (failedOf τ)):=by
  intro r τ hG hM;have mem:∀ z∈r.toList,z∈a.drop k∨z∈b.take n:=fun z hz=>Yam.mp (hM.1.mem_iff.mp hz);refine fin _ (a.take k++r.toList++b.drop n) ?_ (srt3 sa.take hM.2 sb.drop (fun p hp q hq=>?_) (fun p hp q hq=>?_) fun p hp q hq=>?_) ?_ (hG.1.trans hR.kind) (hG.2.2.2.trans hR.failed) (by rw[show pendingOf τ=_ from hG.2.2.1];exact new)
  ·have p1:(a.take k++r.toList++b.drop n).Perm (a.take k++(a.drop k++b.take n)++b.drop n):=Ydf _ (YbK _ hM.1);refine p1.trans (Yfa ?_);rw[<- Yav,YaH,Yav,YaH]
  ·rcases mem q hq with m | m
   ·refine (Ya0.mp (show O.Srt (a.take k++a.drop k) from by rw[YaH];exact sa)).2.2 p hp q m
   ·exact KO.le_trans (ka1 p hp) (bb q (Ybk m))
  ·rcases mem p hp with m | m
   ·exact KO.le_trans (aa p (Yba m)) (kb2 q hq)
   ·refine (Ya0.mp (show O.Srt (b.take n++b.drop n) from by rw[YaH];exact sb)).2.2 p m q hq
  ·exact KO.le_trans (ka1 p hp) (bb q (Yba hq))
  ·show (YeN _ (arrOf τ) _).toList=_;rw[show arrOf τ=arrOf st from hG.2.1];have:=ZdR r.toList 0 (R1.flatten.length+k) (arrOf st) (R1.flatten++a.take k) (a.drop k++b.take n) (b.drop n++(R2.flatten++rest)) ?_ (by rw[hM.1.length_eq]) (by simp;(clear hn0 hn1 ck hP hi;omega))
   ·rw[this];simp
   ·rw[eb];simp only[Yav];rw[<- Yav (a.take k),YaH,<- Yav (b.take n),YaH]
 have xsz:((arrOf st).extract (R1.flatten.length+k) (R1.flatten.length+a.length)).size=a.length - k:=by
  rw[<- Ya4,exx,Ybg]
 have ysz:((arrOf st).extract (R1.flatten.length+a.length) (R1.flatten.length+a.length+n)).size=n:=by
  rw[<- Ya4,exy,Yay];(clear xsz hn0 ck hk1 hP hi;omega)
 have y0:∀ y,((arrOf st).extract (R1.flatten.length+a.length) (R1.flatten.length+a.length+n))[0]?=some y->y=b[0]:=by
  intro y e;rw[<- Yan,exy,Yb7 (by (clear ysz xsz hn1 ck hk1 hP hi;omega)),hb0] at e;exact (YaL e).symm
 have xl:∀ z,((arrOf st).extract (R1.flatten.length+k) (R1.flatten.length+a.length))[((arrOf st).extract (R1.flatten.length+k) (R1.flatten.length+a.length)).size - 1]?=some z->z=a[a.length - 1]:=by
  intro z e;rw[xsz,<- Yan,exx,Yda,show k+(a.length - k - 1)=a.length - 1 by (clear ysz xsz hn0 hn1 hk1 hP hi;omega),hla] at e;exact (YaL e).symm
 have hx1:1<=((arrOf st).extract (R1.flatten.length+k) (R1.flatten.length+a.length)).size:=by rw[xsz];(clear ysz xsz hn0 hn1 hk1 hP hi;omega)
 have hy1:1<=((arrOf st).extract (R1.flatten.length+a.length) (R1.flatten.length+a.length+n)).size:=by rw[ysz];(clear hx1 ysz xsz hn1 ck hk1 hP hi;omega)
 refine ZaB (fun _=>?_) (fun _=>?_)
 ·refine wpS_bind (ZfN hA hR.kind (by rw[exx];exact fun x hx=>oka x (Yba hx)) (by rw[exy];exact fun x hx=>okb x (Ybk hx)) (by rw[exx];exact sx) (by rw[exy];exact sy) hx1 hy1 ?_ ?_ ?_)
  ·intro y e x hx;rw[y0 y e];rw[exx] at hx;exact KO.le_of_lt (ka2 x hx)
  ·intro z e y hy;rw[xl z e];rw[exy] at hy;exact kb1 y hy
  ·intro r τ hG hM;rw[exx,exy] at hM;refine wpS_bind (wpS_modify (wpS_bind (wpS_get ?_)));have e9:failedOf τ=none:=hG.2.2.2.trans hR.failed;refine wpS_pure ?_;show Q (failedOf τ).isNone _;rw[e9];exact after r τ hG hM
 ·refine wpS_bind (ZfO hA hR.kind (by rw[exx];exact fun x hx=>oka x (Yba hx)) (by rw[exy];exact fun x hx=>okb x (Ybk hx)) (by rw[exx];exact sx) (by rw[exy];exact sy) hx1 hy1 ?_ ?_ ?_)
  ·intro y e x hx;rw[y0 y e];rw[exx] at hx;exact ka2 x hx
  ·intro z e y hy;rw[xl z e];rw[exy] at hy;exact KO.le_of_lt (kb1 y hy)
  ·intro r τ hG hM;rw[exx,exy] at hM;refine wpS_bind (wpS_modify (wpS_bind (wpS_get ?_)));have e9:failedOf τ=none:=hG.2.2.2.trans hR.failed;refine wpS_pure ?_;show Q (failedOf τ).isNone _;rw[e9];exact after r τ hG hM
end
end L2
namespace L2
open PySem PyProof.Rows
section
variable {prog:Program}{w:World}{A:Around}{E:Value->Shared->Prop}{s:Shared}{O:KO}{knd:SortKind}{ok:Keyed->Prop}{st τ:SortSt}
theorem Zmn {c:Prop} [Decidable c] {a b n:Nat} (h1:a<=n) (h2:b<=n):(if c then a else b)<=n:=by split <;> assumption
theorem Zce {α:Type}:∀ {l:List α}{i:Nat},i+1<l.length->∃ R1 a b R2,l=R1++a::b::R2/\R1.length=i
 | [],_,h=>by simp at h
 | [_],_,h=>by simp at h
 | a::b::l,0,_=>⟨[],a,b,l,rfl,rfl⟩
 | a::b::l,i+1,h=>by
  obtain⟨R1,x,y,R2,e,q⟩:=Zce (l:=b::l) (i:=i) (by simpa using h);exact⟨a::R1,x,y,R2,by rw[e];rfl,by simp[q]⟩
theorem RI.len {a₀ rest:List Keyed}{runs:List (List Keyed)} (h:RI O knd a₀ runs rest st):(pendingOf st).size=runs.length:=by
 rw[<- Ya4,<- ZcL 0 runs,<- h.pend,Yaa]
theorem RI.size {a₀ rest:List Keyed}{runs:List (List Keyed)} (h:RI O knd a₀ runs rest st):(arrOf st).size=runs.flatten.length+rest.length:=by
 rw[<- Ya4,h.arr,Yaf]
theorem RI.size0 {a₀ rest:List Keyed}{runs:List (List Keyed)} (h:RI O knd a₀ runs rest st):(arrOf st).size=a₀.length:=by
 rw[<- Ya4,h.perm.length_eq]
theorem Zil:∀ {runs:List (List Keyed)},(∀ r∈runs,1<=r.length)->runs.length<=runs.flatten.length
 | [],_=>by simp
 | r::rs,h=>by
  have q:=Zil (runs:=rs) fun x hx=>h x (by simp[hx]);have:=h r (by simp);simp only[Yaz,YaR,Yaf];omega
theorem Zno {a₀ rest:List Keyed}{runs:List (List Keyed)}{n:Nat} (h:RI O knd a₀ runs rest st) (hF:FB knd (arrOf st) (pendingOf st) runs.flatten.length τ) (hu:Up O runs.flatten.length n (arrOf τ)) (hn:n<=rest.length) :
  ∃ r rest',r.length=n/\O.Srt r/\rest.length=n+rest'.length/\RI O knd a₀ runs (r++rest') τ:=by
 have hpm:=Yev.mp hF.perm;have hsz:(arrOf τ).size=runs.flatten.length+rest.length:=by rw[hF.size,h.size]
 have e1:(arrOf τ).toList.take runs.flatten.length=runs.flatten:=by
  have:(arrOf τ).toList.take runs.flatten.length=(arrOf st).toList.take runs.flatten.length:=by
   apply YdW;intro i;rcases YbI i runs.flatten.length with hi | hi
   ·rw[Yb7 hi,Yb7 hi,Yan,Yan];exact hF.keep i hi
   ·rw[YcR (by rw[Yay];(clear hsz hn;omega)),YcR (by rw[Yay];(clear hsz hn;omega))]
  rw[this,h.arr,YeH]
 have e2:(arrOf τ).toList=runs.flatten++(arrOf τ).toList.drop runs.flatten.length:=by
  conv=>lhs;rw[<- YaH runs.flatten.length (arrOf τ).toList,e1]
 have lr:((arrOf τ).toList.drop runs.flatten.length).length=rest.length:=by
  rw[Ybg,Ya4];(clear hn;omega)
 refine⟨((arrOf τ).toList.drop runs.flatten.length).take n,((arrOf τ).toList.drop runs.flatten.length).drop n,by rw[Yay];(clear hsz;omega),?_,by rw[Ybg];(clear hsz;omega),⟨by rw[YaH];exact e2,hpm.trans h.perm,h.srt,h.ne,hF.kind,hF.failed,by rw[hF.pend];exact h.pend⟩⟩;refine YeI.mpr fun i j hi hj hij=>?_;rw[Yay] at hi hj;have q:=hu i j (by (clear hj hi lr hsz hn;omega)) (by (clear hij hi lr hsz hn;omega));rw[YdV,YdV,Yfw,Yfw];have g:∀ k (hk:runs.flatten.length+k<(arrOf τ).toList.length),ka O (arrOf τ) (runs.flatten.length+k)=O.ky ((arrOf τ).toList[runs.flatten.length+k]):=by
  intro k hk;unfold ka;rw[<- Yan,Yad hk];rfl
 have hlt:(arrOf τ).toList.length=runs.flatten.length+rest.length:=by rw[Ya4];exact hsz
 rw[g i (by (clear hij hj lr hsz;omega)),g j (by (clear hij lr hsz;omega))] at q;exact q
theorem RI.push {a₀ rest r:List Keyed}{runs:List (List Keyed)}{lo n:Nat} (h:RI O knd a₀ runs (r++rest) st) (hs:O.Srt r) (hr:r.length=n) (hn:1<=n) (hl:lo=runs.flatten.length):RI O knd a₀ (runs++[r]) rest (setPending st ((pendingOf st).push (lo,n,0))):=by
 refine⟨?_,h.perm,?_,?_,h.kind,h.failed,?_⟩
 ·show (arrOf st).toList=_;rw[h.arr];simp
 ·intro x hx;rcases Yam.mp hx with hx | hx
  ·exact h.srt x hx
  ·rw[YaD.mp hx];exact hs
 ·intro x hx;rcases Yam.mp hx with hx | hx
  ·exact h.ne x hx
  ·rw[YaD.mp hx];(clear hl;omega)
 ·show ((pendingOf st).push (lo,n,0)).toList.map pr=_;rw[YcM,Yau,h.pend,ZbQ,hl,<- hr];simp[pos,pr]
theorem RI.pow {a₀ rest:List Keyed}{runs:List (List Keyed)}{pw:Nat} (h:RI O knd a₀ runs rest st):RI O knd a₀ runs rest (setPending st ((pendingOf st).modify ((pendingOf st).size - 1) fun x=>(x.1,x.2.1,pw))):=by
 refine⟨h.arr,h.perm,h.srt,h.ne,h.kind,h.failed,?_⟩;show ((pendingOf st).modify _ _).toList.map pr=_;rw[<- h.pend];apply YdW;intro i;rw[Yat,Yat,Yan,Yan,Array.getElem?_modify];split
 ·cases (pendingOf st)[i]? <;> rfl
 ·rfl
theorem ZfM {a₀:Array Keyed}{Q:Unit->SortSt->Prop} (hA:Asks prog w A s O knd ok) (h0:∀ x∈a₀.toList,ok x) (ha:arrOf st=a₀) (hk:kindOf st=knd) (hf:failedOf st=none) (hp:pendingOf st=#[])
  (h:∀ τ,(arrOf τ).toList.Perm a₀.toList->failedOf τ=none->O.Srt (arrOf τ).toList->Q () τ):wpS (model prog w) A E s sortRuns' Q st:=by
 refine wpS_bind (wpS_get ?_);dsimp only;have hN:(arrOf st).size=a₀.size:=by rw[ha]
 have hN2:a₀.toList.length=a₀.size:=Ya4;rw[hN];refine wpS_bind (wpS_mono (wpS_forRange
  (I:=fun x c τ=>∃ lo runs rest,c=((none:Option Unit),lo)/\RI O knd a₀.toList runs rest τ/\lo=runs.flatten.length/\(x<=lo))
  (Q:=fun c τ=>∃ lo runs,c=((none:Option Unit),lo)/\RI O knd a₀.toList runs [] τ) ?go ?out ⟨0,[],a₀.toList,rfl,⟨by rw[ha];simp,by rw[ha],(fun r hr=>nomatch hr),(fun r hr=>nomatch hr),hk,hf,by rw[hp];rfl⟩,rfl,Yak 0⟩) ?fin)
 case out=>
  rintro c τ ⟨lo,runs,rest,rfl,hR,e1,e2⟩;have q1:=hR.size;have q2:=hR.size0;have q3:=hN2;have:rest=[]:=YbH.mp (by
   have q4:max 0 a₀.size<=lo:=e2
   (clear q4 q3 hN;omega))
  subst this;exact⟨lo,runs,rfl,hR⟩
 case fin=>
  rintro c τ ⟨lo,runs,rfl,hR⟩;dsimp only;have q1:=hR.size;have q2:=Zil hR.ne;have q3:=hN2;have q4:=hR.size0;refine wpS_bind (wpS_mono (wpS_forRange (I:=fun x c τ'=>c=((none:Option Unit),())/\∃ runs',RI O knd a₀.toList runs' [] τ'/\runs'.length+x<=a₀.size)
   (Q:=fun c τ'=>c=((none:Option Unit),())/\∃ runs',RI O knd a₀.toList runs' [] τ'/\runs'.length<=1) ?g2 ?o2 ⟨rfl,runs,hR,by simp only[YcB] at q1;(clear q3 hN;omega)⟩) ?f2)
  case o2=>
   rintro c τ' ⟨hc,runs',hR',e⟩;have e:runs'.length+max 0 a₀.size<=a₀.size:=e;exact⟨hc,runs',hR',by (clear e q4 q3 q2 q1 hN2 hN;omega)⟩
  case f2=>
   rintro c τ' ⟨rfl,runs',hR',e⟩;refine wpS_pure (h τ' hR'.perm hR'.failed ?_);rw[hR'.arr,Ybb]
   match runs',e,hR' with
   | [],_,_=>exact Ycd
   | [r],_,hR'=>simpa using hR'.srt r (by simp)
  case g2=>
   rintro x c τ' _ _ ⟨rfl,runs',hR',e⟩;refine wpS_bind (wpS_get ?_);by_cases c1:(pendingOf τ').size<=1
   ·rw[if_pos c1];exact wpS_pure ⟨rfl,runs',hR',by rw[<- hR'.len];exact c1⟩
   rw[if_neg c1];have key:∀ j,j<=(pendingOf τ').size - 2->wpS (model prog w) A E s (mergeAt' j) (fun b τ3=>b=true/\∃ runs',RI O knd a₀.toList runs' [] τ3/\runs'.length+(x+1)<=a₀.size) τ':=by
    intro j hj;obtain⟨R1,a,b,R2,e3,e4⟩:=Zce (l:=runs') (i:=j) (by rw[<- hR'.len];(clear e q4 q3 q2 q1 hN2 hN;omega));subst e3;refine Zb0 hA h0 hR' e4 fun m τ3 pm hR3=>⟨rfl,_,hR3,?_⟩
    simp only[Yaf,Yaz] at e ⊢
    (clear e4 hj c1 q4 q3 q2 q1 hN2 hN;omega)
   refine wpS_bind (wpS_mono (key _ ?_) ?_)
   ·have:=hR'.len;rw[show (pendingOf τ').size=runs'.length from this];exact Zmn (by (clear this c1 e q4 q3 q2 q1 hN2 hN;omega)) (by (clear this c1 e q4 q3 q2 q1 hN2 hN;omega))
   ·rintro b τ3 ⟨rfl,runs3,hR3,e3⟩;simp only[YcE,YaQ,if_false];exact wpS_pure ⟨rfl,runs3,hR3,e3⟩
 case go=>
  rintro x c τ _ hx ⟨lo,runs,rest,rfl,hR,e1,e2⟩;have q1:=hR.size;have q2:=hR.size0;have q3:=hN2;dsimp only;by_cases c0:lo ≥ a₀.size
  ·rw[if_pos c0];have:rest=[]:=YbH.mp (by (clear q3 e2 hx hN;omega));subst this;exact wpS_pure ⟨lo,runs,rfl,hR⟩
  rw[if_neg c0];have oks:∀ x∈(arrOf τ).toList,ok x:=fun x hx=>h0 x (hR.perm.mem_iff.mp hx);refine wpS_bind (ZlA (b₀:=arrOf τ) (p₀:=pendingOf τ) (lo:=lo) hA oks ⟨Array.Perm.refl _,fun _ _=>rfl,hR.kind,hR.failed,rfl⟩ (by (clear c0 q3 e2 hx hN;omega)) (by (clear q3 q2 q1 e2 e1 hx hN2 hN;omega)) fun m τ1 hF m1 m2 u=>?_);dsimp only;refine ZaB (fun cm=>?_) (fun cm=>?_)
  ·refine wpS_bind (wpS_lift (wpAny_rule ⟨rfl,?_⟩));refine wpS_bind (ZlB hA oks hF (by (clear cm m2 m1 c0 q3 e2 hx hN;omega)) m1 (by (clear m1 c0 q3 q2 q1 e2 e1 hx hN2 hN;omega)) u fun τ2 hF2 u2=>?_);simp only[YcE,YaQ,if_false];rw[e1] at hF2 u2;obtain⟨r,rest',hr,hs,hl,hR2⟩:=Zno hR hF2 u2 (by (clear cm m2 m1 c0 q3 e2 e1 hx hN;omega));rw[<- e1] at hr;have h1n:1<=r.length:=by (clear hl m2 m1 q3 q2 q1 e2 e1 hx hN2 hN;omega)
   rw[hr] at h1n;refine wpS_bind (wpS_get ?_)
   cases eb:(pendingOf τ2).back? with
   | none=>
    dsimp only;exact wpS_bind (wpS_modify (wpS_pure ⟨_,runs++[r],rest',rfl,hR2.push hs hr h1n e1,by simp[hr,e1],by (clear h1n hl hr m2 m1 c0 q3 q2 q1 e1 hN2 hN;omega)⟩))
   | some p=>
    obtain⟨s1,n1,w1⟩:=p;dsimp only;refine wpS_bind (wpS_mono (wpS_forRange (I:=fun _ c τ'=>c=((none:Option Unit),())/\∃ runs',RI O knd a₀.toList runs' (r++rest') τ'/\runs'.flatten.length=lo)
     (Q:=fun c τ'=>c=((none:Option Unit),())/\∃ runs',RI O knd a₀.toList runs' (r++rest') τ'/\runs'.flatten.length=lo) ?g2 (fun _ _ z=>z) ⟨rfl,runs,hR2,e1.symm⟩) ?f2)
    case f2=>
     rintro c τ' ⟨rfl,runs',hR',e⟩;exact wpS_bind (wpS_modify (wpS_bind (wpS_modify (wpS_pure ⟨_,runs'++[r],rest',rfl,hR'.pow.push hs hr h1n e.symm,by simp[hr,e],by (clear e h1n hl hr m2 m1 c0 q3 q2 q1 e1 hN2 hN;omega)⟩))))
    case g2=>
     rintro y c τ' _ _ ⟨rfl,runs',hR',e⟩;refine wpS_bind (wpS_get ?_);by_cases c1:(pendingOf τ').size > 1
     ·rw[if_pos c1]
      cases ep:(pendingOf τ')[(pendingOf τ').size - 2]? with
      | none=>exact wpS_pure ⟨rfl,runs',hR',e⟩
      | some p=>
       obtain⟨s3,n3,w3⟩:=p;dsimp only;refine ZaB (fun _=>wpS_pure ⟨rfl,runs',hR',e⟩) (fun _=>?_);obtain⟨R1,a,b,R2,e3,e4⟩:=Zce (l:=runs') (i:=(pendingOf τ').size - 2) (by rw[<- hR'.len];(clear e h1n hl hr cm m2 m1 c0 q3 q2 q1 e2 e1 hx hN2 hN;omega));subst e3;refine wpS_bind (Zb0 hA h0 hR' e4 fun m τ3 pm hR3=>?_);simp only[YcE,YaQ,if_false];refine wpS_pure ⟨rfl,_,hR3,?_⟩;rw[<- e];have:=pm.length_eq;simp only[YbB,YaR,Yaf] at this ⊢
       (clear e e4 c1 h1n hl hr cm m2 m1 c0 q3 q2 q1 e2 e1 hx hN2 hN;omega)
     ·rw[if_neg c1];exact wpS_pure ⟨rfl,runs',hR',e⟩
  ·rw[e1] at hF u;obtain⟨r,rest',hr,hs,hl,hR2⟩:=Zno hR hF u (by (clear cm m1 c0 q3 e2 hx hN;omega));have h1n:1<=m:=m1;refine wpS_bind (wpS_get ?_)
   cases eb:(pendingOf τ1).back? with
   | none=>
    dsimp only;exact wpS_bind (wpS_modify (wpS_pure ⟨_,runs++[r],rest',rfl,hR2.push hs hr h1n e1,by simp[hr,e1],by (clear h1n hl hr cm m2 c0 q3 q2 q1 e1 hx hN2 hN;omega)⟩))
   | some p=>
    obtain⟨s1,n1,w1⟩:=p;dsimp only;refine wpS_bind (wpS_mono (wpS_forRange (I:=fun _ c τ'=>c=((none:Option Unit),())/\∃ runs',RI O knd a₀.toList runs' (r++rest') τ'/\runs'.flatten.length=lo)
     (Q:=fun c τ'=>c=((none:Option Unit),())/\∃ runs',RI O knd a₀.toList runs' (r++rest') τ'/\runs'.flatten.length=lo) ?g2 (fun _ _ z=>z) ⟨rfl,runs,hR2,e1.symm⟩) ?f2)
    case f2=>
     rintro c τ' ⟨rfl,runs',hR',e⟩;exact wpS_bind (wpS_modify (wpS_bind (wpS_modify (wpS_pure ⟨_,runs'++[r],rest',rfl,hR'.pow.push hs hr h1n e.symm,by simp[hr,e],by (clear e h1n hl hr cm m2 c0 q3 q2 q1 e1 hx hN2 hN;omega)⟩))))
    case g2=>
     rintro y c τ' _ _ ⟨rfl,runs',hR',e⟩;refine wpS_bind (wpS_get ?_);by_cases c1:(pendingOf τ').size > 1
     ·rw[if_pos c1]
      cases ep:(pendingOf τ')[(pendingOf τ').size - 2]? with
      | none=>exact wpS_pure ⟨rfl,runs',hR',e⟩
      | some p=>
       obtain⟨s3,n3,w3⟩:=p;dsimp only;refine ZaB (fun _=>wpS_pure ⟨rfl,runs',hR',e⟩) (fun _=>?_);obtain⟨R1,a,b,R2,e3,e4⟩:=Zce (l:=runs') (i:=(pendingOf τ').size - 2) (by rw[<- hR'.len];(clear e h1n hl hr cm m2 m1 c0 q3 q2 q1 e2 e1 hx hN2 hN;omega));subst e3;refine wpS_bind (Zb0 hA h0 hR' e4 fun m τ3 pm hR3=>?_);simp only[YcE,YaQ,if_false];refine wpS_pure ⟨rfl,_,hR3,?_⟩;rw[<- e];have:=pm.length_eq;simp only[YbB,YaR,Yaf] at this ⊢
       (clear e e4 c1 h1n hl hr cm m2 m1 c0 q3 q2 q1 e2 e1 hx hN2 hN;omega)
     ·rw[if_neg c1];exact wpS_pure ⟨rfl,runs',hR',e⟩
end
end L2
namespace L2
open PySem PySem.Spec PyProof.Rows PySem.SeqAt
section
variable {prog:Program}{w:World}{A:Around}{E:Value->Shared->Prop}{s:Shared}
end
section
variable {X:Cx}
end
theorem Zek {b:Bool}{K:Yac}{own:List Str}{js:List Nat}{g:TG}{tt:TT}{te:TE}{σ:St}{H1:Hp}{Q:VK}{a:Addr}{xs:List V} (Pv:Addr->Nat->Hp->Prop) (h0:∀ acc,H1 acc=none->Pv acc 0 (upd H1 acc (.lst []))) (hl:∀ acc i H,H1 acc=none->i<=xs.length->Pv acc i H->SqB b K H a xs)
  (hs:∀ acc i x p H,H1 acc=none->xs[i]?=some x->Pv acc i H->H p=none->g (.ref p) (blkσ own js σ) (upd H p (.tup [.int i,x])) fun τ H4=>tt τ H4 fun c H5=>
   if c=true then te τ H5 fun y H6=>∃ ys,H6 acc=some (.lst ys)/\ys.length<sizeLine/\(i+1<=xs.length/\Pv acc (i+1) (upd H6 acc (.lst (ys++[y])))) else (i+1<=xs.length/\Pv acc (i+1) H5))
  (hd:∀ acc H,H1 acc=none->Pv acc xs.length H->Q (.ref acc) H):Zby own js g tt te σ (IteB b K a) H1 Q:=by
 intro acc hacc;refine⟨fun i H=>i<=xs.length/\Pv acc i H,xs.length,⟨YaY _,h0 acc hacc⟩,?_⟩;rintro i H ⟨hi,p⟩;have q:=hl acc i H hacc hi p;by_cases hlt:i<xs.length
 ·refine .inr ⟨hlt,by cases b <;> exact⟨xs,xs[i],q,by simp[hlt]⟩,fun x H' y=>?_⟩;have y:∃ pa z,H pa=none/\x=.ref pa/\H'=upd H pa (.tup [.int i,z])/\xs[i]?=some z:=by
   cases b with
   | true=>obtain⟨pa,z,hp,e1,e2,y⟩:=y;exact⟨pa,z,hp,e1,e2,y xs q⟩
   | false=>obtain⟨pa,z,hp,e1,e2,y⟩:=y;exact⟨pa,z,hp,e1,e2,y xs q⟩
  obtain⟨pa,z,hp,e1,e2,y'⟩:=y;subst e1 e2;exact hs acc i z pa H hacc y' p hp
 ·have e:i=xs.length:=by omega
  subst e;exact .inl ⟨by cases b <;> exact⟨xs,q,Yak _⟩,hd acc H hacc p⟩
end L2
namespace L2
open PySem PyProof.Rows
section
variable {prog:Program}{w:World}{A:Around}{E:Value->Shared->Prop}{s:Shared}{O:KO}{knd:SortKind}{ok:Keyed->Prop}
def Ord2 (O:KO) (b:Bool) (us:List Value):Prop:=us.Pairwise fun u v=>if b=true then O.le (v,v) (u,u) else O.le (u,u) (v,v)
theorem Zm5 {vs:List Value}{out:List Keyed} (hp:out.Perm (vs.zip vs)) (hs:O.Srt out) (b:Bool):∃ us:List Value,(if b=true then (out.map (·.2)).reverse else out.map (·.2))=us/\us.Perm vs/\Ord2 O b us:=by
 have hm:∀ p∈out,p=(p.2,p.2):=fun p hp'=>by
  have:=(mem_zip_self (hp.mem_iff.mp hp')).1
  exact Prod.ext this rfl
 have p1:(out.map (·.2)).Perm vs:=by
  have:=hp.map (·.2)
  rwa [List.map_snd_zip (Yak _)] at this
 have s1:(out.map (·.2)).Pairwise fun u v=>O.le (u,u) (v,v):=by
  rw[Ybf];refine hs.imp_of_mem fun {x y} hx hy q=>?_;rw[hm x hx,hm y hy] at q;exact q
 cases b with
 | false=>exact⟨_,rfl,p1,by simpa[Ord2] using s1⟩
 | true=>exact⟨_,rfl,(Ydg _).trans p1,by simp only[Ord2,if_true,Ydx];exact s1⟩
theorem Zii {a:Addr}{vs:List Value}{n:Nat}{h:Heap} (ho:h.get? a=some (seqObj "list" vs.toArray n)) {b:Addr}{o:Obj} (hb:h.get? b=some o) (hne:b≠a):(((h.update a (YbZ fun _=>#[])).push (seqObj "tuple" vs.toArray 0)).push (seqObj "list" #[] 0)).get? b=some o :=
 Yae _ (Yae _ (by rw[Yfg _ _ _ _ hne];exact hb))
theorem Zj2 {a:Addr}{vs:List Value}{n:Nat}{P:PySem.Fin->Shared->Prop} (ho:s.heap.get? a=some (seqObj "list" vs.toArray n)) (hz:vs.length<=sizeLine)
  (hkk:∀ h',(∀ b o,s.heap.get? b=some o->b≠a->h'.get? b=some o)->2<=vs.length->∀ Q:SortKind->Shared->Prop,Q knd { s with heap:=h' }->wpAny (model prog w) A (keyKind' vs.toArray) Q E { s with heap:=h' })
  (hA:∀ h',(∀ b o,s.heap.get? b=some o->b≠a->h'.get? b=some o)->Asks prog w A { s with heap:=h' } O knd ok) (hok:∀ v∈vs,ok (v,v))
  (h:∀ us:List Value,us.Perm vs->Ord2 O false us->P (.done (.ret .none)) { s with heap:=sortedHeap s.heap a vs us.toArray }):wpAny (model prog w) A (Builtin.«list.sort» ⟨[.ref a],[]⟩) P E s:=by
 have ha:a<s.heap.objs.size:=Yap ho;have keep:=fun (b:Addr) (o:Obj) (hb:s.heap.get? b=some o) (hne:b≠a)=>Zii ho hb hne;obtain⟨e1,ho1⟩:∃ c,(s.heap.update a (YbZ fun _=>#[])).get? a=some (seqObj "list" #[] c):=⟨_,get?_update_seq ho (fun _=>#[])⟩
 have ho6:=Yae (seqObj "list" #[] 0) (Yae (seqObj "tuple" vs.toArray 0) ho1);have hsv:vs.toArray.size=vs.length:=Yah;have hz1:vs.toArray.size<=sizeLine:=by rw[hsv];exact hz
 have fin:∀ (τ:SortSt),(arrOf τ).toList.Perm (vs.zip vs)->O.Srt (arrOf τ).toList->P (.done (.ret .none)) { s with heap:=sortedHeap s.heap a vs ((arrOf τ).map (·.2)) }:=by
  intro τ hp hs;obtain⟨us,e,p1,p2⟩:=Zm5 hp hs false;have e2:(arrOf τ).map (·.2)=us.toArray:=by rw[<- e];apply Array.toList_inj.mp;simp
  rw[e2];exact h us p1 p2
 have osz:∀ τ:SortSt,(arrOf τ).toList.Perm (vs.zip vs)->((arrOf τ).map (·.2)).size<=sizeLine+1:=by
  intro τ hp;rw[Array.size_map,<- Ya4,hp.length_eq,List.length_zip]
  (clear hz1 hsv ha;omega)
 rw[list_sort_plain];refine wpAny_bind (listItems_at ho rfl (wpAny_bind (listUpdate_at ho rfl ?_ hz1 (YaY _))));refine wpAny_bind (seqEpoch_at ho1 rfl (wpAny_bind (wpAny_newTuple ?_ hz)));refine wpAny_bind (wpAny_newList ?_ (YaY _));refine wpAny_holding ?_;show wpAny (model prog w) A _ P E ({ s with heap:=((s.heap.update a (YbZ fun _=>#[])).push (seqObj "tuple" vs.toArray 0)).push (seqObj "list" #[] 0) }:Shared);dsimp only;by_cases h2:vs.toArray.size<2
 ·rw[if_pos h2,if_pos h2];refine wpAny_bind (wpAny_pure ?_);rw[StateT.run_pure];have hp0:(vs.toArray.zip vs.toArray).toList.Perm (vs.zip vs):=by simp
  refine wpAny_bind (wpAny_pure (wpAny_bind (seqEpoch_at ho6 rfl (wpAny_bind (listUpdate_at ho6 rfl ?_ (YaY _) (osz (YdK general' (vs.toArray.zip vs.toArray) #[] 7 none) hp0))))));simp only[bne_self_eq_false,YaQ,if_false];refine wpAny_pure (fin (YdK general' (vs.toArray.zip vs.toArray) #[] 7 none) hp0 ?_);show O.Srt (vs.toArray.zip vs.toArray).toList;rw[show (vs.toArray.zip vs.toArray).toList=vs.zip vs by simp]
  match vs,h2 with
  | [],_=>exact Ycd
  | [v],_=>exact YeO _ _
 ·rw[if_neg h2,if_neg h2];refine wpAny_bind (hkk _ keep (by (clear hz1 ha hz;omega)) _ ?_);refine wpAny_bind (wpAny_mono (ZfM (a₀:=vs.toArray.zip vs.toArray) (st:=YdK knd (vs.toArray.zip vs.toArray) #[] 7 none) (Q:=fun _ τ=>(arrOf τ).toList.Perm (vs.zip vs)/\failedOf τ=none/\O.Srt (arrOf τ).toList)
   (hA _ keep) (fun x hx=>?_) rfl rfl rfl rfl fun τ a1 a2 a3=>⟨by simpa using a1,a2,a3⟩) ?_ fun _ _ z=>z)
  ·have hx:x∈vs.zip vs:=by simpa using hx
   have q:=mem_zip_self hx;rw[show x=(x.1,x.1) from Prod.ext rfl q.1.symm];exact hok _ q.2
  ·rintro⟨⟨⟩,τ⟩ s' ⟨rfl,hp,hf,hs⟩;refine wpAny_bind (seqEpoch_at ho6 rfl (wpAny_bind (listUpdate_at ho6 rfl ?_ (YaY _) (osz τ hp))));dsimp only;rw[hf];simp only[bne_self_eq_false,YaQ,if_false];exact wpAny_pure (fin τ hp hs)
theorem Zhw {l:Addr}{vs:List Value} (h:Heap):∀ b o,h.get? b=some o->(((h.push (seqObj "list" #[] 0)).update h.objs.size (YbZ (·++vs.toArray))).push (seqObj "list" vs.toArray 0)).get? b=some o:=by
 intro b o q;have hlt:b<h.objs.size:=Yap q;refine Yae _ ?_;rw[Yfg _ _ _ _ (YaU hlt)];exact Yae _ q
structure Sortable (prog:Program) (w:World) (s:Shared) (O:KO) (vs:List Value):Prop where
 ex:∃ (knd:SortKind) (ok:Keyed->Prop),(∀ v∈vs,ok (v,v))/\(∀ A h',(∀ b o,s.heap.get? b=some o->h'.get? b=some o)->Asks prog w A { s with heap:=h' } O knd ok) /\
  ∀ (A:Around) (E:Value->Shared->Prop) h',(∀ b o,s.heap.get? b=some o->h'.get? b=some o)->2<=vs.length->∀ Q:SortKind->Shared->Prop,Q knd { s with heap:=h' }->wpAny (model prog w) A (keyKind' vs.toArray) Q E { s with heap:=h' }
theorem Zdn {l:Addr}{vs:List Value}{Q:Value->Shared->Prop} (hl:s.heap.IsList l vs.toArray) (hz:vs.length<=sizeLine) (hS:Sortable prog w s O vs)
  (h:∀ us:List Value,us.Perm vs->Ord2 O false us->Q (.ref (s.heap.objs.size+1)) { s with heap:=sortedAll s.heap vs us.toArray }):wpAny (model prog w) A (call (.builtin "sorted") [.ref l]) Q E s:=by
 obtain⟨knd,ok,h1,h2,h3⟩:=hS.ex;have zz:((s.heap.push (seqObj "list" #[] 0)).update s.heap.objs.size (YbZ (·++vs.toArray))).objs.size=s.heap.objs.size+1:=by rw[Heap.size_update,size_push']
 have at1:(((s.heap.push (seqObj "list" #[] 0)).update s.heap.objs.size (YbZ (·++vs.toArray))).push (seqObj "list" vs.toArray 0)).get? (s.heap.objs.size+1)=some (seqObj "list" vs.toArray 0):=by
  have:=YaB ((s.heap.push (seqObj "list" #[] 0)).update s.heap.objs.size (YbZ (·++vs.toArray))) (o:=seqObj "list" vs.toArray 0) rfl
  rwa [zz] at this
 refine Calls.call_function_entry kind_sorted plain_sorted entry_sorted (args_sorted1 _) ?_;unfold Builtin.«sorted»;refine wpAny_bind (m:=checkCount "sorted" 1 1 _) (wpAny_pure (wpAny_bind (collect_list hl (wpAny_bind (wpAny_newList ?_ hz)) hz)));show wpAny _ _ _ _ _ { s with heap:=((s.heap.push (seqObj "list" #[] 0)).update s.heap.objs.size (YbZ (·++vs.toArray))).push (seqObj "list" vs.toArray 0) };rw[zz];have up:∀ h':Heap,(∀ b o,(((s.heap.push (seqObj "list" #[] 0)).update s.heap.objs.size (YbZ (·++vs.toArray))).push (seqObj "list" vs.toArray 0)).get? b=some o->b≠s.heap.objs.size+1->h'.get? b=some o)->∀ b o,s.heap.get? b=some o->h'.get? b=some o:=fun h' k b o q=>
  k b o (Zhw (l:=l) s.heap b o q) (YaU (Yd0 (Yap q)))
 exact wpAny_bind (wpAny_holding (wpAny_call_entry slot_list_sort ⟨_,at1,rfl⟩ entry_list_sort (Zj2 at1 hz (fun h' k hl2 Q' q=>h3 _ _ h' (up h' k) hl2 Q' q) (fun h' k=>h2 _ h' (up h' k)) h1 fun us p1 p2=>⟨_,rfl,wpAny_pure ⟨_,rfl,h us p1 p2⟩⟩) (args_list_sort _)))
def KOi:KO where
 α:=Int
 blt a b:=decide (a<b)
 irrefl a:=by simp
 trans a b c h1 h2:=by simp only[decide_eq_true_eq] at *;omega
 negTrans a b c h:=by simp only[decide_eq_true_eq] at *;omega
 total a b h1 h2:=by simp only[decide_eq_false_iff_not] at *;omega
 ky p:=numOf p.1
theorem ZeD {vs:List Value}{ns:List Int} (hI:IntsAre vs ns):Sortable prog w s KOi vs:=by
 refine⟨oneType',(fun p=>∃ n t,p.1=.int n t),fun v hv=>?_,fun A h' _ x y hx hy E Q q=>?_,fun A E h' _ h2 Q q=>?_⟩
 ·obtain⟨n,t,e⟩:=hI.all v hv;exact⟨n,t,e⟩
 ·obtain⟨n,t,e1⟩:=hx;obtain⟨m,u,e2⟩:=hy;rw[keyLt'_oneType,e1,e2];refine oneLt_int ?_;have q:Q (decide (numOf x.1<numOf y.1)) { s with heap:=h' }:=q;rw[e1,e2] at q;exact q
 ·match vs,h2,hI with
  | v1::v2::r,_,hI=>
   rw[keyKind_ints hI];exact wpAny_pure q
theorem Zkq {us:List Value}{ms:List Int}{b:Bool} (hI:IntsAre us ms) (h:Ord2 KOi b us):if b=true then ms.Pairwise (· ≥ ·) else ms.Pairwise (·<=·):=by
 have e:=hI.nums;subst e
 cases b with
 | false=>
  simp only[YaQ,if_false,Ord2] at h ⊢;rw[Ybf];exact h.imp fun {x y} q=>by
   have q:decide (numOf y<numOf x)=false:=q;simpa using q
 | true=>
  simp only[if_true,Ord2] at h ⊢;rw[Ybf];exact h.imp fun {x y} q=>by
   have q:decide (numOf x<numOf y)=false:=q;simpa using q
theorem Zjh {vs us:List Value}{ns:List Int} (hI:IntsAre vs ns) (hp:us.Perm vs):∃ ms,IntsAre us ms/\ms.Perm ns:=by
 refine⟨us.map numOf,intsAre_map us fun v hv=>hI.all v (hp.mem_iff.mp hv),?_⟩;rw[<- hI.nums];exact hp.map _
def lxB:List Int->List Int->Bool
 | _,[]=>false
 | [],_::_=>true
 | a::as,b::bs=>if a=b then lxB as bs else decide (a<b)
theorem ZbT:∀ a,lxB a a=false
 | []=>rfl
 | a::as=>by rw[lxB,if_pos rfl];exact ZbT as
theorem ZbG:∀ a b c,lxB a b=true->lxB b c=true->lxB a c=true
 | _,[],_,h,_=>by rw[lxB] at h;cases h
 | _,_::_,[],_,h=>by rw[lxB] at h;cases h
 | [],_::_,_::_,_,_=>rfl
 | a::as,b::bs,c::cs,h1,h2=>by
  rw[lxB] at h1 h2 ⊢;by_cases e1:a=b
  ·subst e1;rw[if_pos rfl] at h1;by_cases e2:a=c
   ·subst e2;rw[if_pos rfl] at h2 ⊢;exact ZbG as bs cs h1 h2
   ·rw[if_neg e2] at h2 ⊢;exact h2
  ·rw[if_neg e1] at h1;have h1:=of_decide_eq_true h1;by_cases e2:b=c
   ·subst e2;rw[if_neg e1];exact decide_eq_true h1
   ·rw[if_neg e2] at h2;have h2:=of_decide_eq_true h2;rw[if_neg (by (clear e2 e1;omega))];exact decide_eq_true (by (clear e2 e1;omega))
theorem Zdx:∀ a b,lxB a b=false->lxB b a=false->a=b
 | [],[],_,_=>rfl
 | _::_,[],_,h=>by rw[lxB] at h;cases h
 | [],_::_,h,_=>by rw[lxB] at h;cases h
 | a::as,b::bs,h1,h2=>by
  rw[lxB] at h1 h2;by_cases e:a=b
  ·subst e;rw[if_pos rfl] at h1 h2;rw[Zdx as bs h1 h2]
  ·rw[if_neg e] at h1;rw[if_neg (fun z=>e z.symm)] at h2;have h1:=of_decide_eq_false h1;have h2:=of_decide_eq_false h2;omega
theorem Zga (a b c:List Int) (h:lxB a c=true):lxB a b=true∨lxB b c=true:=by
 cases e1:lxB a b with
 | true=>exact .inl rfl
 | false=>
  right
  cases e2:lxB b a with
  | true=>exact ZbG b a c e2 h
  | false=>rw[<- Zdx a b e1 e2];exact h
def KOt (ks:Addr->List Int):KO where
 α:=List Int
 blt:=lxB
 irrefl:=ZbT
 trans:=ZbG
 negTrans:=Zga
 total:=Zdx
 ky p:=match p.1 with
  | .ref a=>ks a
  | _=>[]
theorem Zi2 {b:Bool}{Q:Bool->Shared->Prop}{τ:Shared}{fin:Bool}:∀ {xs ys:List Int}{us vs:List Value}{i:Nat},IntsAre us xs->IntsAre vs ys->(Q (lxB xs ys) τ)->(fin=decide (xs.length<ys.length)) ->
  PySem.W.KatLex prog w A b fin Q (us.zip vs) i τ
 | [],[],_,_,i,.nil,.nil,q,e=>by
  rw[e];exact YdX q
 | [],y::ys,_,_,i,.nil,.cons _ _ _,q,e=>by
  rw[e];exact YdX (by simpa[lxB] using q)
 | x::xs,[],_,_,i,.cons _ _ _,.nil,q,e=>by
  rw[e];exact YdX (by simpa[lxB] using q)
 | x::xs,y::ys,_,_,i,.cons _ t h1,.cons _ u h2,q,e=>by
  rw[List.zip_cons_cons];refine PySem.W.kat_cons (wpAny_eqBool_int ?_);rw[lxB] at q;by_cases c:x=y
  ·subst c;rw[if_pos rfl] at q;rw[show (x == x)=true by simp];exact PySem.W.kat_yes (Zi2 h1 h2 q (by rw[e];simp))
  ·rw[if_neg c] at q;rw[show (x == y)=false by simpa using c];refine PySem.W.kat_no ?_
   cases b && i == 0 with
   | true=>exact oneLt_int q
   | false=>exact PySem.W.kat_one _ _ (PySem.P.lt_int q)
def TupI (h:Heap) (ks:Addr->List Int) (v:Value):Prop:=∃ a o its n,v=.ref a/\h.get? a=some o/\o.cls=.type "tuple"/\o.data=.seq its n/\IntsAre its.toList (ks a)/\ks a≠[]
theorem Zei {h:Heap}{ks:Addr->List Int}:∀ {vs:List Value},(∀ v∈vs,TupI h ks v)->∃ fs:List Value,fs.length=vs.length/\PySem.W.KatTups h vs fs/\∀ f∈fs,∃ n t,f=.int n t
 | [],_=>⟨[],rfl,PySem.W.KatTups.nil,fun f hf=>nomatch hf⟩
 | v::vs,hv=>by
  obtain⟨fs,e,k,q⟩:=Zei (vs:=vs) fun u hu=>hv u (Yag _ hu);obtain⟨a,o,its,n,rfl,ho,hc,hd,hI,hne⟩:=hv v (Yal ..);obtain⟨l⟩:=its;have hI:IntsAre l (ks a):=hI
  revert hI hd
  generalize ks a=z at hne ⊢;intro hd hI
  cases hI with
  | nil=>exact absurd rfl hne
  | cons m t hI=>exact⟨.int m t::fs,by simp[e],PySem.W.KatTups.cons ho hc hd rfl k,fun f hf=>by
    rcases YaC.mp hf with z | z
    ·exact⟨m,t,z⟩
    ·exact q f z⟩
theorem ZeC {vs:List Value}{ks:Addr->List Int} (hT:∀ v∈vs,TupI s.heap ks v):Sortable prog w s (KOt ks) vs:=by
 refine⟨tuples' (YdP "int" != YdP "tuple"),(fun p=>TupI s.heap ks p.1),hT,fun A h' kp x y hx hy E Q q=>?_,fun A E h' kp h2 Q q=>?_⟩
 ·obtain⟨a,o,its,n,e1,ho,hc,hd,hI,hne⟩:=hx;obtain⟨b,o',its',n',e2,ho',hc',hd',hI',hne'⟩:=hy;have q:Q (lxB ((KOt ks).ky x) ((KOt ks).ky y)) { s with heap:=h' }:=q;have k1:(KOt ks).ky x=ks a:=by show (match x.1 with | .ref a=>ks a | _=>[])=_;rw[e1]
  have k2:(KOt ks).ky y=ks b:=by show (match y.1 with | .ref a=>ks a | _=>[])=_;rw[e2]
  rw[k1,k2] at q;rw[e1,e2];refine PySem.W.kat_lt (kp _ _ ho) hd (kp _ _ ho') hd' (Zi2 hI hI' q ?_);rw[<- hI.nums,<- hI'.nums,Yaa,Yaa,Ya4,Ya4]
 ·obtain⟨fs,e,k,hi⟩:=Zei (h:=h') (ks:=ks) (vs:=vs) fun v hv=>by
   obtain⟨a,o,its,n,e1,ho,r⟩:=hT v hv;exact⟨a,o,its,n,e1,kp _ _ ho,r⟩
  refine PySem.W.kat_kind (T:=YdP "int") k (by omega) (fun v hv=>?_) rfl q;obtain⟨n,t,rfl⟩:=hi v hv;exact PySem.W.Looks.now
end
end L2
namespace L2
open PySem PySem.Spec PyProof.Rows PySem.SeqAt
section
variable {X:Cx}
theorem Zel:Zcz X (.builtin "sorted") (fun xs H Q=>∃ (a:Addr) (ns:List Int),xs=[.ref a]/\SqL X.K H a (ns.map V.int)/\∀ (l:Addr) (ms:List Int),H l=none->ms.Perm ns->ms.Pairwise (·<=·)->Q (.ref l) (upd H l (.lst (ms.map V.int)))):=by
 intro pins s σ H xs us Q I r h;obtain⟨a,ns,rfl,hq,q⟩:=h;obtain⟨u,rfl,r1⟩:=Zep r;cases r1;obtain⟨its,rv,p,hz⟩:=I.list hq;have hl:its.length=ns.length:=by rw[<- rv.length,Yaa]
 rw[Yaa] at hz;refine Zdn p.isList (by rw[hl];exact hz) (ZeD (ZcU rv)) fun us p1 p2=>?_;obtain⟨ms,hI,pm⟩:=Zjh (ZcU rv) p1;obtain⟨e,he⟩:=sortedAll_at s.heap its us.toArray;have hle:s.heap.objs.size<=s.heap.objs.size+1:=Ydm _;refine⟨.ref (s.heap.objs.size+1),_,I.laid (a:=s.heap.objs.size+1) (o:=.lst (ms.map V.int)) (t':=s.toks) (fun b o q=>sortedAll_old q) hle ⟨?_,us,e,Ze4 hI,he⟩,rfl,q _ ms (I.hok.fresh hle) pm (Zkq hI p2)⟩;rw[Yaa,pm.length_eq];exact hz
theorem Ze3:∀ {ps:List Addr}{us:List Value},Vals (ps.map V.ref) us->us=ps.map Ybt
 | [],_,.nil=>rfl
 | p::ps,_,.cons r t=>by
  have e:_=Ybt p:=r;rw[Ze3 t,e];rfl
theorem Zfh:∀ (ps:List Addr),Vals (ps.map V.ref) (ps.map Ybt)
 | []=>.nil
 | p::ps=>.cons rfl (Zfh ps)
def adr:Value->Addr
 | .ref a=>a
 | _=>0
theorem Zin {ps:List Addr}{us:List Value} (h:us.Perm (ps.map Ybt)):∃ qs:List Addr,us=qs.map Ybt/\qs.Perm ps:=by
 refine⟨us.map adr,?_,?_⟩
 ·rw[Yb3];refine (Yff us).symm.trans (Yb9 fun v hv=>?_);obtain⟨p,_,e⟩:=YaK.mp (h.mem_iff.mp hv);rw[<- e];rfl
 ·have:=h.map adr
  rwa [Yb3,show (adr ∘ Ybt)=id from rfl,Yff] at this
theorem Zbx:Zcz X (.builtin "sorted") (fun xs H Q=>∃ (a:Addr) (ps:List Addr) (ks:Addr->List Int),xs=[.ref a]/\SqL X.K H a (ps.map V.ref)/\(∀ p∈ps,ks p≠[]/\H p=some (.tup ((ks p).map V.int)))/\∀ (l:Addr) (qs:List Addr),H l=none->qs.Perm ps->qs.Pairwise (fun p q=>lxB (ks q) (ks p)=false)->Q (.ref l) (upd H l (.lst (qs.map V.ref)))):=by
 intro pins s σ H xs us Q I r h;obtain⟨a,ps,ks,rfl,hq,ht,q⟩:=h;obtain⟨u,rfl,r1⟩:=Zep r;cases r1;obtain⟨its,rv,p,hz⟩:=I.list hq;have ei:=Ze3 rv;rw[Yaa] at hz;have hl:its.length=ps.length:=by rw[ei,Yaa]
 have hT:∀ v∈its,TupI s.heap ks v:=by
  intro v hv;rw[ei] at hv;obtain⟨b,hb,e⟩:=YaK.mp hv;obtain⟨h1,h2⟩:=ht b hb;obtain⟨_,ii,rr,o,g1,g2,_,n,g3⟩:=(show ObjOk X.prog X.w H s.heap b (.tup ((ks b).map V.int)) from I.hok b _ h2)
  exact⟨b,o,ii.toArray,n,e.symm,g1,g2,g3,by simpa using ZcU rr,h1⟩
 refine Zdn p.isList (by rw[hl];exact hz) (ZeC hT) fun us p1 p2=>?_;have p1':=p1;rw[ei] at p1';obtain⟨qs,e1,pm⟩:=Zin p1';obtain⟨e,he⟩:=sortedAll_at s.heap its us.toArray;have hle:s.heap.objs.size<=s.heap.objs.size+1:=Ydm _;refine⟨.ref (s.heap.objs.size+1),_,I.laid (a:=s.heap.objs.size+1) (o:=.lst (qs.map V.ref)) (t':=s.toks) (fun b o q=>sortedAll_old q) hle ⟨?_,us,e,?_,he⟩,rfl,q _ qs (I.hok.fresh hle) pm ?_⟩
 ·rw[Yaa,pm.length_eq];exact hz
 ·rw[e1];exact Zfh qs
 ·rw[e1] at p2;simp only[Ord2,YaQ,if_false] at p2;exact Ybf.mp p2
end
end L2
namespace L2
open PySem PySem.Spec PyProof.Rows PySem.SeqAt
section
variable {prog:Program}{w:World}{A:Around}{E:Value->Shared->Prop}{s:Shared}{O:KO}
end
section
variable {X:Cx}{pins:List (Addr × Obj)}{σ:St}{H:Hp}{s:Shared}{h':Heap}
end
section
variable {X:Cx}
end
end L2
namespace L2
open PySem PySem.Spec PyProof.Rows
structure WE (X:Cx) (e:Expr) (t:TE):Prop where
 out:PE X e t
section
variable {X:Cx}{a b e k v:Expr}{ta tb te tk tv:TE}{pos:Pos}{es:List Expr}{t:TA}
theorem we (h:PE X e te):WE X e te:=⟨h⟩
theorem ZnF {r:R2} (hr:IxR X r) (ha:WE X a ta) (hb:WE X b tb) (hs:ZjM b):WE X (.Subscript a b pos) (tOp r ta tb):=⟨Zaz hr ha.out hb.out hs⟩
theorem ZhU (h:WA X es t):WE X (.List es pos) (tLst t):=⟨ZaM h.out⟩
theorem ZmF (he:WE X e te):WS X (.Return (some e) pos) (tRet te):=⟨Zav he.out⟩
theorem Zk8 {i:Nat}{x:Str}{pos':Pos} (hN:X.N.Nodup) (hi:X.N[i]?=some x) (hx:Loc X.env.scope x) (he:WE X e te) (hs:swapsWith e (some (.Name x pos')) pos.line X.env=pure false:=by rfl) (hf:X.fn x=true∨X.env.scope.names.lookup x=some .local:=by first | exact .inl rfl | exact .inr rfl | assumption) :
  WS X (.Assign [.Name x pos'] e pos) (tAsg te (ZbH i)):=⟨Zaq hN hi hx he.out hs hf⟩
end
end L2
namespace Lv
open PySem L2
open Classical in
def cn (xs:List Int) (m:Int):Int:=(xs.count m:Int)
theorem Zns (m:Int):cn [] m=0:=by simp[cn]
theorem Zlw (xs ys:List Int) (m:Int):cn (xs++ys) m=cn xs m+cn ys m:=by unfold cn;rw[List.count_append];omega
theorem ZmA {xs:List Int}{m:Int}:cn xs m=0↔m ∉ xs:=by unfold cn;rw[<- List.count_eq_zero];omega
theorem cn_ne {xs:List Int}{m:Int}:cn xs m≠0↔m∈xs:=by
 rw[Ne,ZmA,Classical.not_not]
theorem ZjB (x:Int) (xs:List Int) (m:Int):cn (x::xs) m=(if m=x then 1 else 0)+cn xs m:=by
 unfold cn;rw[List.count_cons];by_cases h:m=x
 ·subst h;simp;omega
 ·have:¬ x=m:=fun z=>h z.symm;simp[h,this]
theorem Zk2 (xs:List Int) (m:Int):cn (xs.map (·+1)) m=cn xs (m - 1):=by
 induction xs with
 | nil=>simp[cn]
 | cons x xs ih=>
  rw[YaM,ZjB,ZjB,ih];by_cases h:m=x+1
  ·rw[if_pos h,if_pos (by (clear ih;omega))]
  ·rw[if_neg h,if_neg (by (clear ih;omega))]
def Bd (B:Int) (N:List (List Int)):Prop:=∀ xs∈N,∀ m∈xs,0<=m/\m<=B
theorem ZdI (p:Nat):∀ n:Nat,Bd n (num p n)
 | 0=>fun xs a m b=>by
  rcases YaC.mp (show xs∈[0]::Yaj (p - 1) [] from a) with rfl | h
  ·have:m=0:=by simpa using b
   omega
  ·rw[(Yc8.mp h).2] at b;cases b
 | n+1=>fun xs a m b=>by
  have ih:=ZdI p n;have hf:∀ m∈fstN (num p n),0<=m/\m<=((n+1:Nat):Int):=fun m hm=>by
   unfold fstN at hm;obtain⟨y,hy,rfl⟩:=YaK.mp hm
   cases e:num p n with
   | nil=>rw[e] at hy;cases hy
   | cons c r=>
    rw[e] at hy;have:=ih c (by rw[e];exact Yal) y hy;omega
  rcases Yam.mp (show xs∈((num p n).tail.map (fstN (num p n)++·))++[fstN (num p n)] from a) with h | h
  ·obtain⟨y,hy,rfl⟩:=YaK.mp h;rcases Yam.mp b with b | b
   ·exact hf m b
   ·have:=ih y (List.mem_of_mem_tail hy) m b;omega
  ·rw[YaD.mp h] at b;exact hf m b
end Lv
namespace L2
open PySem PySem.Spec PyProof.Rows
mutual
inductive RdN (H:Hp):V->PyData->Prop
 | non:RdN H .non .none
 | bl (b:Bool):RdN H (.bl b) (.bool b)
 | int (i:Int):RdN H (.int i) (.int i)
 | str (x:Str):RdN H (.str x) (.str x)
 | lst {a:Addr}{xs:List V}{ds:List PyData}:H a=some (.lst xs)->RdL H xs ds->RdN H (.ref a) (.list ds)
 | tup {a:Addr}{xs:List V}{ds:List PyData}:H a=some (.tup xs)->RdL H xs ds->RdN H (.ref a) (.tuple ds)
inductive RdL (H:Hp):List V->List PyData->Prop
 | nil:RdL H [] []
 | cons {x:V}{xs:List V}{d:PyData}{ds:List PyData}:RdN H x d->RdL H xs ds->RdL H (x::xs) (d::ds)
end
section
variable {P:Program}{w:World}{H:Hp}{h:Heap}
end
section
variable {X:Cx}
end
end L2
namespace L2
open PySem PySem.Spec PyProof.Rows PySem.SeqAt
section
variable {P:Program}{w:World}{H:Hp}{s:Shared}
theorem RdL.len_eq:∀ {xs ys:List V}{ds:List PyData},RdL H xs ds->RdL H ys ds->xs.length=ys.length
 | _,_,_,.nil,r=>by cases r;rfl
 | _,_,_,.cons _ q,r=>by
  cases r with
  | cons _ q2=>rw[Yaz,Yaz,RdL.len_eq q q2]
mutual
theorem RdN.eqs (ok:HOk P w H s.heap):∀ {x:V}{d:PyData},RdN H x d->∀ {y:V},RdN H y d->∀ {u v:Value},RelV x u->RelV y v->∀ A:Around,A.units+d.depth<cLine->EqAt A s u v true
 | _,_,.non,y,r,u,v,h1,h2,A,hu=>by
  cases r;cases (show u=YbU from h1);cases (show v=YbU from h2);exact Yer _
 | _,_,.bl b,y,r,u,v,h1,h2,A,hu=>by
  cases r;cases (show u=YdQ b from h1);cases (show v=YdQ b from h2);exact Yer _
 | _,_,.int i,y,r,u,v,h1,h2,A,hu=>by
  cases r;obtain⟨t,z⟩:=(show ∃ t,u=Yed i t from h1);cases z;obtain⟨t2,z⟩:=(show ∃ t,v=Yed i t from h2);cases z;have:=Ye1 (A:=A) (s:=s) i t i t2;rw[beq_self_eq_true] at this;exact this
 | _,_,.str x,y,r,u,v,h1,h2,A,hu=>by
  cases r;obtain⟨t,z⟩:=(show ∃ t,u=Yec x t from h1);cases z;obtain⟨t2,z⟩:=(show ∃ t,v=Yec x t from h2);cases z;have:=EqAt.str_str (A:=A) (s:=s) x t x t2;rw[show (x == x)=true from by rw[<- str_beq];exact beq_self_eq_true _] at this;exact this
 | _,_,.lst (a:=a) (xs:=xs) (ds:=ds) e q,y,r,u,v,h1,h2,A,hu=>by
  cases r with
  | lst e2 q2=>
   rename_i b ys;cases (show u=Ybt a from h1);cases (show v=Ybt b from h2);by_cases hab:a=b
   ·subst hab;exact Yer _
   obtain⟨_,i1,n1,v1,g1⟩:=(show ObjOk P w H s.heap a (.lst xs) from ok a _ e)
   obtain⟨_,i2,n2,v2,g2⟩:=(show ObjOk P w H s.heap b (.lst ys) from ok b _ e2)
   have hd:A.units+(YbN ds+1)<cLine:=hu;have hl:=q.len_eq q2;refine Ye0 hab ?_;have:=RcAt.lists (A:=A) (s:=s) (e:=fun _=>true) (l:=a) (b:=b) (items:=i1.toArray) (items2:=i2.toArray) ⟨_,g1,rfl,n1,rfl⟩ ⟨_,g2,rfl,n2,rfl⟩ (by rw[Yah,Yah,<- v1.length,<- v2.length,hl]) (by (clear hl hd hab;omega)) (fun j h1 h2=>by
    have:=RdL.eqs ok q q2 v1 v2 A.in1 (by show A.units+1+_<_;(clear h2 h1 hl hab hu;omega)) j (by simpa using h1) (by simpa using h2);simpa using this)
   rw[Zbp] at this;exact this
 | _,_,.tup (a:=a) (xs:=xs) (ds:=ds) e q,y,r,u,v,h1,h2,A,hu=>by
  cases r with
  | tup e2 q2=>
   rename_i b ys;cases (show u=Ybt a from h1);cases (show v=Ybt b from h2);by_cases hab:a=b
   ·subst hab;exact Yer _
   obtain⟨_,i1,v1,o1,g1,c1,_,n1,k1⟩:=(show ObjOk P w H s.heap a (.tup xs) from ok a _ e)
   obtain⟨_,i2,v2,o2,g2,c2,_,n2,k2⟩:=(show ObjOk P w H s.heap b (.tup ys) from ok b _ e2)
   have hd:A.units+(YbN ds+1)<cLine:=hu;have hl:=q.len_eq q2;refine Ye0 hab ?_;have:=RcAt.tuples (A:=A) (s:=s) (e:=fun _=>true) (l:=a) (b:=b) (items:=i1.toArray) (items2:=i2.toArray) ⟨o1,g1,c1,n1,k1⟩ ⟨o2,g2,c2,n2,k2⟩ (by (clear hl hd hab;omega)) (fun j h1 h2=>by
    have:=RdL.eqs ok q q2 v1 v2 A.in1 (by show A.units+1+_<_;(clear h2 h1 hl hab hu;omega)) j (by simpa using h1) (by simpa using h2);simpa using this)
   rw[Zbp,Yah,Yah,<- v1.length,<- v2.length,hl,beq_self_eq_true] at this;exact this
theorem RdL.eqs (ok:HOk P w H s.heap):∀ {xs:List V}{ds:List PyData},RdL H xs ds->∀ {ys:List V},RdL H ys ds->∀ {us vs:List Value},Vals xs us->Vals ys vs->∀ A:Around,A.units+YbN ds<cLine->∀ (j:Nat) (h1:j<us.length) (h2:j<vs.length),EqAt A s us[j] vs[j] true
 | _,_,.nil,ys,r,us,vs,v1,v2,A,hu,j,h1,h2=>by
  cases v1;exact absurd h1 (YcG _)
 | _,_,.cons (d:=d) (ds:=ds) p q,ys,r,us,vs,v1,v2,A,hu,j,h1,h2=>by
  cases r with
  | cons p2 q2=>
   cases v1 with
   | cons a1 b1=>
    cases v2 with
    | cons a2 b2=>
     have hm:YbN (d::ds)=max d.depth (YbN ds):=by rw[YbN]
     rw[hm] at hu
     cases j with
     | zero=>exact RdN.eqs ok p p2 a1 a2 A (by (clear h2 h1 hm;omega))
     | succ j=>exact RdL.eqs ok q q2 b1 b2 A (by (clear h2 h1 hm;omega)) j (by simpa using h1) (by simpa using h2)
end
end
def rNeR:R2:=fun x y H Q=>∃ (a b:Addr) (d:PyData),x=.ref a/\y=.ref b/\RdN H (.ref a) d/\RdN H (.ref b) d/\d.depth<=10/\Q (.bl false) H
section
variable {X:Cx}
theorem Zld {P:Program}{w:World}{H:Hp}{s:Shared}{A:Around}{xs ys:List V}{ds:List PyData}{i1 i2:List Value} (ok:HOk P w H s.heap) (q:RdL H xs ds) (q2:RdL H ys ds) (v1:Vals xs i1) (v2:Vals ys i2) (hu:A.units+1+YbN ds<cLine) :
  ∀ j (h1:j<i1.toArray.size) (h2:j<i2.toArray.size),EqAt A.in1 s i1.toArray[j] i2.toArray[j] true:=fun j h1 h2=>by
 have:=RdL.eqs ok q q2 v1 v2 A.in1 (by show A.units+1+_<_;(clear h2 h1;omega)) j (by simpa using h1) (by simpa using h2);simpa using this
theorem Zm7 (hu:X.A.units+12<cLine):OpR X (compareOp .NotEq) rNeR:=by
 intro pins s σ H x y v u Q I rx ry h;obtain⟨a,b,d,rfl,rfl,r1,r2,hd,q⟩:=h;cases rx;cases ry
 cases r1 with
 | lst e p=>
  rename_i xs ds
  cases r2 with
  | lst e2 p2=>
   rename_i ys;obtain⟨_,i1,n1,v1,g1⟩:=(show ObjOk X.prog X.w H s.heap a (.lst xs) from I.hok a _ e)
   obtain⟨_,i2,n2,v2,g2⟩:=(show ObjOk X.prog X.w H s.heap b (.lst ys) from I.hok b _ e2)
   have hd':YbN ds+1<=10:=hd;refine RcNeAt.lists (e:=fun _=>true) (items:=i1.toArray) (items2:=i2.toArray) ⟨_,g1,rfl,n1,rfl⟩ ⟨_,g2,rfl,n2,rfl⟩ (by rw[Yah,Yah,<- v1.length,<- v2.length,p.len_eq p2]) (by (clear hd' hd;omega)) (Zld I.hok p p2 v1 v2 (by (clear hd;omega))) _ _ _ _ ?_;rw[Zbp];exact⟨.bl false,H,I,rfl,q⟩
 | tup e p=>
  rename_i xs ds
  cases r2 with
  | tup e2 p2=>
   rename_i ys;obtain⟨_,i1,v1,o1,g1,c1,_,n1,k1⟩:=(show ObjOk X.prog X.w H s.heap a (.tup xs) from I.hok a _ e)
   obtain⟨_,i2,v2,o2,g2,c2,_,n2,k2⟩:=(show ObjOk X.prog X.w H s.heap b (.tup ys) from I.hok b _ e2)
   have hd':YbN ds+1<=10:=hd;refine YeE (e:=fun _=>true) (items:=i1.toArray) (items2:=i2.toArray) ⟨o1,g1,c1,n1,k1⟩ ⟨o2,g2,c2,n2,k2⟩ (by (clear hd' hd;omega)) (Zld I.hok p p2 v1 v2 (by (clear hd;omega))) _ _ _ _ ?_;rw[Zbp,Yah,Yah,<- v1.length,<- v2.length,p.len_eq p2,beq_self_eq_true];exact⟨.bl false,H,I,rfl,q⟩
end
end L2
namespace L2
open PySem PySem.Spec PyProof.Rows
section
variable {X:Cx}
end
end L2
namespace Lv
open PySem L2
def rl (p n i:Nat):List Int:=(num p n).getD i []
end Lv
namespace Lv
open PySem L2
theorem ZiQ {p:Nat} (hp:2<=p) (n:Nat):∃ x r,num p n=x::r/\r.length+1=p:=by
 have hl:=ZbE (p:=p) (by omega) n
 cases h:num p n with
 | nil=>rw[h] at hl;simp at hl;omega
 | cons x r=>exact⟨x,r,rfl,by rw[h] at hl;simpa using hl⟩
end Lv
namespace L2
open PySem
end L2
namespace Lv
open PySem L2
def sm (g:Nat->Int):Nat->Int
 | 0=>0
 | k+1=>sm g k+g (k+1)
def trs (h:Nat->Int):Nat->Int
 | 0=>0
 | k+1=>trs h k+h k
theorem Zdi {g h:Nat->Int}:∀ {k:Nat},(∀ j,j<k->g j=h j)->trs g k=trs h k
 | 0,_=>rfl
 | k+1,e=>by rw[trs,trs,Zdi fun j a=>e j (by omega),e k (by omega)]
def sq (p n:Nat):List (List Int):=(YaG (n+1)).map fun j=>rl p j 0
end Lv
namespace L2
open PySem PySem.Spec PyProof.Rows PySem.SeqAt
inductive TyS (H:Hp):V->Value->Prop
 | int (i:Int):TyS H (.int i) (.type "int")
 | bl (b:Bool):TyS H (.bl b) (.type "bool")
 | lst {a:Addr}{xs:List V} (e:H a=some (.lst xs)):TyS H (.ref a) (.type "list")
 | tup {a:Addr}{xs:List V} (e:H a=some (.tup xs)):TyS H (.ref a) (.type "tuple")
section
variable {X:Cx}
end
end L2
namespace HT
open PySem PySem.Spec PyProof.Rows
section
variable {prog:Program}{w:World}{A:Around}{E:Value->Shared->Prop}{s:Shared}
end
end HT
namespace L2
open PySem PySem.Spec PyProof.Rows PySem.SeqAt
inductive TyA (H:Hp):V->String->Prop
 | non:TyA H .non "NoneType"
 | int (i:Int):TyA H (.int i) "int"
 | bl (b:Bool):TyA H (.bl b) "bool"
 | str (x:Str):TyA H (.str x) "str"
 | lst {a:Addr}{xs:List V} (e:H a=some (.lst xs)):TyA H (.ref a) "list"
 | tup {a:Addr}{xs:List V} (e:H a=some (.tup xs)):TyA H (.ref a) "tuple"
 | dK {a:Addr}{kvs:List (Key × V)} (e:H a=some (.dK kvs)):TyA H (.ref a) "dict"
section
variable {X:Cx}
end
end L2
namespace Lv
open PySem L2 PySem.W
structure ExcTab (K:Frag) (reel C:Addr) (all:List Addr):Prop where
 ok:Znq K C=true
 exm:exmOne K (.ref C) (.ref reel)=some true
 isR:kitOne K (.ref C) (.ref reel)=some true
 isV:kitOne K (.ref C) (.type "ValueError")=some true
 one:∀ D∈all,kitOne K (.ref C) (.ref D)=some (D == C)
structure Excs (K:Frag) (mg:Str->Option Value) where
 reel:Addr
 nWays:Addr
 nRoom:Addr
 nLevel:Addr
 nStand:Addr
 tMany:Addr
 tFew:Addr
 nPlace:Addr
 nText:Addr
 nLine:Addr
 nBack:Addr
 nPhase:Addr
 clash:Addr
 mReel:mg "ReelError"=some (.ref reel)
 mWays:mg "NoWays"=some (.ref nWays)
 mRoom:mg "NoRoom"=some (.ref nRoom)
 mLevel:mg "NoLevel"=some (.ref nLevel)
 mStand:mg "NoStanding"=some (.ref nStand)
 mMany:mg "TooMany"=some (.ref tMany)
 mFew:mg "TooFew"=some (.ref tFew)
 mPlace:mg "NoPlace"=some (.ref nPlace)
 mText:mg "NoText"=some (.ref nText)
 mLine:mg "NoLine"=some (.ref nLine)
 mBack:mg "NoBack"=some (.ref nBack)
 mPhase:mg "NoPhase"=some (.ref nPhase)
 mClash:mg "Clash"=some (.ref clash)
 nd:([nWays,nRoom,nLevel,nStand,tMany,tFew,nPlace,nText,nLine,nBack,nPhase,clash]:List Addr).Nodup
def Excs.all {K:Frag}{mg:Str->Option Value} (X:Excs K mg):List Addr:=[X.nWays,X.nRoom,X.nLevel,X.nStand,X.tMany,X.tFew,X.nPlace,X.nText,X.nLine,X.nBack,X.nPhase,X.clash]
def anT:List String:=["NoneType","bool","int","str","list","tuple","dict"]
structure Thing (K:Frag) (H:Hp) (v:V) (T:String):Prop where
 ty:TyOf K H v (.type T)
 mem:T∈anT
def NotIn (lo hi:Int) (v:V) (T:String):Prop:=T≠"int"∨∃ i,v=.int i/\¬ (lo<=i/\i<=hi)
end Lv
namespace Lv
open PySem L2 PySem.W
end Lv
namespace Lv
open PySem L2 PySem.W
end Lv
namespace Lv
open PySem L2 PySem.W
end Lv
namespace L2
open PySem PySem.Spec PyProof.Rows PySem.W
end L2
namespace Lv
open PySem L2 PySem.W
end Lv
namespace Lv
open PySem L2 PySem.Spec PyProof.Rows
end Lv
namespace L2
open PySem PySem.Spec PyProof.Rows PySem.SeqAt
section
variable {X:Cx}
end
theorem Zjy {b1 b2:Bool}{K:Yac}{own:List Str}{js:List Nat}{g:TG}{tt:TT}{te:TE}{σ:St}{H1:Hp}{Q:VK}{a b:Addr}{xs ys:List V} (hlen:ys.length<=xs.length) (Pv:Addr->Nat->Hp->Prop) (h0:∀ acc,H1 acc=none->Pv acc 0 (upd H1 acc (.lst [])))
  (hl:∀ acc i H,H1 acc=none->i<=ys.length->Pv acc i H->SqB b1 K H a xs/\SqB b2 K H b ys)
  (hs:∀ acc i x y p H,H1 acc=none->xs[i]?=some x->ys[i]?=some y->Pv acc i H->H p=none->g (.ref p) (blkσ own js σ) (upd H p (.tup [x,y])) fun τ H4=>tt τ H4 fun c H5=>
   if c=true then te τ H5 fun y H6=>∃ zs,H6 acc=some (.lst zs)/\zs.length<sizeLine/\(i+1<=ys.length/\Pv acc (i+1) (upd H6 acc (.lst (zs++[y])))) else (i+1<=ys.length/\Pv acc (i+1) H5))
  (hd:∀ acc H,H1 acc=none->Pv acc ys.length H->Q (.ref acc) H):Zby own js g tt te σ (ItzB b1 b2 K a b) H1 Q:=by
 intro acc hacc;refine⟨fun i H=>i<=ys.length/\Pv acc i H,ys.length,⟨YaY _,h0 acc hacc⟩,?_⟩;rintro i H ⟨hi,p⟩;obtain⟨q1,q2⟩:=hl acc i H hacc hi p;by_cases hlt:i<ys.length
 ·have hl2:i<xs.length:=by (clear hi;omega)
  refine .inr ⟨hlt,⟨xs,ys,xs[i],ys[i],q1,q2,by simp[hl2],by simp[hlt]⟩,fun x H' y=>?_⟩;obtain⟨pa,z1,z2,hp,e1,e2,y1,y2⟩:=y;subst e1 e2;exact hs acc i z1 z2 pa H hacc (y1 xs q1) (y2 ys q2) p hp
 ·have e:i=ys.length:=by (clear hlen;omega)
  subst e;exact .inl ⟨⟨xs,ys,q1,q2,.inr (Yak _)⟩,hd acc H hacc p⟩
end L2
namespace L2
open PySem PySem.Spec PyProof.Rows PySem.SeqAt
section
variable {X:Cx}
end
end L2
namespace L2
open PySem PySem.Spec PyProof.Rows PySem.SeqAt
theorem Zd8 {α:Type}:∀ ys:List α,(YaG ys.length).filterMap (ys[·]?)=ys
 | []=>rfl
 | y::ys=>by
  rw[Yaz,YeS,Yca];show y::(Yfq Nat.succ (YaG ys.length)).filterMap ((y::ys)[·]?)=_;rw[YdN];exact congrArg (y::·) (Zd8 ys)
theorem Zhc {α β:Type}{f g:α->Option β}:∀ {l:List α},(∀ x∈l,f x=g x)->l.filterMap f=l.filterMap g
 | [],_=>rfl
 | x::l,h=>by rw[Yca,Yca,h x (by simp),Zhc fun y hy=>h y (by simp[hy])]
theorem ZdN (its:List Value):slicePick its.toArray none none (some (-1))=its.reverse.toArray:=by
 unfold slicePick;have e1:sliceBounds none none (some (-1)) its.toArray.size=((its.length:Int) - 1,-1,-1):=by
  simp[sliceBounds]
 rw[e1];have e2:sliceRange ((its.length:Int) - 1) (-1) (-1)=(YaG its.length).map fun k=>its.length - 1 - k:=by
  unfold sliceRange;have:(if (its.length:Int) - 1 > -1 then ((its.length:Int) - 1 - (-1) - (-1) - 1) / (-(-1)) else 0).toNat=its.length:=by
   by_cases h:(its.length:Int) - 1 > -1
   ·rw[if_pos h,show (-(-1):Int)=1 by decide,Yfb]
    (clear h;omega)
   ·rw[if_neg h];omega
  dsimp only;rw[if_neg (by decide),this];apply Yb9;intro k hk;have:=Ya8.mp hk
  (clear this;omega)
 show (List.filterMap _ (sliceRange ((its.length:Int) - 1) (-1) (-1))).toArray=_;rw[e2,YdN];congr 1;have e3:=Zd8 its.reverse;rw[YbM] at e3;rw[<- e3];apply Zhc;intro k hk;have:=Ya8.mp hk;show its.toArray[its.length - 1 - k]?=_;rw[List.getElem?_toArray,YcQ this]
def ZnV (K:Yac):V->Hp->VK->Prop:=fun x H Q=>∃ a xs,x=.ref a/\SqL K H a xs/\∀ p,H p=none->Q (.ref p) (upd H p (.lst xs.reverse))
def ZnG (K:Yac) (te:TE) (ts:TO):TE:=fun σ H Q=>te σ H fun x H1=>ts σ H1 fun k H2=>k=some (-1)/\ZnV K x H2 Q
section
variable {X:Cx}{e st:Expr}{te:TE}{ts:TO}{pos p2:Pos}
theorem Zlk (he:PE X e te) (hst:PO X (some st) ts):PE X (.Subscript e (.Slice none none (some st) p2) pos) (ZnG X.K te ts):=by
 intro pins s σ H Q I h;refine Subscript_ (thn (he pins s σ H _ I h) fun v s1 ⟨x,H1,I1,r1,q1⟩=>?_);refine wpAny_Slice ?_;rw[evalPart_none];refine wpAny_pure ?_;refine wpAny_pure ?_;refine thn (hst pins s1 σ H1 _ I1 q1) fun vu s3 ⟨u,H3,I3,pu,ek,q3⟩=>?_;subst ek;obtain⟨a,xs,rfl,hx,q⟩:=q3;cases r1;have I4:Inv X pins σ H3 { s3 with heap:=s3.heap.push { cls:=.type "slice",data:=.fields #[.none,.none,vu] } }:=I3.kept (t':=s3.toks) fun b ob q=>Yae _ q;obtain⟨its,r,ht,hz⟩:=I4.list hx;have hlen:=r.length;show wpAny (model X.prog X.w) X.A (subscriptTail e (.Slice none none (some st) p2) (.ref a) (.ref s3.heap.objs.size)) (EP X pins σ Q) X.xe { s3 with heap:=s3.heap.push { cls:=.type "slice",data:=.fields #[.none,.none,vu] } };refine tail_any (ops:=[.ref a,.ref s3.heap.objs.size]) ht.isList.typeIs slot_list_getitem.lookup ?_ (by with_unfolding_all rfl);refine wpAny_getItem_list_slice ht.isList (Yek ..) .none .none pu (by simp) ?_ (by rw[Yah] <;> omega);rw[ZdN];refine⟨.ref (s3.heap.push { cls:=.type "slice",data:=.fields #[.none,.none,vu] }).objs.size,_,I4.laid (t':=s3.toks) (o:=.lst xs.reverse) (fun b ob q=>Yae _ q) (Yak _) ?_,rfl,q _ (I4.hok.fresh (Yak _))⟩;exact⟨by rw[YbM];(clear hlen;omega),_,0,Vals.reverse r,YaB _ rfl⟩
end
end L2
namespace Lv
open PySem L2
def mxAt:List Int->Nat
 | []=>0
 | x::r=>if r.all (·<=x) then 0 else mxAt r+1
structure IsTop (d:List Int) (r:Nat):Prop where
 lt:r<d.length
 ge:∀ j (h:j<d.length),d[j]<=d[r]
 fst:∀ j (h:j<r),d[j]<d[r]
def Zn5 (c v:List Int):List Int:=Yb2 (· - ·) c v
def came (p:Nat):Nat->Nat × List Int
 | 0=>(0,Yaj p 0)
 | n+1=>
  let L:=if (came p n).2=cnt p (came p n).1 then (came p n).1+1 else (came p n).1
  let r:=mxAt (Zn5 (cnt p L) (came p n).2)
  (L,(came p n).2.set r ((came p n).2.getD r 0+1))
end Lv
namespace L2
open PySem PySem.Spec PyProof.Rows PySem.SeqAt
section
variable {X:Cx}
theorem ZkU:PGet X (fun x y H Q=>∃ p xs i v,x=.ref p/\y=.int i/\SqL X.K H p xs/\0<=i/\xs[i.toNat]?=some v/\Q v H):=by
 intro pins s σ H x y v u Q I rx ry h;obtain⟨p,xs,i,z,rfl,rfl,hq,h0,he,q⟩:=h;cases rx;obtain⟨t,rfl⟩:=ry;obtain⟨its,r,pl,hz⟩:=I.list hq;obtain⟨w,ew,rw'⟩:=r.get he;have hl:=r.length;have hn:=Zef;have hi:=(Yab.mp he).1
 exact wpAny_getItem_list pl.isList h0 (by (clear hl h0;omega)) (by simpa using ew) ⟨z,H,I,rw',q⟩
end
end L2
namespace Lv
open PySem L2
end Lv
namespace Lv
open PySem L2
end Lv
namespace L2
open PySem PySem.Spec PyProof.Rows PySem.SeqAt
section
variable {X:Cx}
end
end L2
namespace L2
open PySem PySem.Spec PyProof.Rows PySem.SeqAt
section
variable {X:Cx}
end
end L2
namespace L2
open PySem PySem.Spec PyProof.Rows PySem.SeqAt
end L2
namespace L2
open PySem PySem.Spec PyProof.Rows PySem.W
structure RoomS (k:Nat) (A:Around):Prop where
 dp:A.depth+3*k+5<recursionLimit
 un:A.units+16*k+200<cLine
 gd:A.guards=some []
structure FnOkS (P:Program) (w:World) (K:Yac) (mg:Str->Option Value) (base:Heap) (CX:CXT) (k:Nat) (f:Addr) (fd:FuncData) (ps:List Str) (sp:Sp):Prop where
 len:∀ vs H Q E,sp vs H Q E->vs.length=ps.length
 run:∀ (A:Around) (outer:List Env) (s:Shared) (H:Hp) (args:Args) (us:List Value) (vs:List V) (Q:VK) (E:XK),RoomS k A->Env0 P w K mg base A outer s H->BindsTo s fd args (ps.zip us)->Vals vs us->sp vs H Q E ->
  codeAny (model P w) A (.call (.ref f) args) (CR CX outer P w H s Q E) s
section
variable {P:Program}{w:World}{K:Yac}{mg:Str->Option Value}{base:Heap}
end
structure CalS (P:Program) (w:World) (K:Yac) (mg:Str->Option Value) (base:Heap) (k:Nat) (x:Str) (ps:List Str) (sp:Sp) (f:Addr) (fd:FuncData):Prop where
 ok:FnOkS P w K mg base CX0 k f fd ps sp
 mg:mg x=some (.ref f)
 kp:Yaq K (.ref f)=true
 bd:Binds K fd ps []
section
variable {X:Cx}
end
end L2
namespace Lv
open PySem L2
def stp (a q:Int × Int):Int × Int:=(a.1+q.1*(if a.2<q.2 then a.2 else q.2),a.2 - (if a.2<q.2 then a.2 else q.2))
def lsF:List (Int × Int)->Int × Int->Int × Int
 | [],a=>a
 | q::M,a=>lsF M (stp a q)
theorem ZmQ {l:List Int} (h:∀ x∈l,0<=x):0<=l.sum:=by
 induction l with
 | nil=>exact Ybd _
 | cons x r ih=>
  rw[Yas];have:=h x Yal;have:=ih fun y hy=>h y (Yag _ hy)
  (clear ih;omega)
end Lv
namespace Lv
open PySem L2
def sprC (xs:List Int):List (Int × Int):=((YaG 401).map fun (m:Nat)=>((m:Int),cn xs m)).filter fun q=>decide (q.2≠0)
def Znf (xs:List Int) (rows:Int):Option Int:=if (lsF (sprC xs) (0,rows)).2 > 0 then none else some (lsF (sprC xs) (0,rows)).1
end Lv
namespace Lv
open PySem L2
def pz (x:Int):Int:=if x<0 then 0 else x
def sv (xs:List Int) (t:Int):Int:=(xs.map fun x=>pz (t - x)).sum
def Sub (ys xs:List Int):Prop:=∀ m,cn ys m<=cn xs m
theorem Zco {xs ys:List Int} (h:xs.Perm ys):xs.sum=ys.sum:=by
 induction h with
 | nil=>rfl
 | cons x _ ih=>simp[ih]
 | swap x y l=>simp only[Yas];omega
 | trans _ _ h1 h2=>exact h1.trans h2
structure Lst (xs:List Int) (r v:Int):Prop where
 le:∀ t,r*t - sv xs t<=v
 eq:∃ θ∈xs,v=r*θ - sv xs θ
end Lv
namespace Lv
open PySem L2
theorem bern {p:Int} (hp:1<=p):∀ n:Nat,1+(p - 1)*n<=p ^ n
 | 0=>by simp
 | n+1=>by
  have ih:=bern hp n;have h1:1<=p ^ n:=by
   have:0<=(p - 1)*(n:Int):=YbY (by (clear ih;omega)) (by (clear ih hp;omega))
   (clear hp;omega)
  rw[Ycl];have h2:p ^ n*p=p ^ n+p ^ n*(p - 1):=by rw[YbT,Ycy];(clear h1 ih hp;omega)
  have h3:1*(p - 1)<=p ^ n*(p - 1):=YaE h1 (by (clear h2 h1 ih;omega));have h4:(p - 1)*((n+1:Nat):Int)=(p - 1)*n+(p - 1):=by rw[YcH,YcN];simp
  (clear h1 hp;omega)
theorem Za2 {p:Int} (hp:1<=p) (n:Nat):1<=p ^ n:=by
 have:=bern hp n;have:0<=(p - 1)*(n:Int):=YbY (by (clear this;omega)) (by (clear this hp;omega))
 (clear hp;omega)
def kr (p:Int) (M:Nat) (ys:List Int):Int:=(ys.map fun y=>p ^ (M - y.toNat)).sum
end Lv
namespace Lv
open PySem L2
section
variable {α:Type}
structure Adds (g:List α->Int):Prop where
 nil:g []=0
 app:∀ a b,g (a++b)=g a+g b
def dt (g:List α->Int):List (List α)->List Int->Int
 | r::rs,n::ns=>n*g r+dt g rs ns
 | _,_=>0
def sg (g:List α->Int) (rs:List (List α)):Int:=(rs.map g).sum
def ptR (g:List α->Int):List (List (List α))->List (List Int)->Int
 | R::RR,W::WW=>dt g R W+ptR g RR WW
 | _,_=>0
def es:List Int->(Nat->Int)->Int
 | [],_=>0
 | n::ns,h=>(n+1)*h 0+es ns fun j=>h (j+1)
end
theorem ZiR {p:Nat} (hp:2<=p) (n:Nat):∃ x r,num p n=x::r/\r.length+1=p/\num p (n+1)=(r.map (x.map (·+1)++·))++[x.map (·+1)]:=by
 obtain⟨x,r,e,hr⟩:=ZiQ hp n;refine⟨x,r,e,hr,?_⟩;show Zfm (num p n)=_;rw[e];rfl
end Lv
namespace Lv
open PySem L2
theorem Zdz (p:Int) (M:Nat) (a b:List Int):kr p M (a++b)=kr p M a+kr p M b:=by simp[kr]
theorem Zml {p:Int}{M:Nat}:∀ x:List Int,(∀ y∈x,0<=y/\y+1<=M)->p*kr p M (x.map (·+1))=kr p M x
 | [],_=>by simp[kr]
 | y::x,h=>by
  have ih:=Zml (p:=p) x fun z hz=>h z (Yag _ hz);obtain⟨y0,y1⟩:=h y Yal;show p*(p ^ (M - (y+1).toNat)+kr p M (x.map (·+1)))=p ^ (M - y.toNat)+kr p M x;rw[YcN,ih,show M - y.toNat=(M - (y+1).toNat)+1 by (clear ih;omega),Ycl,Ycb]
theorem Zi6 (p:Int) (M:Nat) (x:List Int):∀ r:List (List Int),kr p M (r.map (x++·)).flatten=(r.length:Int)*kr p M x+kr p M r.flatten
 | []=>by simp[kr]
 | y::r=>by
  rw[YaM,YaR,YaR,Zdz,Zdz,Zdz,Zi6 p M x r,Yaz];have:((r.length+1:Nat):Int)*kr p M x=(r.length:Int)*kr p M x+kr p M x:=by
   rw[show ((r.length+1:Nat):Int)=(r.length:Int)+1 by omega,YbC,YdJ]
  omega
theorem Zi8 {p:Nat} (hp:2<=p) {M:Nat}:∀ n,n<=M->kr p M (num p n).flatten=(p:Int) ^ M
 | 0,_=>by
  have:(num p 0).flatten=[0]:=by
   show (num0 p).flatten=[0];simp[num0]
  rw[this];simp[kr]
 | n+1,h=>by
  have ih:=Zi8 (M:=M) hp n (by (clear hp;omega));obtain⟨x,r,e,hr,e2⟩:=ZiR hp n;have hx:∀ y∈x,0<=y/\y+1<=M:=fun y hy=>by
   have:=ZdI p n x (by rw[e];exact Yal) y hy
   (clear hr ih hp;omega)
  have hu:=Zml (p:=p) (M:=M) x hx;rw[e2,YbB,Zdz,Zi6];rw[e,YaR,Zdz] at ih;have h1:([x.map (·+1)]:List (List Int)).flatten=x.map (·+1):=by simp
  rw[h1,<- ih,<- hu];have h2:(p:Int)*kr p M (x.map (·+1))=(r.length:Int)*kr p M (x.map (·+1))+kr p M (x.map (·+1)):=by
   rw[show (p:Int)=(r.length:Int)+1 by (clear hu ih h hp;omega),YbC,YdJ]
  (clear hu hr ih h hp;omega)
end Lv
namespace Lv
open PySem L2
def pre:Int->List Int->List Int
 | _,[]=>[]
 | s,x::r=>(s+x)::pre (s+x) r
def Za8 (c:List Int):List Int:=(pre 0 c).reverse
def casc (p:Nat):Nat->List Int
 | 0=>Zbz p
 | n+1=>Za8 (casc p n)
theorem Zf5:∀ (s:Int) (c:List Int),(pre s c).length=c.length
 | _,[]=>rfl
 | s,x::r=>by rw[pre,Yaz,Yaz,Zf5]
theorem Zfn (c:List Int):(Za8 c).length=c.length:=by rw[Za8,YbM,Zf5]
theorem Zdf {p:Nat} (hp:1<=p):∀ n,(casc p n).length=p
 | 0=>by simp[casc,Zbz];omega
 | n+1=>by rw[casc,Zfn,Zdf hp n]
theorem ZeG:∀ (s:Int) (c:List Int) (x:Int),pre s (c++[x])=pre s c++[s+c.sum+x]
 | s,[],x=>by simp[pre]
 | s,y::r,x=>by
  rw[Ybx,pre,pre,ZeG,Yas,Ybx];rw[show s+y+r.sum+x=s+(y+r.sum)+x by omega]
theorem Zkg {c:List Int}{i:Nat} (hi:i<c.length):pre 0 (c.take (i+1))=pre 0 (c.take i)++[(c.take i).sum+c[i]]:=by
 rw[YaW hi,ZeG,Yck]
theorem Zkh {s:Int}{c:List Int} (h:c≠[]):(pre s c)[(pre s c).length - 1]?=some (s+c.sum):=by
 have e:=Yce h;rw[<- e,ZeG];simp[YeT]
theorem Zfk:∀ (s t:Int) (c:List Int),pre (s+t) c=(pre t c).map (s+·)
 | _,_,[]=>rfl
 | s,t,x::r=>by rw[pre,pre,YaM,YeT,Zfk]
theorem Zki (x:Int) (r:List Int):pre 0 (x::r)=x::(pre 0 r).map (x+·):=by
 have:=Zfk x 0 r;rw[YdD] at this;rw[pre,Yck,this]
def Pool3 (H:Hp) (p:Addr):Prop:=∃ a b c:Int,H p=some (.lst [.int a,.int b,.int c])
theorem Pool3.put {H:Hp}{p q:Addr}{o:HO} (h:Pool3 H p) (hq:H q=none):Pool3 (upd H q o) p:=by
 obtain⟨a,b,c,e⟩:=h;exact⟨a,b,c,by rw[Zag (Zaf e hq)];exact e⟩
theorem Pool3.ne {H:Hp}{p q:Addr} (h:Pool3 H p) (hq:H q=none):q≠p:=by
 obtain⟨a,b,c,e⟩:=h;exact Ybl (Zaf e hq)
theorem Pool3.same {H H':Hp}{p:Addr} (h:Pool3 H p) (s:Same H H'):Pool3 H' p:=by
 obtain⟨a,b,c,e⟩:=h;exact⟨a,b,c,s p _ e⟩
def Zib (K:Yac):Sp:=fun vs H Q _=>∃ (a:Addr) (ns:List Int) (k:Int),vs=[.ref a,.int k]/\SqL K H a (ns.map V.int)/\0<=k/\k<=1000/\∀ p H',H p=none->Pool3 H' p->Same H H'->Q (.ref p) H'
def Zdl:Sp:=fun vs H Q _=>∃ p m,vs=[.ref p,.int m]/\Pool3 H p/\0<m/\YaT m<=8000/\∀ d H',0<=d->d<m->Pool3 H' p->Sm p H H'->Q (.int d) H'
def ZfY (K:Yac):Sp:=fun vs H Q _=>∃ (a:Addr) (c:List Int),vs=[.ref a]/\SqT K H a (c.map V.int)/\c.length<=7/\∀ l H',H l=none->H' l=some (.tup ((Za8 c).map V.int))->Same H H'->Q (.ref l) H'
def Zfd:Sp:=fun vs H Q _=>∃ p n:Nat,vs=[.int p,.int n]/\2<=p/\p<=7/\n<=100/\∀ l H',H l=none->H' l=some (.tup ((casc p n).map V.int))->Same H H'->Q (.ref l) H'
def ZlE:Sp:=fun vs H Q _=>∃ i n,vs=[.int i,.int n]/\2<=i/\i<=7/\0<=n/\n<=100/\Q .non H
end Lv
namespace L2
open PySem PySem.Spec PyProof.Rows PySem.SeqAt
section
variable {X:Cx}
def ZmZ (K:Yac):R2:=fun x y H Q=>∃ a b xs ys,x=.ref a/\y=.ref b/\SqT K H a xs/\SqT K H b ys/\xs.length+ys.length<=sizeLine /\
 (xs=[]->Q (.ref b) H)/\(xs≠[]->ys=[]->Q (.ref a) H)/\(xs≠[]->ys≠[]->∀ p,H p=none->Q (.ref p) (upd H p (.tup (xs++ys))))
theorem ZiE:OpR X (binaryOp .Add) (ZmZ X.K):=by
 intro pins s σ H x y v u Q I rx ry h;obtain⟨a,b,xs,ys,rfl,rfl,ha,hb,hz,q0,q1,q2⟩:=h;by_cases hx:xs=[]
 ·cases rx;cases ry;obtain⟨its,r1,p1,_⟩:=I.tuple ha;obtain⟨its2,r2,p2,_⟩:=I.tuple hb;obtain⟨⟨cls,dd,data,sl⟩,ho,hc,n,hd⟩:=id p1;obtain⟨⟨cls2,dd2,data2,sl2⟩,ho2,hc2,n2,hd2⟩:=id p2;simp only at hc hd hc2 hd2;subst hc hd hc2 hd2;have hv:its=[]:=r1.nil_iff.mpr hx;exact concat_meets ⟨_,ho,rfl⟩ ⟨_,ho2,rfl⟩ noFill_tuple_add seq_tuple_add Ydi Ydd (Yc7 _ _)
   (PyProof.Rows.tuple_addW0 a b its.toArray its2.toArray n n2 dd dd2 sl sl2 (by simp[hv])) ⟨ho,ho2,⟨.ref b,H,I,rfl,q0 hx⟩⟩
 ·exact ZiD pins s σ H _ _ v u Q I rx ry ⟨a,b,xs,ys,rfl,rfl,ha,hb,hx,hz,q1 hx,q2 hx⟩
end
end L2
namespace Lv
open PySem L2
def up1 (A:List Int):List Int:=A.map (·+1)
def ZaS:List (List Int)->List (List Int)
 | []=>[]
 | [Z]=>[Z]
 | A::B::r=>(ZaS (B::r)).map (up1 A++·)++[up1 A]
def casN (p:Nat):Nat->List (List Int)
 | 0=>num0 p
 | n+1=>ZaS (casN p n)
def Za1 (N:List (List Int)):List Int:=N.map fun xs=>(xs.length:Int)
theorem ZbS (x:Int) (r:List Int):Za8 (x::r)=(Za8 r).map (x+·)++[x]:=by
 rw[Za8,Zki,YbW,<- YfC];rfl
theorem Zeg:∀ N:List (List Int),Za1 (ZaS N)=Za8 (Za1 N)
 | []=>rfl
 | [Z]=>by simp[ZaS,Za1,Za8,pre]
 | A::B::r=>by
  have ih:=Zeg (B::r);have e:Za1 (A::B::r)=(A.length:Int)::Za1 (B::r):=rfl;rw[e,ZbS,<- ih];simp[ZaS,Za1,up1,YeZ]
theorem ZcR:∀ N:List (List Int),(ZaS N).length=N.length
 | []=>rfl
 | [Z]=>rfl
 | A::B::r=>by
  have:=ZcR (B::r);simp[ZaS] at this ⊢;omega
theorem Za9 {p:Nat} (hp:1<=p):∀ n,Za1 (casN p n)=casc p n
 | 0=>by
  simp[casN,Za1,num0,casc,Zbz]
 | n+1=>by rw[casN,Zeg,Za9 hp n];rfl
def ZnR (r:List (List Int)) (t:Nat):List Int:=r.getD t []
def S (q:Int) (g:Nat->List Int) (a:List Int):Int:=((YaG a.length).map fun t=>((g t).count q:Int)*a.getD t 0).sum
def pot (q:Int):List (List (List Int))->List (List Int)->Int
 | r::R,a::N=>S q (ZnR r) a+pot q R N
 | _,_=>0
end Lv
namespace Lv
open PySem L2
def goN:List Int->List (List Int)->List (List Int)
 | _,[]=>[]
 | r,A::I=>(r++up1 A)::goN (r++up1 A) I
def finN (I:List (List Int)):List Int:=(I.map up1).flatten
theorem Zjm (U:List Int):∀ (r:List Int) (I:List (List Int)),goN (U++r) I=(goN r I).map (U++·)
 | _,[]=>rfl
 | r,A::I=>by rw[goN,goN,YaM,Yav,Zjm U]
theorem Zha:∀ (r:List Int) (I:List (List Int)) (A:List Int),goN r (I++[A])=goN r I++[r++finN I++up1 A]
 | r,[],A=>by simp[goN,finN]
 | r,B::I,A=>by
  rw[Ybx,goN,goN,Zha,Ybx];simp[finN]
theorem ZdB:∀ (r:List Int) (I:List (List Int)),(goN r I).length=I.length
 | _,[]=>rfl
 | r,A::I=>by rw[goN,Yaz,Yaz,ZdB]
theorem ZbI (I:List (List Int)) (A:List Int):finN (I++[A])=finN I++up1 A:=by simp[finN]
theorem Zdw:∀ (I:List (List Int)) (Z:List Int),ZaS (I++[Z])=(finN I++Z)::(goN [] I).reverse
 | [],Z=>by simp[ZaS,finN,goN]
 | A::I,Z=>by
  have ih:=Zdw I Z;have e:ZaS (A::(I++[Z]))=(ZaS (I++[Z])).map (up1 A++·)++[up1 A]:=by
   cases I with
   | nil=>rfl
   | cons B r=>rfl
  have g:goN (up1 A) I=(goN [] I).map (up1 A++·):=by
   have:=Zjm (up1 A) [] I
   rwa [Ybb] at this
  rw[Ybx,e,ih,goN,Yb6,g];simp[finN]
theorem ZkY (I:List (List Int)):((finN I).length:Int)=(Za1 I).sum:=by
 induction I with
 | nil=>rfl
 | cons A I ih=>
  have e:finN (A::I)=up1 A++finN I:=rfl;have e2:Za1 (A::I)=(A.length:Int)::Za1 I:=rfl;rw[e,e2,Yaf,Yas,<- ih];simp[up1]
theorem ZkN (N:List (List Int)):∀ x∈Za1 N,0<=x:=by
 intro x hx;obtain⟨y,_,rfl⟩:=YaK.mp hx;omega
theorem ZeT {N:List (List Int)} (hs:(Za1 N).sum<=4000) (i:Nat):(finN (N.take i)).length<=4000:=by
 have h1:=ZkY (N.take i);have e:Za1 N=Za1 (N.take i)++Za1 (N.drop i):=by
  unfold Za1;rw[<- Yau,YaH]
 have h2:0<=(Za1 (N.drop i)).sum:=by
  have:∀ l:List Int,(∀ x∈l,0<=x)->0<=l.sum:=by
   intro l
   induction l with
   | nil=>intro _;simp
   | cons x y ih=>
    intro h;rw[Yas];have:=h x (by simp);have:=ih fun z hz=>h z (by simp[hz])
    (clear ih h1 hs;omega)
  exact this _ (ZkN _)
 rw[e,Ybu] at hs;omega
def ZbN:Sp:=fun vs H Q _=>∃ (a:Addr) (rs:List Addr) (N:List (List Int)),vs=[.ref a]/\H a=some (.tup (rs.map V.ref))/\TTs H rs N/\2<=N.length/\N.length<=7/\(Za1 N).sum<=4000/\∀ l qs H',H l=none->H' l=some (.tup (qs.map V.ref))->TTs H' qs (ZaS N)->Same H H'->Q (.ref l) H'
def ZeB (fn:Addr):Sp:=fun vs H Q _=>∃ p n:Nat,vs=[.int p,.int n,.ref fn]/\2<=p/\p<=7/\n<=100/\(casc p n).sum<=4000/\∀ l qs H',H l=none->H' l=some (.tup (qs.map V.ref))->TTs H' qs (casN p n)->Same H H'->Q (.ref l) H'
def Zfe:Sp:=fun vs H Q _=>∃ p n:Nat,vs=[.int p,.int n]/\2<=p/\p<=7/\n<=100/\(casc p n).sum<=4000/\∀ l qs H',H l=none->H' l=some (.tup (qs.map V.ref))->TTs H' qs (casN p n)->Same H H'->Q (.ref l) H'
theorem Zbw {p:Nat} (hp:1<=p):∀ n,(casN p n).length=p
 | 0=>by simp[casN,num0];omega
 | n+1=>by rw[casN,ZcR,Zbw hp n]
theorem Zcd (x:Int):∀ l:List Int,(l.map (x+·)).sum=l.length*x+l.sum
 | []=>by simp
 | y::l=>by
  rw[YaM,Yas,Zcd x l,Yas,Yaz,Yej,YbC];omega
theorem Zcp:∀ c:List Int,(∀ x∈c,0<=x)->c.sum<=(Za8 c).sum/\∀ x∈Za8 c,0<=x
 | [],_=>⟨Ybd _,by simp[Za8,pre]⟩
 | x::r,h=>by
  obtain⟨h1,h2⟩:=Zcp r fun y hy=>h y (by simp[hy]);have hx:=h x (by simp);rw[ZbS];refine⟨?_,fun y hy=>?_⟩
  ·rw[Ybu,Zcd,Yas,Yas,Yd1];have:0<=((Za8 r).length:Int)*x:=YbY (by (clear hx h1;omega)) hx
   (clear hx;omega)
  ·rcases Yam.mp hy with hy | hy
   ·obtain⟨z,hz,rfl⟩:=YaK.mp hy;have:=h2 z hz
    (clear h1;omega)
   ·have:y=x:=by simpa using hy
    (clear h1;omega)
theorem ZdG (p:Nat):∀ n,∀ x∈casc p n,0<=x
 | 0=>(ZbV p 0).2
 | n+1=>(Zcp _ (ZdG p n)).2
theorem ZfB {p m n:Nat} (h:m<=n):(casc p m).sum<=(casc p n).sum:=by
  induction n with
  | zero => have : m = 0 := by omega
            subst this;exact Ybd _
  | succ n ih=>
    by_cases e:m=n+1
    · subst e;exact Ybd _
    · have:=ih (by (clear ih;omega));have:=(Zcp _ (ZdG p n)).1
      show _<=(Za8 (casc p n)).sum
      (clear e h ih;omega)
end Lv
namespace Lv
open PySem L2
theorem ZgC {n:Nat}:HT.sIx (n+1) (n+1) (some (-1))=n:=by
 have:=HT.clip_eq (-1) (n+1) (n+1);rw[if_pos (by decide)] at this;omega
theorem Zjx (xs:List V) (y:V):cutV (xs++[y]) none (some (-1))=xs:=by
 unfold cutV;rw[show (xs++[y]).length=xs.length+1 by simp,ZgC];show (xs++[y]).take (xs.length - 0)=xs;rw[Ydc,YeH]
theorem TTs.cut {H:Hp}{rs:List Addr}{N:List (List Int)} (h:TTs H rs N) (hN:1<=N.length):∃ rs' z I Z,rs=rs'++[z]/\N=I++[Z]/\TTs H rs' I/\H z=some (.tup (Z.map V.int)):=by
 have hl:=h.1;have h1:N≠[]:=by intro z;rw[z] at hN;simp at hN
 have h2:rs≠[]:=by intro z;rw[z] at hl;simp at hl;exact h1 (YbH.mp hl.symm)
 obtain⟨I,Z,rfl⟩:∃ I Z,N=I++[Z]:=⟨_,_,(Yce h1).symm⟩
 obtain⟨rs',z,rfl⟩:∃ I Z,rs=I++[Z]:=⟨_,_,(Yce h2).symm⟩
 have hl2:rs'.length=I.length:=by simpa using hl
 refine⟨rs',z,I,Z,rfl,rfl,⟨hl2,fun j r xs ha hb=>?_⟩,?_⟩
 ·have j1:=(Yab.mp ha).1
  refine h.2 j r xs ?_ ?_
  ·rw[Ybe j1];exact ha
  ·rw[Ybe (by (clear hl hN;omega))];exact hb
 ·refine h.2 I.length z Z ?_ ?_
  ·rw[YaV (by (clear hl hN;omega))];simp[hl2]
  ·rw[YaV (by (clear hl2 hl hN;omega))];simp
theorem Zhg {K:Yac}{H:Hp}{a b:Addr}{xs ys:List Int}{Q:VK} (ha:H a=some (.tup (xs.map V.int))) (hb:H b=some (.tup (ys.map V.int))) (hz:xs.length+ys.length<=sizeLine) (q:∀ r H',H' r=some (.tup ((xs++ys).map V.int))->Same H H'->Q (.ref r) H'):ZmZ K (.ref a) (.ref b) H Q:=by
 refine⟨a,b,_,_,rfl,rfl,SqT.of ha,SqT.of hb,by simpa using hz,fun e=>?_,fun e1 e2=>?_,fun e1 e2 p hp=>?_⟩
 ·have e:xs=[]:=by simpa using e
  subst e;exact q b H hb (Same.refl _)
 ·have e:ys=[]:=by simpa using e2
  subst e;exact q a H (by simpa using ha) (Same.refl _)
 ·exact q p _ (by rw[Zab];simp) (Same.new hp)
theorem TTs.rev {H:Hp}{rs:List Addr}{N:List (List Int)} (h:TTs H rs N):TTs H rs.reverse N.reverse:=by
 refine⟨by simp[h.1],fun j r xs ha hb=>?_⟩;have j1:=(Yab.mp ha).1
 have j2:=(Yab.mp hb).1
 simp only[YbM] at j1 j2;rw[YcQ j1] at ha;rw[YcQ j2,<- h.1] at hb;exact h.2 _ r xs ha hb
theorem TTs.cons {H:Hp}{rs:List Addr}{N:List (List Int)}{r:Addr}{x:List Int} (e:H r=some (.tup (x.map V.int))) (h:TTs H rs N):TTs H (r::rs) (x::N):=by
 refine⟨by simp[h.1],fun j r' xs ha hb=>?_⟩
 cases j with
 | zero=>
  have:r=r':=by simpa using ha
  have:x=xs:=by simpa using hb
  subst r' xs;exact e
 | succ j=>exact h.2 j r' xs (by simpa using ha) (by simpa using hb)
end Lv
namespace Lv
open PySem L2
end Lv
namespace Lv
open PySem L2
def vec (L:Nat) (g:Nat->Int):List Int:=(YaG L).map g
def arr (L:Nat) (xs:List Int):List Int:=vec L fun m=>cn xs (m:Int)
def mre (p at_ o:Nat):Int:=if at_ > 0∨o<p - 1 then 1 else 0
theorem Zgh (I:List (List Int)) (m:Int):∀ k,k<=I.length->cn (finN (I.take k)) m=trs (fun o=>cn (I.getD o []) (m - 1)) k
 | 0,_=>by rw[Yb5];exact Zns m
 | k+1,h=>by
  rw[YaW (by omega),ZbI,Zlw,Zgh I m k (by omega),trs];have:I.getD k []=I[k]:=by rw[Yai,Yad (by omega)];rfl
  rw[this];unfold up1;rw[Zk2]
theorem Znm (I:List (List Int)):∀ k,k<I.length->(goN [] I)[k]?=some (finN (I.take (k+1))):=by
 intro k hk;have:∀ (r:List Int) (J:List (List Int)) (k:Nat),k<J.length->(goN r J)[k]?=some (r++finN (J.take (k+1))):=by
  intro r J
  induction J generalizing r with
  | nil=>intro k h;simp at h
  | cons A J ih=>
   intro k h;rw[goN]
   cases k with
   | zero=>simp[finN]
   | succ k=>
    rw[List.getElem?_cons_succ,ih (r++up1 A) k (by simpa using h)];simp[finN]
 simpa using this [] I k hk
theorem ZkH {N:List (List Int)}{at_:Nat}{xs:List Int} (h2:1<=N.length) (h:(ZaS N)[at_]?=some xs) (m:Int):cn xs m=trs (fun o=>cn (N.getD o []) (m - mre N.length at_ o)) (N.length - at_):=by
 obtain⟨I,Z,rfl⟩:∃ I Z,N=I++[Z]:=by
  have hne:N≠[]:=by rintro rfl;simp at h2
  exact⟨N.dropLast,N.getLast hne,(Yce hne).symm⟩
 have hl:(I++[Z]).length=I.length+1:=by simp
 have hat:=(Yab.mp h).1
 rw[ZcR,hl] at hat;rw[Zdw] at h;have gI:∀ o,o<I.length->(I++[Z]).getD o []=I.getD o []:=fun o ho=>by
  rw[Yai,Ybe ho,Yai]
 rw[hl]
 cases at_ with
 | zero=>
  have h:finN I++Z=xs:=by simpa using h
  rw[<- h,Zlw,Ydc,trs];have e1:=Zgh I m I.length (Yak _);rw[YaN] at e1;rw[e1];congr 1
  ·refine Zdi fun o ho=>?_;rw[gI o ho,mre,if_pos (.inr (by (clear e1 hat hl h2;omega)))]
  ·rw[mre,if_neg (by (clear e1 hat hl h2;omega)),Int.sub_zero,Yai];simp
 | succ a=>
  have h:((goN [] I).reverse)[a]?=some xs:=by simpa using h
  rw[YcQ (by rw[ZdB];(clear hl h2;omega)),ZdB,Znm I _ (by (clear hl h2;omega))] at h;have h:=YaL h;rw[<- h,Zgh I m _ (by (clear hl h2;omega))];have:I.length - 1 - a+1=I.length+1 - (a+1):=by (clear hl h2;omega)
  rw[this];refine Zdi fun o ho=>?_;rw[gI o (by (clear this hat hl h2;omega)),mre,if_pos (.inl (by (clear ho this hat hl h2;omega)))]
theorem Zlx {p:Nat} (hp:1<=p):∀ n:Nat,Bd n (casN p n)
 | 0=>ZdI p 0
 | n+1=>fun xs a m b=>by
  have ih:=Zlx hp n;obtain⟨at_,ha⟩:=YcX a;have hm:=cn_ne.mpr b;rw[ZkH (by rw[Zbw hp];exact hp) ha] at hm;have:∀ (h:Nat->Int) k,trs h k≠0->∃ o,o<k/\h o≠0:=by
   intro h k
   induction k with
   | zero=>intro z;exact absurd rfl z
   | succ k ihk=>
    intro z;rw[trs] at z;by_cases e:h k=0
    ·rw[e,YdD] at z;obtain⟨o,h1,h2⟩:=ihk z;exact⟨o,by (clear h2 e z ihk hm hp;omega),h2⟩
    ·exact⟨k,by (clear e z ihk hm hp;omega),e⟩
  obtain⟨o,_,ho⟩:=this _ _ hm;have hmem:=cn_ne.mp ho;rw[Yai] at hmem
  cases e:(casN p n)[o]? with
  | none=>rw[e] at hmem;cases hmem
  | some ys=>
   rw[e] at hmem;have:=ih ys (YaO e) _ hmem;have h01:mre (casN p n).length at_ o=0∨mre (casN p n).length at_ o=1:=by unfold mre;split <;> simp
   (clear ho hm hp;omega)
end Lv
namespace Lv
open PySem L2
theorem Zn7 {p:Int} (hp:2<=p) (M:Nat) (xs:List Int):0<=kr p M xs:=ZmQ fun x hx=>by
 obtain⟨y,_,rfl⟩:=YaK.mp hx;have:=Za2 (p:=p) (by omega) (M - y.toNat)
 (clear hp;omega)
theorem Zmk:∀ N:List (List Int),(ZaS N).length=N.length
 | []=>rfl
 | [Z]=>rfl
 | A::B::r=>by
  rw[ZaS,Yaf,Yaa,Zmk (B::r)];rfl
theorem Zg0 {p:Int} (hp:2<=p) {M:Nat}:∀ N:List (List Int),(N.length:Int)<=p->(∀ xs∈N,∀ y∈xs,0<=y/\y+1<=M)->kr p M (ZaS N).flatten<=kr p M N.flatten
 | [],_,_=>Ybd _
 | [Z],_,_=>Ybd _
 | A::B::r,hl,h=>by
  have ih:=Zg0 hp (B::r) (by simp at hl ⊢;(clear hp;omega)) fun xs hx=>h xs (Yag _ hx);have hu:=Zml (p:=p) (M:=M) A (h A Yal);have e1:up1 A=A.map (·+1):=rfl;have h1:([A.map (·+1)]:List (List Int)).flatten=A.map (·+1):=by simp
  have e2:kr p M (A::B::r).flatten=kr p M A+kr p M (B::r).flatten:=by rw[YaR,Zdz]
  rw[e2,<- hu,ZaS,YbB,Zdz,Zi6,Zmk,e1,h1];have hn:=Zn7 hp M (A.map (·+1));have h2:(((B::r).length:Int)+1)*kr p M (A.map (·+1))<=p*kr p M (A.map (·+1)):=YaE (by simp at hl ⊢;(clear hn e2 hu ih hp;omega)) hn;rw[YbC,YdJ] at h2
  (clear hn e2 hu hl hp;omega)
theorem Zlo {p:Nat} (hp:1<=p):∀ n,(casN p n).length=p
 | 0=>ZbE hp 0
 | n+1=>by rw[casN,Zmk,Zlo hp n]
theorem Zlq {p:Nat} (hp:2<=p) {M:Nat}:∀ n,n<=M->kr p M (casN p n).flatten<=(p:Int) ^ M
 | 0,h=>Yeb (Zi8 hp 0 h)
 | n+1,h=>by
  have ih:=Zlq (M:=M) hp n (by (clear hp;omega));refine Ycc (Zg0 (by (clear ih h;omega)) (casN p n) (by rw[Zlo (by (clear ih h;omega))];(clear ih h hp;omega)) fun xs hx y hy=>?_) ih;have:=Zlx (p:=p) (by (clear ih h;omega)) n xs hx y hy
  (clear ih hp;omega)
end Lv
namespace Lv
open PySem L2
def fill (x y:Int):List Bool:=Yaj x.toNat false++Yaj y.toNat true
def layB (c v:List Int):List (List Bool):=Yb2 (fun x y=>fill (x - y) y) c v
def lay (p n:Nat):List (List Bool):=layB (cnt p (came p n).1) (came p n).2
end Lv
namespace L2
open PySem PySem.Spec PyProof.Rows
abbrev two (elt t1 i1:Expr) (f1:List Expr) (t2 i2:Expr) (f2:List Expr) (scope:Scope) (pos:Pos):Expr:=.ListComp elt [⟨t1,i1,f1,0⟩,⟨t2,i2,f2,0⟩] scope pos
theorem ZhY (elt t1 i1:Expr) (f1:List Expr) (t2 i2:Expr) (f2:List Expr) (scope:Scope) (pos:Pos) (it acc:Value) (env:Env) :
  compTurn (two elt t1 i1 f1 t2 i2 f2 scope pos) 0 it acc env=(do
   standAt i1.pos
   match <- pyNext it with
   | none=>pure (.done .next)
   | some v=>
    letOwnedTupleGo t1 it v
    assign t1 env v
    let mut ok:=true
    for c in f1 do
     if ok then ok <- isTrue c env (eval c env)
    if ok then
     let x <- eval i2 env
     standAt i2.pos
     let x <- foldedSetIterable i2 env x
     let _ <- runOwn (.compStart (two elt t1 i1 f1 t2 i2 f2 scope pos) 1 (<- holding [x] (pyIter x)) acc env) env
    again (.compLoop (two elt t1 i1 f1 t2 i2 f2 scope pos) 0 it acc env)):=by rfl
theorem ZhX (elt t1 i1:Expr) (f1:List Expr) (t2 i2:Expr) (f2:List Expr) (scope:Scope) (pos:Pos) (it acc:Value) (env:Env) :
  compTurn (two elt t1 i1 f1 t2 i2 f2 scope pos) 1 it acc env=(do
   standAt i2.pos
   match <- pyNext it with
   | none=>pure (.done .next)
   | some v=>
    letOwnedTupleGo t2 it v
    assign t2 env v
    let mut ok:=true
    for c in f2 do
     if ok then ok <- isTrue c env (eval c env)
    if ok then
     (do let _ <- call (.builtin "list.append") [acc,<- eval elt env])
    again (.compLoop (two elt t1 i1 f1 t2 i2 f2 scope pos) 1 it acc env)):=by rfl
section
variable {prog:Program}{w:World}{A:Around}{R:Result->Shared->Prop}{s:Shared}{elt t1 i1:Expr}{f1:List Expr}{t2 i2:Expr}{f2:List Expr}{scope:Scope}{pos:Pos}{it acc:Value}{env:Env}
theorem ZiZ (I:Nat->Shared->Prop)
  (turn:∀ n s,I n s->wpAny (model prog w) A (pyNext it) (fun r s₁=>match r with
   | none=>R (.ok .next) s₁
   | some v=>wpAny (model prog w) A (letOwnedTupleGo t2 it v) (fun _ s₁'=>wpAny (model prog w) A (assign t2 env v) (fun _ s₂=>
     wpAny (model prog w) A (forIn f2 true fun c r=>if r=true then do let ok <- isTrue c env (eval c env);pure (Ybi ok) else pure (Ybi r)) (fun ok s₃=>
      if ok=true then wpAny (model prog w) A (eval elt env) (fun x s₄=>
       wpAny (model prog w) A (call (.builtin "list.append") [acc,x]) (fun _ s₅=>∃ m,m<n/\I m s₅) (fun _ _=>False) s₄) (fun _ _=>False) s₃
      else ∃ m,m<n/\I m s₃) (fun _ _=>False) s₂) (fun _ _=>False) s₁') (fun _ _=>False) s₁) (fun _ _=>False) s)
  (n:Nat) (h:I n s):codeAny (model prog w) A (.compLoop (two elt t1 i1 f1 t2 i2 f2 scope pos) 1 it acc env) R s:=by
 refine codeAny_loop rfl I (fun n s hI=>?_) n h;show wpAny _ A ((compTurn (two elt t1 i1 f1 t2 i2 f2 scope pos) 1 it acc env).onRaise (fun x=>do noteFrame x env;theTreesLotGoes x)) _ _ s;refine wpAny_noted ?_;rw[ZhX];refine wpAny_bind (wpAny_standAt (wpAny_bind (wpAny_mono (turn n s hI) (fun r s₁ h₁=>?_) fun _ _ h'=>h'.elim)))
 cases r with
 | none=>exact wpAny_pure h₁
 | some v=>
  refine wpAny_bind (wpAny_mono h₁ (fun _ s₁' h₁=>?_) fun _ _ h'=>h'.elim);refine wpAny_bind (wpAny_mono h₁ (fun _ s₂ h₂=>wpAny_bind (wpAny_mono h₂ (fun ok s₃ h₃=>?_) fun _ _ h'=>h'.elim)) fun _ _ h'=>h'.elim)
  cases ok with
  | false=>exact wpAny_pure ⟨rfl,h₃⟩
  | true=>
   exact wpAny_bind (wpAny_bind (wpAny_mono h₃ (fun x s₄ h₄=>wpAny_bind (wpAny_mono h₄ (fun _ s₅ h₅=>wpAny_pure (wpAny_pure ⟨rfl,h₅⟩)) fun _ _ h'=>h'.elim)) fun _ _ h'=>h'.elim))
theorem Zht
  (h0:codeAny (model prog w) A (.compLoop (two elt t1 i1 f1 t2 i2 f2 scope pos) 1 it acc env) R s)
  (h:wpAny (model prog w) A (pyIter it) (fun it' s'=>codeAny (model prog w) A (.compLoop (two elt t1 i1 f1 t2 i2 f2 scope pos) 1 it' acc env) R s')
   (notedBy (model prog w) A env fun x s'=>R (.error x) s') s) :
  codeAny (model prog w) A (.compStart (two elt t1 i1 f1 t2 i2 f2 scope pos) 1 it acc env) R s:=by
 refine codeAny_of_tree ?_;show wpAny _ _ ((compStart (two elt t1 i1 f1 t2 i2 f2 scope pos) 1 it acc env).onRaise (fun x=>do noteFrame x env;standAt theWindowsPlace)) _ _ s;refine wpAny_notedAt ?_;unfold compStart;show wpAny _ _ (ask >>= _) _ _ s;refine wpAny_bind (wpAny_askSetting (wpAny_ite ?_));split
 ·first
   | exact wpAny_bind (wpAny_pure (wpAny_pure (And.intro rfl h0)))
   | exact wpAny_pure (And.intro rfl h0)
 ·refine wpAny_bind (wpAny_rule ?_);show wpAny _ _ (standAt i2.pos >>= _) _ _ s;exact wpAny_bind (wpAny_standAt (wpAny_bind (wpAny_mono h (fun it' s' h'=>wpAny_pure (And.intro rfl h')) fun _ _ x=>x)))
theorem Zi0 (I:Nat->Shared->Prop) (hs:∀ x,foldedSetIterable i2 env x=pure x)
  (turn:∀ n s,I n s->wpAny (model prog w) A (pyNext it) (fun r s₁=>match r with
   | none=>R (.ok .next) s₁
   | some v=>wpAny (model prog w) A (letOwnedTupleGo t1 it v) (fun _ s₁'=>wpAny (model prog w) A (assign t1 env v) (fun _ s₂=>
     wpAny (model prog w) A (forIn f1 true fun c r=>if r=true then do let ok <- isTrue c env (eval c env);pure (Ybi ok) else pure (Ybi r)) (fun ok s₃=>
      if ok=true then wpAny (model prog w) A (eval i2 env) (fun x s₄=>wpAny (model prog w) A (pyIter x) (fun itv s₅=>
       codeAny (model prog w) A (.compStart (two elt t1 i1 f1 t2 i2 f2 scope pos) 1 itv acc env) (fun r s₆=>∃ fl,r=.ok fl/\∃ m,m<n/\I m s₆) s₅) (fun _ _=>False) s₄) (fun _ _=>False) s₃
      else ∃ m,m<n/\I m s₃) (fun _ _=>False) s₂) (fun _ _=>False) s₁') (fun _ _=>False) s₁) (fun _ _=>False) s)
  (n:Nat) (h:I n s):codeAny (model prog w) A (.compLoop (two elt t1 i1 f1 t2 i2 f2 scope pos) 0 it acc env) R s:=by
 refine codeAny_loop rfl I (fun n s hI=>?_) n h;show wpAny _ A ((compTurn (two elt t1 i1 f1 t2 i2 f2 scope pos) 0 it acc env).onRaise (fun x=>do noteFrame x env;theTreesLotGoes x)) _ _ s;refine wpAny_noted ?_;rw[ZhY];refine wpAny_bind (wpAny_standAt (wpAny_bind (wpAny_mono (turn n s hI) (fun r s₁ h₁=>?_) fun _ _ h'=>h'.elim)))
 cases r with
 | none=>exact wpAny_pure h₁
 | some v=>
  refine wpAny_bind (wpAny_mono h₁ (fun _ s₁' h₁=>?_) fun _ _ h'=>h'.elim);refine wpAny_bind (wpAny_mono h₁ (fun _ s₂ h₂=>wpAny_bind (wpAny_mono h₂ (fun ok s₃ h₃=>?_) fun _ _ h'=>h'.elim)) fun _ _ h'=>h'.elim)
  cases ok with
  | false=>exact wpAny_pure ⟨rfl,h₃⟩
  | true=>
   refine wpAny_bind (wpAny_mono h₃ (fun x s₄ h₄=>wpAny_bind (wpAny_standAt ?_)) fun _ _ h'=>h'.elim);rw[hs];refine wpAny_bind (wpAny_pure (wpAny_bind (wpAny_holding (wpAny_mono h₄ (fun itv s₅ h₅=>?_) fun _ _ h'=>h'.elim))));refine wpAny_bind (wpAny_runOwn (h:=none) (codeAny_mono h₅ fun r s₆ ⟨fl,er,h₆⟩=>?_));subst er;exact wpAny_pure ⟨rfl,h₆⟩
end
end L2
namespace L2
open PySem PySem.Spec PyProof.Rows
def tInW (g2:TG) (tt2:TT) (te:TE) (τ:St) (acc:Addr) (J2:It) (H6:Hp) (Z:Hp->Prop):Prop :=
 ∃ (W2:Nat->Hp->Prop) (n2:Nat),W2 0 H6/\∀ k H7,W2 k H7->(J2.stop k H7/\Z H7)∨(k<n2/\J2.go k H7/\∀ y H8,J2.yld k H7 y H8->g2 y τ H8 fun τ2 H9=>tt2 τ2 H9 fun c H10=>
  if c=true then te τ2 H10 fun z H11=>∃ ys,H11 acc=some (.lst ys)/\ys.length<sizeLine/\W2 (k+1) (upd H11 acc (.lst (ys++[z]))) else W2 (k+1) H10)
def ZfS (own:List Str) (js:List Nat) (g1:TG) (tt1:TT) (wi2:TI) (g2:TG) (tt2:TT) (te:TE) (σ:St) (J:It) (H1:Hp) (Q:VK):Prop :=
 ∀ acc,H1 acc=none->∃ (W:Nat->Hp->Prop) (n:Nat),W 0 (upd H1 acc (.lst []))/\∀ i H2,W i H2 ->
  (J.stop i H2/\Q (.ref acc) H2)∨(i<n/\J.go i H2/\∀ x H3,J.yld i H2 x H3->g1 x (blkσ own js σ) H3 fun τ H4=>tt1 τ H4 fun c H5=>
   if c=true then wi2 τ H5 fun J2 H6=>tInW g2 tt2 te τ acc J2 H6 (W (i+1)) else W (i+1) H5)
def ZmN (own:List Str) (js:List Nat) (wi:TI) (g1:TG) (tt1:TT) (wi2:TI) (g2:TG) (tt2:TT) (te:TE):TE:=fun σ H Q=>wi σ H fun J H1=>ZfS own js g1 tt1 wi2 g2 tt2 te σ J H1 Q
def ZmE (fr:List Nat) (τ:St):Prop:=∀ i∈fr,∀ v,τ[i]?≠some (some v)
def ZjO (own:List Str) (fr:List Nat) (g:TG):Prop:=∀ (js:List Nat) (σ:St) (x:V) (H:Hp) (Q:St->Hp->Prop),g x (blkσ own js σ) H Q ->
 g x (blkσ own js σ) H fun τ H'=>((∀ (j:Nat) v,(blkσ own js σ)[j]?=some (some v)->τ[j]?=some (some v))/\ZmE fr τ)/\Q τ H'
def Zhl (fr:List Nat) (g:TG):Prop:=∀ (τ:St),ZmE fr τ->∀ (x:V) (H:Hp) (Q:St->Hp->Prop),g x τ H Q->g x τ H fun τ' H'=>(∀ (j:Nat) v,τ[j]?=some (some v)->τ'[j]?=some (some v))/\Q τ' H'
theorem ZhP {K:Yac}{own:List Str}{i k:Nat}{fr:List Nat} (hi:i<own.length:=by decide) (hk:k<own.length:=by decide) (hf:∀ j∈fr,j<own.length/\j≠i/\j≠k:=by decide):ZjO own fr (gTup K 2 (ZdC (ZbH i) (ZdC (ZbH k) gNil))):=fun js σ x H Q h=>by
 obtain⟨a,xs,rfl,hq,hl,v,r,rfl,w,r',rfl,e,h⟩:=h;refine⟨a,_,rfl,hq,hl,v,_,rfl,w,r',rfl,e,⟨fun j z e=>?_,fun j hj z e=>?_⟩,h⟩
 ·have hj:j≠i:=by rintro rfl;exact Za0 hi e
  have hj':j≠k:=by rintro rfl;exact Za0 hk e
  rw[YaZ (Ybl hj'),YaZ (Ybl hj)];exact e
 ·obtain⟨h1,h2,h3⟩:=hf j hj;rw[YaZ (Ybl h3),YaZ (Ybl h2)] at e;exact Za0 h1 e
theorem ZhO {K:Yac}{i k:Nat}:Zhl [i,k] (gTup K 2 (ZdC (ZbH i) (ZdC (ZbH k) gNil))):=fun τ u x H Q h=>by
 obtain⟨a,xs,rfl,hq,hl,v,r,rfl,w,r',rfl,e,h⟩:=h;refine⟨a,_,rfl,hq,hl,v,_,rfl,w,r',rfl,e,fun j z e=>?_,h⟩;have hj:j≠i:=by rintro rfl;exact u j (by simp) _ e
 have hj':j≠k:=by rintro rfl;exact u j (by simp) _ e
 rw[YaZ (Ybl hj'),YaZ (Ybl hj)];exact e
section
variable {X:Cx}{scope:Scope}{own:List Str}{js fr:List Nat}{elt t1 i1:Expr}{f1:List Expr}{t2 i2:Expr}{f2:List Expr}{wi wi2:TI}{g1 g2:TG}{tt1 tt2:TT}{te:TE}{pos:Pos}
theorem Zji {pins:List (Addr × Obj)}{s₂:Shared}{H2:Hp}{C:Addr}{fp:List Addr}{τ:St}{H6:Hp}{s6:Shared}{it2 acc:Addr}{fp2:List Addr}{tn2:Nat->Heap->Prop}{J2:It}{Z:Hp->Prop}{P:List (Addr × Obj)}
  (hc:X.calm=true) (hgk:Zhl fr g2) (hu:ZmE fr τ)
  (hg:PG (X.blk scope own js s₂ H2 C fp pins) t2 g2) (ht:PTs (X.blk scope own js s₂ H2 C fp pins) f2 tt2) (he:PE (X.blk scope own js s₂ H2 C fp pins) elt te)
  (I6:Inv (X.blk scope own js s₂ H2 C fp pins) P τ H6 s6) (T:Turn X.prog X.w X.K t2 J2 fp2 it2 tn2) (st:tn2 0 s6.heap) (hf:∀ b∈fp2,FpOk (X.blk scope own js s₂ H2 C fp pins) P H6 b) (h:tInW g2 tt2 te τ acc J2 H6 Z) :
  codeAny (model X.prog X.w) X.A (.compStart (two elt t1 i1 f1 t2 i2 f2 scope pos) 1 (.ref it2) (.ref acc) (compEnvC scope (clOf scope X.env) C X.env)) (fun r s'=>r=.ok .next/\∃ H',Inv (X.blk scope own js s₂ H2 C fp pins) P τ H' s'/\Z H') s6:=by
 obtain⟨W,nn,w0,turn⟩:=h;have fOk:∀ {H':Hp},(∀ b∈fp2,H' b=none)->∀ b∈fp2,FpOk (X.blk scope own js s₂ H2 C fp pins) P H' b:=fun hn b hb=>⟨hn b hb,(hf b hb).2⟩
 have loop:codeAny (model X.prog X.w) X.A (.compLoop (two elt t1 i1 f1 t2 i2 f2 scope pos) 1 (.ref it2) (.ref acc) (compEnvC scope (clOf scope X.env) C X.env)) (fun r s'=>r=.ok .next/\∃ H',Inv (X.blk scope own js s₂ H2 C fp pins) P τ H' s'/\Z H') s6:=by
  refine ZiZ (fun n s'=>∃ i H',n=nn - i/\Inv (X.blk scope own js s₂ H2 C fp pins) P τ H' s'/\tn2 i s'.heap/\(∀ b∈fp2,H' b=none)/\W i H') ?_ nn ⟨0,_,rfl,I6,st,fun b hb=>(hf b hb).1,w0⟩;rintro n s3 ⟨i,H3,en,I3,st3,fr3,w3⟩;rcases turn i H3 w3 with ⟨stop,qn⟩ | ⟨hin,go,step⟩
  ·refine thn (T.done (X.blk scope own js s₂ H2 C fp pins) rfl rfl rfl hc i P s3 _ H3 (fun _ _=>False) I3 (fOk fr3) st3 stop) fun r s4 ⟨hr,I4⟩=>?_;subst hr;exact⟨rfl,H3,I4,qn⟩
  ·refine thn (T.item (X.blk scope own js s₂ H2 C fp pins) rfl rfl rfl hc i P s3 _ H3 (fun _ _=>False) I3 (fOk fr3) st3 go) fun r s4 ⟨u,hr,h4⟩=>?_;subst hr;refine thn h4 fun _ s5 ⟨x,H5,I5,r5,y5,st5,fr5⟩=>?_;have I5':=I5.pinned (fOk fr5) (T.obj _ _ st5);have again:∀ {σ7:St}{H7:Hp}{s7:Shared},Inv (X.blk scope own js s₂ H2 C fp pins) (P++Zdr fp2 s5.heap) σ7 H7 s7->(∀ (j:Nat) v,τ[j]?=some (some v)->σ7[j]?=some (some v))->W (i+1) H7 ->
     ∃ m,m<n/\∃ i H',m=nn - i/\Inv (X.blk scope own js s₂ H2 C fp pins) P τ H' s7/\tn2 i s7.heap/\(∀ b∈fp2,H' b=none)/\W i H':=fun {σ7 H7 s7} I7 hw w7=>by
    refine⟨nn - (i+1),by omega,i+1,H7,rfl,(I7.unpinned).weak (I3.len.trans I7.len.symm) hw,T.keep _ _ _ st5 fun b hb o e=>(I7.pin (b,o) (Yao _ (Yao _ (ZaW hb e)))).1,fun b hb=>?_,w7⟩;obtain⟨o,e,d⟩:=T.obj _ _ st5 b hb;exact (I7.pin (b,o) (Yao _ (Yao _ (ZaW hb e)))).2.1
   refine thn (hg _ s5 _ H5 x u _ I5' r5 (hgk τ hu _ _ _ (step x H5 y5))) fun _ s6 ⟨σ6,H6,I6,kp,q6⟩=>?_;refine thn (ht _ s6 σ6 H6 _ I6 q6) fun ok s7 ⟨H7,I7,q7⟩=>?_
   cases ok with
   | false=>exact again I7 kp q7
   | true=>
    refine thn (he _ s7 σ6 H7 _ I7 q7) fun y s8 ⟨v,H8,I8,r8,ys,hl,hz,w8⟩=>?_;refine thn (ZaZ (X:=X.blk scope own js s₂ H2 C fp pins) _ s8 σ6 H8 (.ref acc) [v] (.ref acc) [y] (fun _ H9=>W (i+1) H9) I8 rfl (.cons r8 .nil) ⟨acc,ys,v,rfl,rfl,hl,hz,w8⟩) fun _ s9 ⟨_,H9,I9,_,w9⟩=>?_;exact again I9 kp w9
 exact Zht loop (T.self _ 0 _ _ _ st loop)
theorem Zk4 {pins:List (Addr × Obj)}{σ:St}{H2:Hp}{s₂:Shared}{it:Addr}{fp:List Addr}{tn:Nat->Heap->Prop}{J:It}{Q:VK}{E:Value->Shared->Prop}{RR:Value->Addr->Result->Shared->Prop}
  (c:CompOk X scope own js) (hc:X.calm=true) (hgk:ZjO own fr g1) (hgt:Zhl fr g2)
  (hg:∀ s H C fp pins,PG (X.blk scope own js s H C fp pins) t1 g1) (ht:∀ s H C fp pins,PTs (X.blk scope own js s H C fp pins) f1 tt1) (hi2:∀ s H C fp pins,PI (X.blk scope own js s H C fp pins) t2 i2 wi2)
  (hg2:∀ s H C fp pins,PG (X.blk scope own js s H C fp pins) t2 g2) (ht2:∀ s H C fp pins,PTs (X.blk scope own js s H C fp pins) f2 tt2) (he:∀ s H C fp pins,PE (X.blk scope own js s H C fp pins) elt te)
  (hs2:∀ env x,foldedSetIterable i2 env x=pure x)
  (I:Inv X pins σ H2 s₂) (T:Turn X.prog X.w X.K t1 J fp it tn) (st:tn 0 s₂.heap) (hf:∀ b∈fp,FpOk X pins H2 b) (h:ZfS own js g1 tt1 wi2 g2 tt2 te σ J H2 Q)
  (hRR:∀ acc C H' s' m,s₂.heap.objs.size<=C->H' C=none->Inv X pins σ H' s'->s'.heap.Ns C m->Q (.ref acc) H'->RR (.ref acc) C (.ok .next) s') :
  wpAny (model X.prog X.w) X.A (newList []) (fun acc s₃=>wpAny (model X.prog X.w) X.A (newFunctionEnv scope X.env.globals (clOf scope X.env) [] X.env.qual none .none (some X.env)) (fun cenv s₄=>
   codeAny (model X.prog X.w) X.A (.compStart (two elt t1 i1 f1 t2 i2 f2 scope pos) 0 (.ref it) acc { cenv with scope:=relabel scope X.env }) (RR acc cenv.locals) s₄) E s₃) E s₂:=by
 refine wpAny_newObj_type (wpAny_newFunctionEnv c.cell (by intro y hy;simp at hy) (fun h₁ hns₁ hsb₁=>?_) c.kind);dsimp only at hns₁ hsb₁ ⊢;generalize hH2:s₂.heap.push { cls:=.type "list",dict:=none,data:=.seq ([]:List Value).toArray }=G2 at hns₁ hsb₁ ⊢;have hC:G2.objs.size=s₂.heap.objs.size+1:=by rw[<- hH2,YbF]
 have hDC:s₂.heap.objs.size≠G2.objs.size:=by rw[hC];exact YaU (Ycw _)
 have hCle:s₂.heap.objs.size<=G2.objs.size:=by rw[hC];exact Ydm _
 have old:∀ b o,s₂.heap.get? b=some o->h₁.get? b=some o:=fun b o e=>hsb₁.extBut b o (YaU (Yaw (Yap e) hCle)) (Yae _ (hH2 ▸ Yae _ e));have hacc:h₁.get? s₂.heap.objs.size=some { cls:=.type "list",data:=.seq ([]:List Value).toArray 0 }:=hsb₁.extBut _ _ hDC (Yae _ (hH2 ▸ YaB _ rfl));have ho2:∀ b∈fp,∃ o,s₂.heap.get? b=some o:=fun b hb=>let ⟨o,e,_⟩:=T.obj 0 _ st b hb;⟨o,e⟩
 have I0:∀ tk,Inv (X.blk scope own js s₂ H2 G2.objs.size fp pins) [] (blkσ own js σ) (upd H2 s₂.heap.objs.size (.lst [])) { s₂ with heap:=h₁,toks:=tk }:=fun tk=>
  ZfG c I hCle hf ho2 hns₁ old (Yak _) hDC hacc
 obtain⟨W,nn,w0,turn⟩:=h s₂.heap.objs.size (I.hok.fresh (Yak _));generalize hacc':s₂.heap.objs.size=acc at *;generalize hGC:G2.objs.size=C at *;have st1:tn 0 h₁:=T.keep 0 _ _ st fun b _ o e=>old b o e;have fOk:∀ {H':Hp},(∀ b∈fp,H' b=none)->∀ b∈fp,FpOk (X.blk scope own js s₂ H2 C fp pins) [] H' b:=fun hn b hb=>by
  obtain⟨f0,f1,f2,f3,f4,f5⟩:=hf b hb;obtain⟨o,e⟩:=ho2 b hb;refine⟨hn b hb,YaU (Yaw (Yap e) (by rw[<- hacc'] at hCle;exact hCle)),fun z=>?_,.inl hb,fun x a h=>f4 x a (c.look I h),fun p hp=>f5 p (by simpa[Cx.blk] using hp)⟩;rcases YaC.mp (I.stkSub b z) with q | q
  ·exact f1 q
  ·exact f2 q
 have loop:∀ s₃:Shared,s₃={ s₂ with heap:=h₁,toks:=s₂.toks+([]:List (Str × Value)).length } ->
   codeAny (model X.prog X.w) X.A (.compLoop (two elt t1 i1 f1 t2 i2 f2 scope pos) 0 (.ref it) (.ref acc) (compEnvC scope (clOf scope X.env) C X.env)) (RR (.ref acc) C) s₃:=by
  rintro s₃ rfl;refine Zi0 (fun n s'=>∃ i H',n=nn - i/\Inv (X.blk scope own js s₂ H2 C fp pins) [] (blkσ own js σ) H' s'/\tn i s'.heap/\(∀ b∈fp,H' b=none)/\W i H') (hs2 _) ?_ nn ⟨0,_,rfl,I0 _,st1,fun b hb=>?_,w0⟩
  ·rintro n s3 ⟨i,H3,en,I3,st3,fr3,w3⟩;rcases turn i H3 w3 with ⟨stop,qn⟩ | ⟨hin,go,step⟩
   ·refine thn (T.done (X.blk scope own js s₂ H2 C fp pins) rfl rfl rfl hc i [] s3 _ H3 (fun _ _=>False) I3 (fOk fr3) st3 stop) fun r s4 ⟨hr,I4⟩=>?_;subst hr;obtain⟨m,hn,_⟩:=I4.loc;exact hRR acc C H3 s4 m hCle I4.free (ZjG I hf I4) hn qn
   ·refine thn (T.item (X.blk scope own js s₂ H2 C fp pins) rfl rfl rfl hc i [] s3 _ H3 (fun _ _=>False) I3 (fOk fr3) st3 go) fun r s4 ⟨u,hr,h4⟩=>?_;subst hr;refine thn h4 fun _ s5 ⟨x,H5,I5,r5,y5,st5,fr5⟩=>?_;have I5':=I5.pinned (fOk fr5) (T.obj _ _ st5);have again:∀ {σ7:St}{H7:Hp}{s7:Shared},Inv (X.blk scope own js s₂ H2 C fp pins) ([]++Zdr fp s5.heap) σ7 H7 s7->(∀ (j:Nat) v,(blkσ own js σ)[j]?=some (some v)->σ7[j]?=some (some v))->W (i+1) H7 ->
      ∃ m,m<n/\∃ i H',m=nn - i/\Inv (X.blk scope own js s₂ H2 C fp pins) [] (blkσ own js σ) H' s7/\tn i s7.heap/\(∀ b∈fp,H' b=none)/\W i H':=fun {σ7 H7 s7} I7 hw w7=>by
     refine⟨nn - (i+1),by (clear hCle hDC hC hGC hacc';omega),i+1,H7,rfl,(I7.unpinned).weak ((Zgt own js σ X).trans I7.len.symm) hw,T.keep _ _ _ st5 fun b hb o e=>(I7.pin (b,o) (Yao _ (Yao _ (ZaW hb e)))).1,fun b hb=>?_,w7⟩;obtain⟨o,e,d⟩:=T.obj _ _ st5 b hb;exact (I7.pin (b,o) (Yao _ (Yao _ (ZaW hb e)))).2.1
    refine thn (hg s₂ H2 C fp pins _ s5 _ H5 x u _ I5' r5 (hgk _ _ _ _ _ (step x H5 y5))) fun _ s6 ⟨σ6,H6,I6,⟨kp,un⟩,q6⟩=>?_;refine thn (ht s₂ H2 C fp pins _ s6 σ6 H6 _ I6 q6) fun ok s7 ⟨H7,I7,q7⟩=>?_
    cases ok with
    | false=>exact again I7 kp q7
    | true=>
     refine thn (hi2 s₂ H2 C fp pins _ s7 σ6 H7 _ I7 q7) fun v s8 h8=>thn h8 fun itv s9 h9=>?_;obtain⟨it2,fp2,tn2,J2,H9,e9,I9,T2,st9,f9,hw9⟩:=h9;subst e9;refine codeAny_mono (Zji (t1:=t1) (i1:=i1) (f1:=f1) (i2:=i2) (pos:=pos) hc hgt un (hg2 s₂ H2 C fp pins) (ht2 s₂ H2 C fp pins) (he s₂ H2 C fp pins) I9 T2 st9 f9 hw9) fun r s10 ⟨er,H10,I10,w10⟩=>?_;exact⟨_,er,again I10 kp w10⟩
  ·rw[Zag ?_]
   ·exact (hf b hb).1
   ·obtain⟨o,e⟩:=ho2 b hb;rw[<- hacc'];exact YaU (Yap e)
 exact codeAny_compStart_list (loop _ rfl) (T.self _ 0 _ _ _ st1 (loop _ rfl))
end
end L2
namespace L2
open PySem PySem.Spec PyProof.Rows
end L2
namespace Lv
open PySem L2
def sel (xs:List Int) (bs:List Bool):List Int:=((xs.zip bs).filter (·.2)).map (·.1)
def ZnT (N:List (List Int)) (B:List (List Bool)):List Int:=(Yb2 sel N B).flatten
end Lv
namespace L2
open PySem PySem.Spec PyProof.Rows
section
variable {M:Model}{A:Around}{E:Value->Shared->Prop}
end
section
variable {X:Cx}{pins:List (Addr × Obj)}{σ:St}{H H':Hp}{s s':Shared}{scope:Scope}{own:List Str}{js:List Nat}{C:Addr}{fp:List Addr}
structure CompOkK (X:Cx) (scope:Scope) (own:List Str) (js:List Nat):Prop where
 kind:scope.kind=.function
 free:∀ y∈scope.names,y.2=.free->X.env.kindOf y.1=some .cell∨X.env.kindOf y.1=some .free
 names:∀ y∈scope.names,scope.names.lookup y.1=some y.2
 out:∀ j∈js,∃ x,X.N[j]?=some x/\scope.names.lookup x=some .free
end
section
variable {X:Cx}{scope:Scope}{own:List Str}{js:List Nat}{elt iter target:Expr}{ifs:List Expr}{wi:TI}{g:TG}{tt:TT}{te:TE}{pos:Pos}
end
end L2
namespace Lv
open PySem L2
end Lv
namespace Lv
open PySem L2
def nfR (ks:List (Int × Int)) (i:Nat) (x:Int):List Bool:=(YaG x.toNat).map fun (j:Nat)=>decide (((i:Int),(j:Int))∈ks)
def nf (ks:List (Int × Int)):Nat->List Int->List (List Bool)
 | _,[]=>[]
 | i,x::c=>nfR ks i x::nf ks (i+1) c
end Lv
namespace Lv
open PySem L2
end Lv
namespace Lv
open PySem L2
section
variable {S:Nat->List (List Int)}
def gS (S:Nat->List (List Int)) (r:Int) (n:Nat):Option Int:=Znf (S n).flatten r
structure Lvs (S:Nat->List (List Int)):Prop where
 bd:∀ n:Nat,Bd n (S n)
 ne:∀ n,(S n).flatten≠[]
 up:∀ n,∀ b∈(S (n+1)).flatten,∃ y∈(S n).flatten,y<=b
end
end Lv
namespace Lv
open PySem L2
end Lv
namespace Lv
open PySem L2
def Ps (h r:Int) (k:Nat):Prop:=r<=h ^ k/\∀ j,j<k->h ^ j<r
structure Fil (S:Nat->List (List Int)) (p:Int):Prop where
 lv:Lvs S
 kr:∀ M n,n<=M->kr p M (S n).flatten<=p ^ M
 z:(S 0).flatten.length=1
 one:∀ n,∀ y∈(S (n+1)).flatten,1<=y
structure Bst (S:Nat->List (List Int)) (N:Nat) (r:Int) (q:Int × Nat):Prop where
 lt:q.2<N
 eq:gS S r q.2=some q.1
 le:∀ n v,n<N->gS S r n=some v->q.1<=v
 first:∀ n v,n<q.2->gS S r n=some v->q.1<v
end Lv
namespace Lv
open PySem L2
def fst1 (p r:Int):Int:=2+(r - 2) % (p - 1)
structure Od (p r:Nat) (left:List Int) (read:Int) (k x y:Nat) (w e:Int):Prop where
 is:left=Yaj x ((p:Int) ^ k)++w::Yaj y ((p:Int) ^ (k+1))
 lo:(p:Int) ^ k<=w
 hi:w<=(p:Int) ^ (k+1)
 all:(x:Int)*(p:Int) ^ k+w+(y:Int)*(p:Int) ^ (k+1)=r
 full:∃ j:Nat,x+y=j*(p - 1)
 rd:read=(x:Int)*(p:Int) ^ k*k+(y:Int)*(p:Int) ^ (k+1)*(k+1)+(w*k+e)
 kr:(p:Int)*(w - e)+e+((p:Int) - fst1 p r)=(p:Int) ^ (k+1)
end Lv
namespace Lv
open PySem L2
end Lv
namespace Lv
open PySem L2
def SS (c:Bool) (p:Nat):Nat->List (List Int):=if c then casN p else num p
def BstJ (S:Nat->List (List Int)) (L:Nat) (j:Int) (v:Int):Prop:=(v = -1/\∀ n,n<L->gS S j n=none)∨(0<=v/\(∃ n,n<L/\gS S j n=some v)/\∀ n u,n<L->gS S j n=some u->v<=u)
def low (c:Bool) (p L:Nat):Nat:=if c then L / 2 else (L+p - 1) / p
structure BestF (S:Nat->List (List Int)) (L most:Nat) (F:List Int):Prop where
 len:F.length=most+1
 at_:∀ j:Nat,1<=j->j<=most->BstJ S L j (F.getD j 0)
end Lv
namespace Lv
open PySem L2
def ZdQ:Int:=10000000000000000000000000000000000000000000000000000000000000
def upI:List Int->Bool
 | []=>true
 | [_]=>true
 | a::b::r=>decide (a<=b) && upI (b::r)
inductive El (H:Hp):V->Prop
 | int {z:Int} (h1:-ZdQ - 2<z) (h2:z<ZdQ+2):El H (.int z)
 | bl (b:Bool):El H (.bl b)
 | non:El H .non
 | str {x:Str} (h:x.length<=400) (hc:∀ c∈x.cps.toList,c<16 ^ 8):El H (.str x)
 | lst {a:Addr}{zs:List Int} (e:H a=some (.lst (zs.map V.int))) (hl:zs.length<=3) (hb:∀ z∈zs,-ZdQ - 2<z/\z<ZdQ+2):El H (.ref a)
 | tup {a:Addr}{zs:List Int} (e:H a=some (.tup (zs.map V.int))) (hl:zs.length<=3) (hb:∀ z∈zs,-ZdQ - 2<z/\z<ZdQ+2):El H (.ref a)
inductive Lf (H:Hp):V->Prop
 | non:Lf H .non
 | int (i:Int) (h:i=7):Lf H (.int i)
 | bl (b:Bool):Lf H (.bl b)
 | str (x:Str):Lf H (.str x)
 | d0 {a:Addr} (e:H a=some (.dK [])):Lf H (.ref a)
 | d1 {a:Addr} (e:H a=some (.dK [(.inl 1,.int 2)])):Lf H (.ref a)
structure Sh (d:PyData) (n:Nat):Prop where
 ok:d.showable=true
 nd:d.hasDict=false
 dp:d.depth<=1
 sz:d.shown.length<=n
end Lv
namespace Lv
open PySem L2
def Free (N:List (List Int)) (m:List Nat) (o:Int):Prop:=0<=o/\o<N.length/\m.getD o.toNat 0≠(N.getD o.toNat []).length
instance (N:List (List Int)) (m:List Nat) (o:Int):Decidable (Free N m o):=by unfold Free;infer_instance
def Zn1 (m:List Nat) (o:Int):List Nat:=m.set o.toNat (m.getD o.toNat 0+1)
def atO (N:List (List Int)) (m:List Nat) (o:Int):Int:=(N.getD o.toNat []).getD (m.getD o.toNat 0) 0
def hold (N:List (List Int)):List Nat->List Int->List Int->Option (List Nat × List Int)
 | m,t,[]=>some (m,t)
 | m,t,o::os=>if Free N m o then hold N (Zn1 m o) (t++[atO N m o]) os else none
def InM (N:List (List Int)) (m:List Nat):Prop:=m.length=N.length/\∀ j,j<N.length->m.getD j 0<=(N.getD j []).length
end Lv
namespace Lv
open PySem L2
def lenN (N:List (List Int)):List Nat:=N.map Ydl
def opn (N:List (List Int)) (m:List Nat) (j:Nat):Bool:=decide (m.getD j 0<(N.getD j []).length)
def opnL (N:List (List Int)) (m:List Nat):List Nat:=(YaG N.length).filter (opn N m)
structure OrS (N:List (List Int)) (m:List Nat) (t os:List Int):Prop where
 hd:hold N (N.map fun _=>0) [] os=some (m,t)
 up:upI t=true
 lst:∀ l,t.getLast?=some l->∀ j∈opnL N m,l<=atO N m j
 inm:InM N m
 sm:m.sum=os.length
end Lv
namespace L2
open PySem PySem.Spec PyProof.Rows PySem.SeqAt
def ItlB (b:Bool) (K:Yac) (a:Addr):It:=match b with | true=>Itl K a | false=>Itt K a
def Znl (K:Yac) (tl:TE):TI:=fun σ H R=>tl σ H fun x H1=>∃ a b,x=.ref a/\(∃ xs,SqB b K H1 a xs)/\R (ItlB b K a) H1
theorem Zkm (K:Yac) {X:Cx}{tg l:Expr}{tl:TE} (hl:PE X l tl) (hK:X.K=K:=by rfl):PI X tg l (Znl K tl):=by
 subst hK;intro pins s σ H R I h;refine thn (hl pins s σ H _ I h) fun v s1 ⟨x,H1,I1,r1,q1⟩=>?_;obtain⟨a,b,e,⟨xs,hq⟩,q⟩:=q1;subst e;cases r1;have fp:∀ b∈[s1.heap.objs.size],FpOk X pins H1 b:=fun b hb=>by
  have e:b=s1.heap.objs.size:=by simpa using hb
  subst e;exact I1.fpOk (Yak _) (I1.hok.fresh (Yak _))
 cases b with
 | true=>
  obtain⟨its,rv,p,hz⟩:=I1.list hq;exact wpAny_pyIter_list p.isList ⟨s1.heap.objs.size,[s1.heap.objs.size],_,_,H1,rfl,I1.kept (t':=s1.toks) fun b o e=>Yae _ e,ZhZ a _,⟨_,YaB _ rfl,rfl,rfl⟩,fp,q⟩
 | false=>
  obtain⟨its,rv,p,hz⟩:=I1.tuple hq;exact wpAny_pyIter_tuple (show s1.heap.IsTuple a its.toArray from p) ⟨s1.heap.objs.size,[s1.heap.objs.size],_,_,H1,rfl,I1.kept (t':=s1.toks) fun b o e=>Yae _ e,ZdT a _,⟨_,YaB _ rfl,rfl,rfl⟩,fp,q⟩
theorem Zb6 {X:Cx}{tg l:Expr}{tl:TE} (hl:PE X l tl):PI X tg l (Znl X.K tl):=Zkm X.K hl
theorem Zjb {b:Bool}{K:Yac}{H:Hp}{a:Addr}{xs:List V}{i:Nat} (q:SqB b K H a xs) (hi:i<xs.length):(ItlB b K a).go i H:=by
 cases b <;> exact⟨xs,xs[i],q,Yad hi⟩
theorem Zg6 {b:Bool}{K:Yac}{H H':Hp}{a:Addr}{xs:List V}{i:Nat}{x:V} (q:SqB b K H a xs) (y:(ItlB b K a).yld i H x H'):H'=H/\xs[i]?=some x:=by
 cases b <;> exact⟨y.1,y.2 xs q⟩
theorem Zfs {b:Bool}{K:Yac}{H:Hp}{a:Addr}{xs:List V}{i:Nat} (q:SqB b K H a xs) (hi:xs.length<=i):(ItlB b K a).stop i H:=by
 cases b <;> exact⟨xs,q,hi⟩
theorem Zjc {b:Bool}{K:Yac}{H:Hp}{a:Addr}{xs:List V}{i:Nat} (q:SqB b K H a xs) (hi:i<xs.length):(IteB b K a).go i H:=by
 cases b <;> exact⟨xs,xs[i],q,Yad hi⟩
theorem Zg7 {b:Bool}{K:Yac}{H H':Hp}{a:Addr}{xs:List V}{i:Nat}{x:V} (q:SqB b K H a xs) (y:(IteB b K a).yld i H x H'):∃ p z,H p=none/\x=.ref p/\H'=upd H p (.tup [.int i,z])/\xs[i]?=some z:=by
 cases b with
 | true=>obtain⟨p,z,hp,e1,e2,y⟩:=y;exact⟨p,z,hp,e1,e2,y xs q⟩
 | false=>obtain⟨p,z,hp,e1,e2,y⟩:=y;exact⟨p,z,hp,e1,e2,y xs q⟩
theorem Zft {b:Bool}{K:Yac}{H:Hp}{a:Addr}{xs:List V}{i:Nat} (q:SqB b K H a xs) (hi:xs.length<=i):(IteB b K a).stop i H:=by
 cases b <;> exact⟨xs,q,hi⟩
section
variable {b:Bool}{K:Yac}{own:List Str}{js:List Nat}{g1 g2 g:TG}{tt1 tt2 tt:TT}{wi2:TI}{te:TE}{σ τ:St}{H1 H6:Hp}{Q:VK}{a acc:Addr}{xs:List V}
theorem Zjz (Pv:Addr->Nat->Hp->Prop) (h0:∀ acc,H1 acc=none->Pv acc 0 (upd H1 acc (.lst []))) (hl:∀ acc i H,H1 acc=none->i<=xs.length->Pv acc i H->SqB b K H a xs)
  (hs:∀ acc i x H,H1 acc=none->xs[i]?=some x->Pv acc i H->g x (blkσ own js σ) H fun τ H4=>tt τ H4 fun c H5=>
   if c=true then te τ H5 fun y H6=>∃ ys,H6 acc=some (.lst ys)/\ys.length<sizeLine/\(i+1<=xs.length/\Pv acc (i+1) (upd H6 acc (.lst (ys++[y])))) else (i+1<=xs.length/\Pv acc (i+1) H5))
  (hd:∀ acc H,H1 acc=none->Pv acc xs.length H->Q (.ref acc) H):Zby own js g tt te σ (ItlB b K a) H1 Q:=by
 intro acc hacc;refine⟨fun i H=>i<=xs.length/\Pv acc i H,xs.length,⟨YaY _,h0 acc hacc⟩,?_⟩;rintro i H ⟨hi,p⟩;have q:=hl acc i H hacc hi p;rcases YbI i xs.length with hlt | hge
 ·refine .inr ⟨hlt,Zjb q hlt,fun x H' y=>?_⟩;obtain⟨rfl,hx⟩:=Zg6 q y;exact hs acc i x _ hacc hx p
 ·obtain rfl:i=xs.length:=by omega
  exact .inl ⟨Zfs q (Yak _),hd acc H hacc p⟩
theorem Zgq (Pv:Addr->Nat->Hp->Prop) (h0:∀ acc,H1 acc=none->Pv acc 0 (upd H1 acc (.lst []))) (hl:∀ acc i H,H1 acc=none->i<=xs.length->Pv acc i H->SqB b K H a xs)
  (hs:∀ acc i x p H,H1 acc=none->xs[i]?=some x->Pv acc i H->H p=none->g1 (.ref p) (blkσ own js σ) (upd H p (.tup [.int i,x])) fun τ H4=>tt1 τ H4 fun c H5=>
   if c=true then wi2 τ H5 fun J2 H6=>tInW g2 tt2 te τ acc J2 H6 (fun H7=>i+1<=xs.length/\Pv acc (i+1) H7) else (i+1<=xs.length/\Pv acc (i+1) H5))
  (hd:∀ acc H,H1 acc=none->Pv acc xs.length H->Q (.ref acc) H):ZfS own js g1 tt1 wi2 g2 tt2 te σ (IteB b K a) H1 Q:=by
 intro acc hacc;refine⟨fun i H=>i<=xs.length/\Pv acc i H,xs.length,⟨YaY _,h0 acc hacc⟩,?_⟩;rintro i H ⟨hi,p⟩;have q:=hl acc i H hacc hi p;rcases YbI i xs.length with hlt | hge
 ·refine .inr ⟨hlt,Zjc q hlt,fun x H' y=>?_⟩;obtain⟨pa,z,hp,rfl,rfl,hx⟩:=Zg7 q y;exact hs acc i z pa H hacc hx p hp
 ·obtain rfl:i=xs.length:=by omega
  exact .inl ⟨Zft q (Yak _),hd acc H hacc p⟩
theorem Zhb {tb:TS}{D:Ends}{H:Hp} (Pv:Nat->St->Hp->Prop) (h0:Pv 0 σ H) (hl:∀ i σ H,i<=xs.length->Pv i σ H->SqB b K H a xs)
  (hs:∀ i x σ H,xs[i]?=some x->Pv i σ H->g x σ H fun σ2 H2=>tb { D with nx:=Pv (i+1),ct:=Pv (i+1),bk:=D.nx } σ2 H2) (hd:∀ σ H,Pv xs.length σ H->D.nx σ H) :
  ∃ W:Nat->Nat->St->Hp->Prop,(∃ m,W 0 m σ H)/\∀ i m σ H,W i m σ H ->
   ((ItlB b K a).stop i H/\D.nx σ H)∨((ItlB b K a).go i H/\∃ N:St->Hp->Prop,(∀ σ' H',N σ' H'->∃ m',m'<m/\W (i+1) m' σ' H')/\∀ x H',(ItlB b K a).yld i H x H'->g x σ H' fun σ2 H2=>tb { D with nx:=N,ct:=N,bk:=D.nx } σ2 H2):=by
 refine⟨fun i m σ H=>m=xs.length - i/\i<=xs.length/\Pv i σ H,⟨xs.length,by simp,YaY _,h0⟩,?_⟩;rintro i m σ H ⟨rfl,hi,p⟩;have q:=hl i σ H hi p;rcases YbI i xs.length with hlt | hge
 ·refine .inr ⟨Zjb q hlt,Pv (i+1),fun σ' H' z=>⟨xs.length - (i+1),by (clear hi;omega),rfl,hlt,z⟩,fun x H' y=>?_⟩;obtain⟨rfl,hx⟩:=Zg6 q y;exact hs i x σ _ hx p
 ·obtain rfl:i=xs.length:=by omega
  exact .inl ⟨Zfs q (Yak _),hd σ H p⟩
end
end L2
namespace Lv
open PySem L2
def prs:Nat->List (List Int)->List Nat->List (Int × Nat)
 | k,x::N,m::ms=>(x.drop m).map (fun z=>(z,k))++prs (k+1) N ms
 | _,_,_=>[]
def Zne (p q:Int × Nat):Prop:=p.1<q.1∨(p.1=q.1/\p.2<=q.2)
structure MgS (N:List (List Int)) (m:List Nat) (tk:List (Int × Nat)):Prop where
 inm:InM N m
 perm:(tk++prs 0 N m).Perm (prs 0 N (N.map fun _=>0))
 srt:tk.Pairwise Zne
 le:∀ p∈tk,∀ q∈prs 0 N m,Zne p q
 sm:m.sum=tk.length
theorem ZmS {a b:List Int} (h:a.Perm b) (h1:a.Pairwise (·<=·)) (h2:b.Pairwise (·<=·)):a=b :=
 Yc5 (fun a b _ _ h1 h2=>YeD h1 h2) h1 h2 h
def SeqI (H:Hp) (r:Addr) (xs:List V):Prop:=H r=some (.lst xs)∨H r=some (.tup xs)
structure RwS (H:Hp) (a:Addr) (rs:List Addr) (N:List (List Int)):Prop where
 top:SeqI H a (rs.map V.ref)
 len:rs.length=N.length
 row:∀ (j:Nat) r xs,rs[j]?=some r->N[j]?=some xs->SeqI H r (xs.map V.int)
theorem ZcV {qs:List Addr}{i:Nat}{x:V} (h:(qs.map V.ref)[i]?=some x):∃ p,qs[i]?=some p/\x=.ref p:=by
 rw[Yat] at h
 cases e:qs[i]? with
 | none=>rw[e] at h;cases h
 | some p=>rw[e] at h;exact⟨p,rfl,(YaL h).symm⟩
structure GoodT (N:List (List Int)):Prop where
 many:N.length<=12
 tot:(lenN N).sum<=400
 bnd:∀ xs∈N,∀ z∈xs,-ZdQ<z/\z<ZdQ
 srt:∀ xs∈N,xs.Pairwise (·<=·)
structure GoodB (b:Nat) (N:List (List Int)):Prop where
 len:∀ xs∈N,xs.length<=b
 bnd:∀ xs∈N,∀ z∈xs,-ZdQ<z/\z<ZdQ
 srt:∀ xs∈N,xs.Pairwise (·<=·)
end Lv
namespace L2
open PySem PySem.Spec PyProof.Rows PySem.SeqAt
section
variable {X:Cx}{scope:Scope}{own:List Str}{js fr:List Nat}{elt i1 t1 i2 t2:Expr}{f1 f2:List Expr}{wi wi2:TI}{g1 g2:TG}{tt1 tt2:TT}{te:TE}{pos:Pos}
theorem Zkf {i:Nat}{y:Str}{py spos:Pos} (hN:X.N.Nodup) (hy:X.N[i]?=some y) (hyl:X.env.scope.names.lookup y=some .local) (c:CompOk X scope own js) (hc:X.calm=true) (hi:PI X t1 i1 wi) (hgk:ZjO own fr g1) (hgt:Zhl fr g2)
  (hg:∀ s H C fp pins,PG (X.blk scope own js s H C fp pins) t1 g1) (ht:∀ s H C fp pins,PTs (X.blk scope own js s H C fp pins) f1 tt1) (hi2:∀ s H C fp pins,PI (X.blk scope own js s H C fp pins) t2 i2 wi2)
  (hg2:∀ s H C fp pins,PG (X.blk scope own js s H C fp pins) t2 g2) (ht2:∀ s H C fp pins,PTs (X.blk scope own js s H C fp pins) f2 tt2) (he:∀ s H C fp pins,PE (X.blk scope own js s H C fp pins) elt te)
  (hsw:swapsWith (two elt t1 i1 f1 t2 i2 f2 scope pos) (some (.Name y py)) spos.line X.env=pure true:=by rfl)
  (hs:∀ x,foldedSetIterable i1 X.env x=pure x:=by intro _;rfl) (hs2:∀ env x,foldedSetIterable i2 env x=pure x:=by intro _ _;rfl):PS X (.Assign [.Name y py] (two elt t1 i1 f1 t2 i2 f2 scope pos) spos) (tAsg (ZmN own js wi g1 tt1 wi2 g2 tt2 te) (ZbH i)):=by
 intro pins s σ H D I h;rw[exec_Assign_Name_used _ _ _ _ hsw];refine wpAny_bind (wpAny_standAt (wpAny_bind ?_));show wpAny _ X.A (do let _ <- comprehension (two elt t1 i1 f1 t2 i2 f2 scope pos) scope X.env _ (newList []) false (eval i1 X.env) (some (assign (.Name y py) X.env))) _ _ s;refine wpAny_bind (wpAny_mono (wpAny_comprehension_free (use:=some (assign (.Name y py) X.env)) (Q:=fun _ s'=>SP X pins D .next s') rfl hs (ZcX (c.cl I)) c.kind c.names
  (thn (hi pins s σ H _ I h) fun v s1 h1=>thn h1 fun itv s2 h2=>?_)) (fun _ s' hq=>wpAny_pure (wpAny_pure hq)) fun _ _ e=>e)
 obtain⟨it,fp,tn,J,H2,e,I2,T,st2,f2',hw⟩:=h2;subst e;refine Zk4 (Q:=fun x H1=>ZbH i x σ H1 D.nx) (RR:=fun acc C=>compPost (model X.prog X.w) X.A X.xe (some (assign (.Name y py) X.env)) (fun _ s'=>SP X pins D .next s') acc C) c hc hgk hgt hg ht hi2 hg2 ht2 he hs2 I2 T st2 f2' hw ?_;intro acc C H' s' m hCs hCn I' hn q;have hL:C≠X.env.locals:=Yb4 (Yaw I2.lt hCs);have hcell:∀ x a,X.env.cells.lookup x=some a->a≠C:=by
  intro x a e z;obtain⟨v,q⟩:=I2.cell x a e;exact absurd (Yaw q.lt (by rw[z];exact hCs)) (Ybo _)
 refine wpAny_assign_Name (Zdk I' hN hy (.inl hyl) (v:=.ref acc) rfl (fun s2 I'' hch=>?_) (.inr hyl));obtain⟨a,sb,ha⟩:=hch;have hCa:C≠a:=by
  rcases ha with rfl | ha
  ·exact hL
  ·exact Ybl (hcell _ _ ha)
 refine⟨m,hn.sameBut sb hCa,fun h' hs'=>⟨_,H',I''.other hs' hCn hL (Ybw I2.sz hCs) hcell ?_,q⟩⟩;intro p hp z;exact absurd (Yaw (Yap (I2.pin p hp).1) (by rw[z];exact hCs)) (Ybo _)
end
end L2
namespace L2
open PySem PySem.Spec PyProof.Rows PySem.SeqAt
theorem Ziv (K:Yac) {X:Cx}{es:List Expr}{x1}{tpos:Pos}{e:Expr}{ta:TA}{p pos:Pos} (hg:Gl X "enumerate") (hm:X.mg "enumerate"=none) (ha:PA X [e] ta) (hK:X.K=K:=by rfl) (hs:starEach [e] X.env=[(false,eval e X.env)]:=by rfl) :
  PI X (.Tuple es x1 tpos) (.Call (.Name "enumerate" p) [e] [] pos) (Zlt K ta):=by subst hK;exact Zcn hg hm ha hs
section
variable {b:Bool}{K:Yac}{g2:TG}{tt2:TT}{te:TE}{τ:St}{H6:Hp}{a acc:Addr}{xs:List V}
theorem ZkQ {Z:Hp->Prop} (W2:Nat->Hp->Prop) (h0:W2 0 H6) (hl:∀ i H,i<=xs.length->W2 i H->SqB b K H a xs)
  (hs:∀ i x p H,xs[i]?=some x->W2 i H->H p=none->g2 (.ref p) τ (upd H p (.tup [.int i,x])) fun τ2 H9=>tt2 τ2 H9 fun c H10=>
   if c=true then te τ2 H10 fun z H11=>∃ zs,H11 acc=some (.lst zs)/\zs.length<sizeLine/\(i+1<=xs.length/\W2 (i+1) (upd H11 acc (.lst (zs++[z])))) else (i+1<=xs.length/\W2 (i+1) H10))
  (hd:∀ H,W2 xs.length H->Z H):tInW g2 tt2 te τ acc (IteB b K a) H6 Z:=by
 refine⟨fun i H=>i<=xs.length/\W2 i H,xs.length,⟨YaY _,h0⟩,?_⟩;rintro i H ⟨hi,p⟩;have q:=hl i H hi p;rcases YbI i xs.length with hlt | hge
 ·refine .inr ⟨hlt,Zjc q hlt,fun x H' y=>?_⟩;obtain⟨pa,z,hp,rfl,rfl,hx⟩:=Zg7 q y;exact hs i z pa H hx p hp
 ·obtain rfl:i=xs.length:=by omega
  exact .inl ⟨Zft q (Yak _),hd H p⟩
end
end L2
namespace Lv
open PySem L2
def intW:V->Int
 | .int i=>i
 | _=>0
def kf (H:Hp) (p:Addr):List Int:=match H p with
 | some (.tup vs)=>vs.map intW
 | _=>[]
theorem Zfr {H:Hp}{p:Addr}{k:List Int} (h:H p=some (.tup (k.map V.int))):kf H p=k:=by
 unfold kf;rw[h];show (k.map V.int).map intW=k;rw[Yb3];exact (Yb9 fun _ _=>rfl).trans (Yff k)
def TuM (H:Hp) (ps:List Addr) (ks:List (List Int)):Prop:=(∀ p∈ps,∃ k:List Int,k≠[]/\H p=some (.tup (k.map V.int)))/\ps.map (kf H)=ks
theorem TuM.nil {H:Hp}:TuM H [] []:=⟨fun p hp=>(nomatch hp),rfl⟩
theorem TuM.keep {H H':Hp}{ps:List Addr}{ks:List (List Int)} (h:TuM H ps ks) (k:∀ p∈ps,H' p=H p):TuM H' ps ks:=by
 refine⟨fun p hp=>by rw[k p hp];exact h.1 p hp,?_⟩;rw[<- h.2];refine Yb9 fun p hp=>?_;unfold kf;rw[k p hp]
theorem TuM.same {H H':Hp}{ps:List Addr}{ks:List (List Int)} (h:TuM H ps ks) (s:Same H H'):TuM H' ps ks:=h.keep fun p hp=>by
 obtain⟨k,_,e⟩:=h.1 p hp;rw[e,s _ _ e]
theorem TuM.snoc {H:Hp}{ps:List Addr}{ks:List (List Int)}{p:Addr}{k:List Int} (h:TuM H ps ks) (e:H p=some (.tup (k.map V.int))) (hk:k≠[]):TuM H (ps++[p]) (ks++[k]):=by
 refine⟨fun q hq=>?_,by rw[Yau,h.2,YaM,Yd2,Zfr e]⟩;rcases Yam.mp hq with hq | hq
 ·exact h.1 q hq
 ·rw[YaD.mp hq];exact⟨k,hk,e⟩
theorem TuM.at {H:Hp}{ps:List Addr}{ks:List (List Int)} (h:TuM H ps ks) {j:Nat}{p:Addr} (e:ps[j]?=some p):∃ k,ks[j]?=some k/\H p=some (.tup (k.map V.int)):=by
 obtain⟨k,_,e2⟩:=h.1 p (YaO e);exact⟨k,by rw[<- h.2,Yat,e,Option.map_some,Zfr e2],e2⟩
theorem TuM.len {H:Hp}{ps:List Addr}{ks:List (List Int)} (h:TuM H ps ks):ps.length=ks.length:=by rw[<- h.2,Yaa]
def ZcA (k:Nat) (xs:List Int):List (List Int):=xs.mapIdx fun j z=>[z,(k:Int),(j:Int)]
def trip:Nat->List (List Int)->List (List Int)
 | _,[]=>[]
 | k,xs::N=>ZcA k xs++trip (k+1) N
theorem Zho {k:Nat}{xs:List Int}{j:Nat}{z:Int} (h:xs[j]?=some z):ZcA k (xs.take (j+1))=ZcA k (xs.take j)++[[z,(k:Int),(j:Int)]]:=by
 have hl:=(Yab.mp h).1
 unfold ZcA;rw[Ybj,h,Yby,YdM];simp[Yay,Yb0 (Ybs hl)]
theorem Ze6:∀ (N:List (List Int)) (k:Nat) (xs:List Int),trip k (N++[xs])=trip k N++ZcA (k+N.length) xs
 | [],k,xs=>by simp[trip]
 | y::N,k,xs=>by rw[Ybx,trip,Ze6 N (k+1) xs,trip,Yav,Yaz,show k+1+N.length=k+(N.length+1) by omega]
theorem Zh1 {N:List (List Int)}{i:Nat}{xs:List Int} (h:N[i]?=some xs):trip 0 (N.take (i+1))=trip 0 (N.take i)++ZcA i xs:=by
 have hl:=(Yab.mp h).1
 rw[Ybj,h,Yby,Ze6,Yay,Yb0 (Ybs hl),YbV]
theorem Ze7 (k:Nat) (xs:List Int):(ZcA k xs).length=xs.length:=by unfold ZcA;simp
theorem Zcc:∀ (N:List (List Int)) (k:Nat),(trip k N).length=N.flatten.length
 | [],_=>rfl
 | xs::N,k=>by rw[trip,Yaf,Ze7,Zcc N,YaR,Yaf]
theorem Zgx:∀ (N:List (List Int)) (k:Nat),(trip k N).map (fun t=>t.getD 0 0)=N.flatten
 | [],_=>rfl
 | xs::N,k=>by
  rw[trip,Yau,Zgx N,YaR];congr 1;unfold ZcA;exact YbS (by simp) fun i h1 h2=>by simp
def Zbm:Sp:=fun vs H Q _=>∃ (a:Addr) (rs:List Addr) (N:List (List Int)),vs=[.ref a]/\H a=some (.tup (rs.map V.ref))/\TTs H rs N/\N.length<=7/\∀ H',Same H H'->Q (.int (N.flatten.length:Int)) H'
def Zew:Sp:=fun vs H Q _=>∃ (a:Addr) (rs:List Addr) (N:List (List Int)) (m:Nat),vs=[.ref a,.int m]/\H a=some (.tup (rs.map V.ref))/\TTs H rs N/\N.length<=7/\N.flatten.length<=100000 /\
 ∀ (l:Addr) (qs:List Addr) (ks:List (List Int)) H',H l=none->H' l=some (.lst ((qs.take m).map V.ref))->TuM H' qs ks->ks.Perm (trip 0 N)->ks.Pairwise (fun p q=>lxB q p=false)->Same H H'->Q (.ref l) H'
end Lv
namespace L2
open PySem PySem.Spec PyProof.Rows PySem.SeqAt
theorem ZhN {K:Yac}{own:List Str}{i k m:Nat} (hi:i<own.length:=by decide) (hk:k<own.length:=by decide) (hm:m<own.length:=by decide):ZhS own (gTup K 2 (ZdC (ZbH i) (ZdC (gTup K 2 (ZdC (ZbH k) (ZdC (ZbH m) gNil))) gNil))):=fun js σ x H Q h=>by
 obtain⟨a,xs,rfl,hq,hl,v,r,rfl,w,r',rfl,⟨b,ys,rfl,hq2,hl2,v2,r2,rfl,w2,r3,rfl,e2,e,h⟩⟩:=h;refine⟨a,_,rfl,hq,hl,v,_,rfl,_,r',rfl,⟨b,_,rfl,hq2,hl2,v2,_,rfl,w2,r3,rfl,e2,e,fun j z e=>?_,h⟩⟩;have hj:j≠i:=by rintro rfl;exact Za0 hi e
 have hj':j≠k:=by rintro rfl;exact Za0 hk e
 have hj3:j≠m:=by rintro rfl;exact Za0 hm e
 rw[YaZ (Ybl hj3),YaZ (Ybl hj'),YaZ (Ybl hj)];exact e
theorem Zg4 (K:Yac) {X:Cx} (hK:X.K=K:=by rfl):IxR X (rIxT K):=by subst hK;exact Za4
end L2
namespace Lv
open PySem L2
def numV (N:List (List Int)) (k:List Int):Int:=(N.getD (k.getD 0 0).toNat []).getD (k.getD 1 0).toNat 0
def InN (N:List (List Int)) (k:List Int):Prop:=∃ (r p:Nat) (xs:List Int),k=[(r:Int),(p:Int)]/\N[r]?=some xs/\p<xs.length
def Za6 (N:List (List Int)) (ls:List Int) (ks:List (List Int)):List Int:=Yb2 (fun l k=>l*numV N k) ls ks
theorem ZhG {N:List (List Int)}{ls:List Int}{ks:List (List Int)}{i:Nat}{l:Int}{k:List Int} (h1:ls[i]?=some l) (h2:ks[i]?=some k):Za6 N (ls.take (i+1)) (ks.take (i+1))=Za6 N (ls.take i) (ks.take i)++[l*numV N k]:=by
 have a:=(Yab.mp h1).1
 have b:=(Yab.mp h2).1
 unfold Za6;rw[Ybj,h1,Ybj,h2,Yby,Yby,List.zipWith_append (by rw[Yay,Yay];omega)];rfl
def Zet (K:Yac):Sp:=fun vs H Q _=>∃ (a ll pl:Addr) (b:Bool) (rs qs:List Addr) (N:List (List Int)) (ls:List Int) (ks:List (List Int)),vs=[.ref a,.ref ll,.ref pl]/\H a=some (.tup (rs.map V.ref))/\TTs H rs N/\SqB b K H ll (ls.map V.int)/\H pl=some (.lst (qs.map V.ref))/\TuM H qs ks/\(∀ k∈ks,InN N k)/\ls.length=ks.length/\ls.length<=100000 /\
 (∀ l∈ls,YaT l<=8000)/\(∀ xs∈N,∀ z∈xs,YaT z<=8000)/\∀ H',Same H H'->Q (.int (Za6 N ls ks).sum) H'
end Lv
namespace L2
open PySem PySem.Spec PyProof.Rows PySem.SeqAt
theorem Zmt {b1 b2:Bool}{K:Yac}{a b:Addr}{xs ys:List V}{g:TG}{tb:TS}{D:Ends}{σ:St}{H:Hp} (hlen:xs.length<=ys.length) (Pv:Nat->St->Hp->Prop) (h0:Pv 0 σ H)
  (hl:∀ i σ H,i<=xs.length->Pv i σ H->SqB b1 K H a xs/\SqB b2 K H b ys)
  (hs:∀ i x y p σ H,xs[i]?=some x->ys[i]?=some y->Pv i σ H->H p=none->g (.ref p) σ (upd H p (.tup [x,y])) fun σ2 H2=>tb { D with nx:=Pv (i+1),ct:=Pv (i+1),bk:=D.nx } σ2 H2) (hd:∀ σ H,Pv xs.length σ H->D.nx σ H) :
  ∃ W:Nat->Nat->St->Hp->Prop,(∃ m,W 0 m σ H)/\∀ i m σ H,W i m σ H ->
   ((ItzB b1 b2 K a b).stop i H/\D.nx σ H)∨((ItzB b1 b2 K a b).go i H/\∃ N:St->Hp->Prop,(∀ σ' H',N σ' H'->∃ m',m'<m/\W (i+1) m' σ' H')/\∀ x H',(ItzB b1 b2 K a b).yld i H x H'->g x σ H' fun σ2 H2=>tb { D with nx:=N,ct:=N,bk:=D.nx } σ2 H2):=by
 refine⟨fun i m σ H=>m=xs.length - i/\i<=xs.length/\Pv i σ H,⟨xs.length,by simp,YaY _,h0⟩,?_⟩;rintro i m σ H ⟨rfl,hi,p⟩;obtain⟨q1,q2⟩:=hl i σ H hi p;by_cases hlt:i<xs.length
 ·have gx:xs[i]?=some xs[i]:=Yad hlt;have gy:ys[i]?=some ys[i]:=Yad (by (clear hi;omega));refine .inr ⟨⟨xs,ys,xs[i],ys[i],q1,q2,gx,gy⟩,Pv (i+1),fun σ' H' z=>⟨xs.length - (i+1),by (clear hi;omega),rfl,hlt,z⟩,fun x H' y=>?_⟩;obtain⟨pa,z,z',hp,e1,e2,y1,y2⟩:=y;subst e1 e2;exact hs i z z' pa σ H (y1 xs q1) (y2 ys q2) p hp
 ·obtain rfl:i=xs.length:=by (clear hlen;omega)
  exact .inl ⟨⟨xs,ys,q1,q2,.inl (Yak _)⟩,hd σ H p⟩
end L2
namespace Lv
open PySem L2
def prL (ls:List Int):List (List Int):=ls.mapIdx fun j l=>[-l,(j:Int)]
theorem Zkj {ls:List Int}{j:Nat}{l:Int} (h:ls[j]?=some l):prL (ls.take (j+1))=prL (ls.take j)++[[-l,(j:Int)]]:=by
 have hl:=(Yab.mp h).1
 unfold prL;rw[Ybj,h,Yby,YdM];simp[Yay,Yb0 (Ybs hl)]
theorem ZcK (ls:List Int):(prL ls).length=ls.length:=by unfold prL;simp
theorem Zlh {ls:List Int}{j:Nat}{l:Int} (h:ls[j]?=some l):(prL ls)[j]?=some [-l,(j:Int)]:=by
 unfold prL;rw[Yco,h];rfl
theorem ZeH {ls:List Int}{f:List Int} (h:f∈prL ls):∃ (j:Nat) (l:Int),f=[-l,(j:Int)]/\ls[j]?=some l:=by
 obtain⟨j,hj⟩:=YcP.mp h;unfold prL at hj;rw[Yco] at hj
 cases e:ls[j]? with
 | none=>rw[e] at hj;cases hj
 | some l=>rw[e] at hj;cases hj;exact⟨j,l,rfl,e⟩
theorem Zh2 {k:Nat}{xs f:List Int} (h:f∈ZcA k xs):∃ (j:Nat) (z:Int),f=[z,(k:Int),(j:Int)]/\xs[j]?=some z:=by
 obtain⟨j,hj⟩:=YcP.mp h;unfold ZcA at hj;rw[Yco] at hj
 cases e:xs[j]? with
 | none=>rw[e] at hj;cases hj
 | some l=>rw[e] at hj;cases hj;exact⟨j,l,rfl,e⟩
theorem ZbM:∀ {N:List (List Int)}{k:Nat}{f:List Int},f∈trip k N->∃ (r j:Nat) (z:Int) (xs:List Int),f=[z,((k+r:Nat):Int),(j:Int)]/\N[r]?=some xs/\xs[j]?=some z
 | [],_,_,h=>nomatch h
 | ys::N,k,f,h=>by
  rw[trip] at h;rcases Yam.mp h with h | h
  ·obtain⟨j,z,e,hz⟩:=Zh2 h;exact⟨0,j,z,ys,e,rfl,hz⟩
  ·obtain⟨r,j,z,xs,e,hx,hz⟩:=ZbM h;exact⟨r+1,j,z,xs,by rw[e,show k+1+r=k+(r+1) by omega],hx,hz⟩
theorem ZhE {ls:List Int}{lf:List (List Int)} (h:lf.Perm (prL ls)):(lf.map fun f=>f.getD 1 0).Nodup:=by
 refine ((h.map _).nodup_iff).mpr ?_;have e:(prL ls).map (fun f=>f.getD 1 0)=(YaG ls.length).map fun (j:Nat)=>(j:Int):=by
  unfold prL;exact YbS (by simp) fun i h1 h2=>by simp
 rw[e];refine Ybf.mpr (Yd6.imp fun {a b} hab=>?_);omega
theorem ZjK {H:Hp}{N:List (List Int)}:∀ {vs:List V},(∀ (j:Nat),j<vs.length->∃ (q:Addr) (k:List Int),vs[j]?=some (.ref q)/\H q=some (.tup (k.map V.int))/\InN N k)->∃ (qs:List Addr) (ks:List (List Int)),vs=qs.map V.ref/\TuM H qs ks/\∀ k∈ks,InN N k
 | [],_=>⟨[],[],rfl,TuM.nil,fun k hk=>nomatch hk⟩
 | v::vs,h=>by
  obtain⟨qs,ks,e1,e2,e3⟩:=ZjK (vs:=vs) fun j hj=>h (j+1) (by simpa using hj);obtain⟨q,k,a1,a2,a3⟩:=h 0 (by simp);have a1:v=.ref q:=by simpa using a1
  have hk:k≠[]:=by obtain⟨r,p,xs,e,_⟩:=a3;rw[e];simp
  refine⟨q::qs,k::ks,by rw[a1,e1];rfl,⟨fun p hp=>?_,by rw[YaM,e2.2,Zfr a2]⟩,fun k' hk'=>?_⟩
  ·rcases YaC.mp hp with rfl | hp
   ·exact⟨k,hk,a2⟩
   ·exact e2.1 p hp
  ·rcases YaC.mp hk' with rfl | hk'
   ·exact a3
   ·exact e3 k' hk'
def ZfL (ls:List Int) (N:List (List Int)) (ks lf lp:List (List Int)):Prop:=ks.length=ls.length/\lf.Perm (prL ls)/\lf.Pairwise (fun p q=>lxB q p=false)/\lp.Perm (trip 0 N)/\lp.Pairwise (fun p q=>lxB q p=false) /\
 ∀ (t:Nat) f p,lf[t]?=some f->lp[t]?=some p->ks[(f.getD 1 0).toNat]?=some [p.getD 1 0,p.getD 2 0]
def Zdm (K:Yac):Sp:=fun vs H Q _=>∃ (a ll:Addr) (b:Bool) (rs:List Addr) (N:List (List Int)) (ls:List Int),vs=[.ref a,.ref ll]/\H a=some (.tup (rs.map V.ref))/\TTs H rs N/\N.length<=7/\N.flatten.length<=100000/\SqB b K H ll (ls.map V.int)/\ls.length<=N.flatten.length /\
 (∀ l∈ls,YaT l<=8000)/\(∀ xs∈N,∀ z∈xs,YaT z<=8000) /\
 ∀ (t pl:Addr) (qs:List Addr) (ks lf lp:List (List Int)) H',H t=none->H' t=some (.tup [.int (Za6 N ls ks).sum,.ref pl])->H pl=none->H' pl=some (.lst (qs.map V.ref))->TuM H' qs ks->(∀ k∈ks,InN N k)->ZfL ls N ks lf lp->Same H H'->Q (.ref t) H'
end Lv
namespace Lv
open PySem L2
def LvsT (H:Hp) (as:List Addr) (L:List (List (List Int))):Prop:=as.length=L.length/\∀ (j:Nat) q N,as[j]?=some q->L[j]?=some N->∃ rs:List Addr,H q=some (.tup (rs.map V.ref))/\TTs H rs N
theorem LvsT.same {H H':Hp}{as:List Addr}{L:List (List (List Int))} (h:LvsT H as L) (s:Same H H'):LvsT H' as L:=⟨h.1,fun j q N a b=>by obtain⟨rs,e1,e2⟩:=h.2 j q N a b;exact⟨rs,s _ _ e1,e2.same s⟩⟩
def ZdL (ls:List Int) (N:List (List Int)) (R:Int):Prop:=∃ ks lf lp:List (List Int),ZfL ls N ks lf lp/\(∀ k∈ks,InN N k)/\R=(Za6 N ls ks).sum
def Fit (ls:List Int) (N:List (List Int)):Prop:=ls.length<=N.flatten.length
def BestOf (ls:List Int) (L:List (List (List Int))) (m:Nat):Option (Int × Nat)->Prop
 | none=>∀ j N,j<m->L[j]?=some N->¬ Fit ls N
 | some (R,n)=>n<m/\(∃ N,L[n]?=some N/\Fit ls N/\ZdL ls N R)/\∀ j N,j<m->L[j]?=some N->Fit ls N->∃ R',ZdL ls N R'/\R<=R'/\(j<n->R<R')
theorem BestOf.skip {ls:List Int}{L:List (List (List Int))}{m:Nat}{N:List (List Int)}{o:Option (Int × Nat)} (h:BestOf ls L m o) (e:L[m]?=some N) (hn:¬ Fit ls N):BestOf ls L (m+1) o:=by
 match o,h with
 | none,h=>
  intro j N' hj e' hf;by_cases ej:j=m
  ·subst ej;rw[e] at e';cases e';exact hn hf
  ·exact h j N' (by (clear hn;omega)) e' hf
 | some (R,n),⟨h1,h2,h3⟩=>
  refine⟨by (clear hn;omega),h2,fun j N' hj e' hf=>?_⟩;by_cases ej:j=m
  ·subst ej;rw[e] at e';cases e';exact absurd hf hn
  ·exact h3 j N' (by (clear h1 hn;omega)) e' hf
theorem BestOf.first {ls:List Int}{L:List (List (List Int))}{m:Nat}{N:List (List Int)}{R:Int} (h:BestOf ls L m none) (e:L[m]?=some N) (hf:Fit ls N) (hr:ZdL ls N R):BestOf ls L (m+1) (some (R,m)):=by
 refine⟨by omega,⟨N,e,hf,hr⟩,fun j N' hj e' hf'=>?_⟩;by_cases ej:j=m
 ·subst ej;rw[e] at e';cases e';exact⟨R,hr,Ybd _,fun z=>absurd z (Ybo _)⟩
 ·exact absurd hf' (h j N' (by omega) e')
theorem BestOf.better {ls:List Int}{L:List (List (List Int))}{m n:Nat}{N:List (List Int)}{R R':Int} (h:BestOf ls L m (some (R',n))) (e:L[m]?=some N) (hf:Fit ls N) (hr:ZdL ls N R) (hlt:R<R'):BestOf ls L (m+1) (some (R,m)):=by
 obtain⟨h1,h2,h3⟩:=h;refine⟨by (clear h1 hlt;omega),⟨N,e,hf,hr⟩,fun j N' hj e' hf'=>?_⟩;by_cases ej:j=m
 ·subst ej;rw[e] at e';cases e';exact⟨R,hr,Ybd _,fun z=>absurd z (Ybo _)⟩
 ·obtain⟨R2,a,b,_⟩:=h3 j N' (by (clear h1 hlt;omega)) e' hf';exact⟨R2,a,by (clear ej hj h1;omega),fun _=>by (clear ej hj h1;omega)⟩
theorem BestOf.worse {ls:List Int}{L:List (List (List Int))}{m n:Nat}{N:List (List Int)}{R R':Int} (h:BestOf ls L m (some (R',n))) (e:L[m]?=some N) (hf:Fit ls N) (hr:ZdL ls N R) (hge:¬ R<R'):BestOf ls L (m+1) (some (R',n)):=by
 obtain⟨h1,h2,h3⟩:=h;refine⟨by (clear hge;omega),h2,fun j N' hj e' hf'=>?_⟩;by_cases ej:j=m
 ·subst ej;rw[e] at e';cases e';exact⟨R,hr,by (clear hj h1;omega),fun z=>absurd z (by (clear z hj hge;omega))⟩
 ·exact h3 j N' (by (clear h1 hge;omega)) e' hf'
def ZnE (H:Hp):Option (Int × Nat)->V->Prop
 | none,v=>v=.non
 | some (R,n),v=>∃ t pl:Addr,v=.ref t/\H t=some (.tup [.int R,.int (n:Int),.ref pl])
def ZeA (K:Yac):Sp:=fun vs H Q _=>∃ (lv ll:Addr) (b:Bool) (as:List Addr) (L:List (List (List Int))) (ls:List Int),vs=[.ref lv,.ref ll]/\H lv=some (.lst (as.map V.ref))/\LvsT H as L/\SqB b K H ll (ls.map V.int) /\
 (∀ N∈L,N.length<=7/\N.flatten.length<=100000/\∀ xs∈N,∀ z∈xs,YaT z<=8000)/\(∀ l∈ls,YaT l<=8000)/\∀ (o:Option (Int × Nat)) (v:V) H',BestOf ls L L.length o->ZnE H' o v->Same H H'->Q v H'
end Lv
namespace Lv
open PySem L2
theorem Zcv (N:List (List Int)):(N.flatten.length:Int)=(Za1 N).sum:=by
 unfold Za1
 induction N with
 | nil=>rfl
 | cons xs N ih=>rw[YaR,Yaf,YaM,Yas,<- ih];(clear ih;omega)
theorem Zf8:∀ {c:List Int},2<=c.length->(∀ x∈c,0<=x)->1<=c.headD 0->c.sum+1<=(Za8 c).sum/\1<=(Za8 c).headD 0:=by
 intro c h2 hn h1
 match c,h2,hn,h1 with
 | x::y::r,h2,hn,h1=>
  have h1:1<=x:=h1;have hy:=Zcp (y::r) fun z hz=>hn z (Yag _ hz);have hlen:(Za8 (y::r)).length=(y::r).length:=by
   unfold Za8;rw[YbM];have:∀ (s:Int) (c:List Int),(pre s c).length=c.length:=by
    intro s c
    induction c generalizing s with
    | nil=>rfl
    | cons a b ih=>simp[pre,ih]
   exact this 0 _
  rw[ZbS];refine⟨?_,?_⟩
  ·rw[Ybu,Zcd,hlen,Yas];have:(1:Int)*x<=((y::r).length:Int)*x:=YaE (by simp;(clear hlen hy h1 h2;omega)) (by (clear hlen hy h2;omega));simp only[Yas,Yd1] at *
   (clear hlen h2;omega)
  ·cases e:Za8 (y::r) with
   | nil=>rw[e] at hlen;simp at hlen
   | cons z zs=>
    have hz:=hy.2 z (by rw[e];exact Yal);show 1<=x+z
    (clear hlen hy h2;omega)
theorem ZbW {p:Nat} (hp:2<=p):∀ n,1<=(casc p n).headD 0/\(n:Int)+1<=(casc p n).sum:=by
 have hl:∀ n,(casc p n).length=p:=fun n=>by
  rw[<- Za9 (by omega)];unfold Za1;rw[Yaa,Zbw (by omega)]
 intro n
 induction n with
 | zero=>
  have h0:casc p 0=1::Yaj (p - 1) 0:=by
   obtain⟨m,rfl⟩:∃ m,p=m+1:=⟨p - 1,by omega⟩
   rfl
  rw[h0];exact⟨Ybd _,by simp⟩
 | succ n ih=>
  have:=Zf8 (c:=casc p n) (by rw[hl];exact hp) (ZdG p n) ih.1;have e:casc p (n+1)=Za8 (casc p n):=rfl;rw[e];exact⟨this.2,by (clear hp;omega)⟩
def Zb2 (p m:Nat):List (List (List Int)):=(YaG m).map (casN p)
def ZfU (fn:Addr):Sp:=fun vs H Q _=>∃ p:Nat,vs=[.int p,.ref fn]/\2<=p/\p<=7/\∀ (l:Addr) (as:List Addr) (m:Nat) H',H l=none->H' l=some (.lst (as.map V.ref))->LvsT H' as (Zb2 p m)->(∀ i,i<m->(casN p i).flatten.length<=4000)->4000<(casN p m).flatten.length->Same H H'->Q (.ref l) H'
end Lv
namespace Lv
open PySem L2
theorem LvsT.lst {H:Hp}{as:List Addr}{L:List (List (List Int))}{l:Addr}{ys zs:List V} (h:LvsT H as L) (e:H l=some (.lst zs)):LvsT (upd H l (.lst ys)) as L:=⟨h.1,fun j q N a b=>by
 obtain⟨rs,e1,e2⟩:=h.2 j q N a b;refine⟨rs,?_,TTs.lst e2 e⟩;rw[Zag fun z=>by rw[z,e] at e1;cases e1];exact e1⟩
theorem LvsT.snoc {H:Hp}{as rs:List Addr}{L:List (List (List Int))}{q:Addr}{N:List (List Int)} (h:LvsT H as L) (e:H q=some (.tup (rs.map V.ref))) (t:TTs H rs N):LvsT H (as++[q]) (L++[N]):=⟨by rw[Yaf,Yaf,h.1];rfl,fun j x M a b=>by
 rcases YbI j as.length with hj | hj
 ·rw[Ybe hj] at a;rw[Ybe (by rw[<- h.1];exact hj)] at b;exact h.2 j x M a b
 ·rw[YaV hj] at a;rw[YaV (by rw[<- h.1];exact hj),<- h.1] at b
  cases e3:j - as.length with
  | zero=>rw[e3] at a b;cases a;cases b;exact⟨rs,e,t⟩
  | succ n=>rw[e3] at a;cases a⟩
theorem Zhq (p m:Nat):Zb2 p (m+1)=Zb2 p m++[casN p m]:=by unfold Zb2;rw[Ydw,Yau];rfl
theorem Ze8 (p m:Nat):(Zb2 p m).length=m:=by unfold Zb2;rw[Yaa,YbX]
end Lv
namespace Lv
open PySem L2
theorem Zee:∀ {N:List (List Int)}{xs:List Int}{z:Int},xs∈ZaS N->z∈xs->∃ ys∈N,z∈ys∨z - 1∈ys
 | [Z],xs,z,h,hz=>by
  have:xs=Z:=by simpa[ZaS] using h
  subst this;exact⟨xs,Yal,.inl hz⟩
 | A::B::r,xs,z,h,hz=>by
  have up:∀ {w:Int},w∈up1 A->w - 1∈A:=fun {w} hw=>by
   unfold up1 at hw;obtain⟨v,hv,rfl⟩:=YaK.mp hw;rw[show v+1 - 1=v by omega];exact hv
  rw[ZaS] at h;rcases Yam.mp h with h | h
  ·obtain⟨ys,hy,rfl⟩:=YaK.mp h;rcases Yam.mp hz with hz | hz
   ·exact⟨A,Yal,.inr (up hz)⟩
   ·obtain⟨ws,hw,hd⟩:=Zee hy hz;exact⟨ws,Yag _ hw,hd⟩
  ·rw[YaD.mp h] at hz;exact⟨A,Yal,.inr (up hz)⟩
theorem Zba {p:Nat}:∀ (i:Nat) (xs:List Int) (z:Int),xs∈casN p i->z∈xs->0<=z/\z<=i
 | 0,xs,z,h,hz=>by
  have h:xs∈([0]::Yaj (p - 1) []:List (List Int)):=h;rcases YaC.mp h with rfl | h
  ·rw[YaD.mp hz];exact⟨Ybd _,Ybd _⟩
  ·rw[Ydh h] at hz;cases hz
 | i+1,xs,z,h,hz=>by
  obtain⟨ys,hy,hd⟩:=Zee (N:=casN p i) h hz;rcases hd with hd | hd
  ·have:=Zba i ys z hy hd;omega
  ·have:=Zba i ys (z - 1) hy hd;omega
theorem ZgZ:∀ (c:List Int),(∀ x∈c,0<=x)->(Za8 c).sum<=(c.length:Int)*c.sum
 | [],_=>by simp[Za8,pre]
 | x::r,h=>by
  have hx:=h x Yal;have ih:=ZgZ r fun z hz=>h z (Yag _ hz);have hr:0<=r.sum:=by
   clear ih
   induction r with
   | nil=>exact Ybd _
   | cons y r ih2=>
    rw[Yas];have:=h y (by simp);have:=ih2 fun z hz=>h z (by rcases YaC.mp hz with rfl | hz;exact Yal;exact Yag _ (Yag _ hz))
    (clear ih2 hx;omega)
  rw[ZbS,Ybu,Zcd,Zfn,Yaz,Yas,Yas,Yd1];have e:((r.length+1:Nat):Int)*(x+r.sum)=(r.length:Int)*x+x+(r.length:Int)*r.sum+r.sum:=by
   rw[YcH,YbC,YcN];simp
   (clear hr ih hx;omega)
  rw[e]
  (clear e hx;omega)
theorem Zh5 {p m:Nat} (h2:2<=p) (h7:p<=7) (h:4000<(casN p m).flatten.length):1<=m/\500<=(casN p (m - 1)).flatten.length:=by
 have hf:∀ i,((casN p i).flatten.length:Int)=(casc p i).sum:=fun i=>by rw[Zcv,Za9 (by (clear h h7;omega))]
 cases m with
 | zero=>
  exfalso;have:(casN p 0).flatten.length=1:=by
   show ([0]::Yaj (p - 1) []:List (List Int)).flatten.length=1;simp
  (clear h7 h2;omega)
 | succ m=>
  refine⟨by (clear h h7 h2;omega),?_⟩;have a:=hf (m+1);have b:=hf m;have c:=ZgZ (casc p m) (ZdG p m);have d:(casc p m).length=p:=Zdf (by (clear c b a h h7;omega)) m;have e:casc p (m+1)=Za8 (casc p m):=rfl;rw[d] at c;rw[e] at a;show 500<=(casN p m).flatten.length;have g:(p:Int)*(casc p m).sum<=7*(casc p m).sum:=YaE (by (clear d c b a h h2;omega)) (by rw[<- b];(clear d c b a h h7 h2;omega))
  (clear d h7 h2;omega)
end Lv
namespace Lv
open PySem L2
def ZfX (K:Yac):Sp:=fun vs H Q _=>∃ (p:Nat) (ll:Addr) (b:Bool) (ls:List Int),vs=[.int p,.ref ll]/\2<=p/\p<=7/\SqB b K H ll (ls.map V.int)/\ls.length<=500/\(∀ l∈ls,YaT l<=8000) /\
 ∀ (t:Addr) (R:Int) (n m:Nat) H',H t=none->H' t=some (.tup [.int R,.int (n:Int)])->BestOf ls (Zb2 p m) m (some (R,n))->(∀ i,i<m->(casN p i).flatten.length<=4000)->4000<(casN p m).flatten.length->Same H H'->Q (.ref t) H'
end Lv
namespace Lv
open PySem L2
theorem Ziw {a b:List Int} (h:a.Perm b):a.sum=b.sum:=by
 induction h with
 | nil=>rfl
 | cons x _ ih=>rw[Yas,Yas,ih]
 | swap x y l=>rw[Yas,Yas,Yas,Yas];omega
 | trans _ _ h1 h2=>exact h1.trans h2
theorem Zhv {ls:List Int}{N ks lf lp:List (List Int)} (h:ZfL ls N ks lf lp) (hle:ls.length<=N.flatten.length):(Za6 N ls ks).sum=(Yb2 (fun f p=>-(f.getD 0 0)*p.getD 0 0) lf lp).sum:=by
 obtain⟨h1,h2,_,h4,_,h6⟩:=h;have e1:Za6 N ls ks=(prL ls).map fun f=>-(f.getD 0 0)*numV N (ks.getD (f.getD 1 0).toNat []):=by
  refine YbS (by unfold Za6 prL;simp;(clear hle;omega)) fun i a b=>?_;have hi:i<ls.length:=by rw[Yaa,ZcK] at b;exact b
  have hk:i<ks.length:=by (clear b a hle;omega)
  have hp:(prL ls)[i]?=some [-ls[i],(i:Int)]:=Zlh (Yad hi);have hp2:(prL ls)[i]'(by rw[ZcK];exact hi)=[-ls[i],(i:Int)]:=(Yab.mp hp).2
  rw[Yd7,hp2];have hz:(Za6 N ls ks)[i]?=some (ls[i]*numV N ks[i]):=by
   unfold Za6;rw[YdA,Yad hi,Yad hk]
  rw[(Yab.mp hz).2];show ls[i]*numV N ks[i] = -(-ls[i])*numV N (ks.getD ((i:Int)).toNat []);rw[Int.neg_neg,YaS,Yai,Yad hk];rfl
 have e2:Yb2 (fun f p=>-(f.getD 0 0)*p.getD 0 0) lf lp=lf.map fun f=>-(f.getD 0 0)*numV N (ks.getD (f.getD 1 0).toNat []):=by
  have l1:lf.length=ls.length:=by rw[h2.length_eq,ZcK]
  have l2:lp.length=N.flatten.length:=by rw[h4.length_eq,Zcc]
  refine YbS (by simp;(clear h1;omega)) fun i a b=>?_;have hi:i<lf.length:=by rw[Yaa] at b;exact b
  have hj:i<lp.length:=by (clear b a h1;omega)
  have g:=h6 i lf[i] lp[i] (Yad hi) (Yad hj);obtain⟨r,jj,z,xs,ep,hr,hz⟩:=ZbM (h4.mem_iff.mp (Ybq hj));rw[List.getElem_zipWith,Yd7,Yai (l:=ks),g,Yfk,ep];congr 1;show z=numV N [((0+r:Nat):Int),(jj:Int)];unfold numV;simp[Yai,hr,hz]
 rw[e1,e2];exact Ziw (h2.symm.map _)
end Lv
namespace Lv
open PySem L2
def isrt (l:List Int):List Int:=l.mergeSort (fun a b=>decide (a<=b))
def Zcu (l:List Int):List Int:=l.mergeSort (fun a b=>decide (b<=a))
theorem Zje {l m:List Int} (h:m.Perm l) (hs:m.Pairwise (·<=·)):m=isrt l:=by
 refine Yc5 (le:=(·<=·)) (fun a b _ _ h1 h2=>YeD h1 h2) hs ?_ (h.trans (Ybv l _).symm);refine (YbG (fun a b c h1 h2=>?_) (fun a b=>?_) l).imp fun h=>of_decide_eq_true h
 ·have:=of_decide_eq_true h1;have:=of_decide_eq_true h2;exact decide_eq_true (by omega)
 ·by_cases h:a<=b
  ·simp[h]
  ·simp;(clear h;omega)
theorem ZkP {l m:List Int} (h:m.Perm l) (hs:m.Pairwise (· ≥ ·)):m=Zcu l:=by
 refine Yc5 (le:=(· ≥ ·)) (fun a b _ _ h1 h2=>YeD h2 h1) hs ?_ (h.trans (Ybv l _).symm);refine (YbG (fun a b c h1 h2=>?_) (fun a b=>?_) l).imp fun h=>of_decide_eq_true h
 ·have:=of_decide_eq_true h1;have:=of_decide_eq_true h2;exact decide_eq_true (by omega)
 ·by_cases h:b<=a
  ·simp[h]
  ·simp;(clear h;omega)
def rdF (ls:List Int) (N:List (List Int)):Int:=(Yb2 (·*·) (isrt N.flatten) (Zcu ls)).sum
theorem ZiY {x y:Int}{a b:List Int} (h:lxB (y::b) (x::a)=false):x<=y:=by
 rw[lxB] at h;by_cases e:y=x
 ·omega
 ·rw[if_neg e] at h;have:=of_decide_eq_false h
  (clear e;omega)
theorem ZgF {ls:List Int}{N:List (List Int)}{R:Int} (h:ZdL ls N R) (hf:Fit ls N):R=rdF ls N:=by
 obtain⟨ks,lf,lp,hs,_,rfl⟩:=h;rw[Zhv hs hf];obtain⟨_,h2,h3,h4,h5,_⟩:=hs;have e1:lp.map (fun t=>t.getD 0 0)=isrt N.flatten:=by
  refine Zje ?_ ?_
  ·rw[<- Zgx N 0];exact h4.map _
  ·refine Ybf.mpr (YcY (fun {p q} hp hq h=>?_) h5);obtain⟨_,_,_,_,rfl,_⟩:=ZbM (h4.mem_iff.mp hp);obtain⟨_,_,_,_,rfl,_⟩:=ZbM (h4.mem_iff.mp hq);exact ZiY h
 have e2:lf.map (fun f=>-(f.getD 0 0))=Zcu ls:=by
  refine ZkP ?_ ?_
  ·have:(prL ls).map (fun f=>-(f.getD 0 0))=ls:=by
    refine YbS (by simp[prL]) fun i h1 h2=>?_;simp[prL]
   exact (h2.map _).trans (by rw[this])
  ·refine Ybf.mpr (YcY (fun {p q} hp hq h=>?_) h3);obtain⟨_,_,rfl,_⟩:=ZeH (h2.mem_iff.mp hp);obtain⟨_,_,rfl,_⟩:=ZeH (h2.mem_iff.mp hq);have:=ZiY h;show (-(-_:Int)) ≥ -(-_);omega
 unfold rdF;rw[<- e1,<- e2,List.zipWith_map];congr 1;rw[List.zipWith_comm];congr 1
 funext p f
 exact Ycb _ _
def BestG (f:Nat->Option Int) (m:Nat):Option (Int × Nat)->Prop
 | none=>∀ j,j<m->f j=none
 | some (R,n)=>n<m/\f n=some R/\∀ j R',j<m->f j=some R'->R<=R'/\(j<n->R<R')
theorem BestG.one {f:Nat->Option Int}{m:Nat}{R R':Int}{n n':Nat} (h:BestG f m (some (R,n))) (h':BestG f m (some (R',n'))):R=R'/\n=n':=by
 obtain⟨a1,a2,a3⟩:=h;obtain⟨b1,b2,b3⟩:=h';have x:=a3 n' R' b1 b2;have y:=b3 n R a1 a2;refine⟨by (clear b1 a1;omega),?_⟩;rcases YfB n n' with z | z | z
 ·have:=y.2 z;(clear this z b1 a1;omega)
 ·exact z
 ·have:=x.2 z;(clear this z b1 a1;omega)
def fitF (ls:List Int) (L:Nat->List (List Int)) (j:Nat):Option Int:=if ls.length<=(L j).flatten.length then some (rdF ls (L j)) else none
theorem BestG.of {ls:List Int}{L:Nat->List (List Int)}{m n:Nat}{R:Int} (h:BestOf ls ((YaG m).map L) m (some (R,n))):BestG (fitF ls L) m (some (R,n)):=by
 obtain⟨h1,⟨N,hN,hf,hr⟩,h3⟩:=h;have at_:∀ j,j<m->((YaG m).map L)[j]?=some (L j):=fun j hj=>by rw[Yat,Yc3 hj];rfl
 rw[at_ n h1] at hN;cases hN;refine⟨h1,?_,fun j R' hj e=>?_⟩
 ·unfold fitF;unfold Fit at hf;rw[if_pos hf,<- ZgF hr hf]
 ·unfold fitF at e;by_cases hj2:ls.length<=(L j).flatten.length
  ·rw[if_pos hj2] at e;obtain⟨R2,r2,a,b⟩:=h3 j _ hj (at_ j hj) hj2;have:=ZgF r2 hj2;cases e;rw[<- this];exact⟨a,b⟩
  ·rw[if_neg hj2] at e;cases e
end Lv
namespace Lv
open PySem L2
end Lv
namespace Lv
open PySem L2
end Lv
namespace L2
open PySem PySem.Spec PyProof.Rows PySem.SeqAt
section
variable {X:Cx}
end
end L2
namespace Lv
open PySem L2
def Fr (S:List Addr) (H H':Hp):Prop:=∀ b o,H b=some o->b ∉ S->H' b=some o
abbrev Rows:=List (Option (List Int))
def datO:Option (List Int)->PyData
 | none=>.none
 | some xs=>.list (xs.map PyData.int)
def ZnS (ds:Rows):PyData:=.list (ds.map datO)
def shp (D:List Rows):List (List Bool):=D.map fun ds=>ds.map Option.isSome
abbrev Cell:=Option (Addr × List Int)
abbrev Reel:=Addr × List Cell
def cV:Cell->V
 | none=>.non
 | some (r,_)=>.ref r
def cA:Cell->List Addr
 | none=>[]
 | some (r,_)=>[r]
def cOk (H:Hp):Cell->Prop
 | none=>True
 | some (r,xs)=>H r=some (.lst (xs.map V.int))
def tA (t:Reel):List Addr:=t.1::t.2.flatMap cA
def adr (T:List Reel):List Addr:=T.flatMap tA
def tOk (H:Hp) (t:Reel):Prop:=H t.1=some (.lst (t.2.map cV))/\∀ c∈t.2,cOk H c
def NRL (H:Hp) (T:List Reel):Prop:=∀ t∈T,tOk H t
def TB (H:Hp) (tr:List Addr) (B:List (List Bool)):Prop:=tr.length=B.length/\∀ (j:Nat) r bs,tr[j]?=some r->B[j]?=some bs->H r=some (.tup (bs.map V.bl))
end Lv
namespace Lv
open PySem L2
def St (S:List Addr) (H:Hp) (Φ:Hp->Prop):Prop:=∀ H',Fr S H H'->Φ H'
structure Bld (S:List Addr) (H:Hp) (us:List V) (rs tr:List Addr) (D:List Rows) (R:List (List Int)):Prop where
 due:St S H fun H'=>RdL H' us (D.map ZnS)
 rows:St S H fun H'=>LLs H' rs R
 lay:St S H fun H'=>TB H' tr (shp D)
end Lv
namespace Lv
open PySem L2
end Lv
namespace Lv
open PySem L2
def les (m x:Int):Int:=if x - m > 0 then x - m else 0
def ZmB (c:List Int) (out:Nat) (m:Int):List Int:=(c.map (les m)).set out m
def Zof (a b:List Int):Prop:=a.length=b.length/\∀ j:Nat,a.getD j 0<=b.getD j 0
def Cov (c L:List Int):Prop:=∃ l:List Int,l.Perm (c)/\Zof l (L++[0])
end Lv
namespace L2
open PySem PySem.Spec PyProof.Rows PySem.SeqAt
section
variable {X:Cx}
end
end L2
namespace Lv
open PySem L2
def CovL (L r:List Int):Prop:=∀ j,j<L.length->r.getD j 0<=L.getD j 0
instance (L r:List Int):Decidable (CovL L r):=inferInstanceAs (Decidable (∀ j,j<L.length->r.getD j 0<=L.getD j 0))
def big:Int:=1000000000000000000000000000000000000000000000000000000000000
structure Stand (p:Nat) (st:List Int):Prop where
 p2:2<=p
 p7:p<=7
 len:st.length=p+1
 nn:∀ x∈st,0<=x
 le:∀ x∈st,x<=big
 zero:(0:Int)∈st
 pos:∃ x∈st,1<=x
def mxl:List Int->Int
 | []=>0
 | x::r=>if mxl r > x then mxl r else x
structure On (p:Nat) (c:List Int) (n:Nat):Prop where
 len:c.length=p+1
 cov:Cov c (cnt p n)
 nn:∀ x∈c,0<=x
 pos:∃ x∈c,1<=x
end Lv
namespace Lv
open PySem L2
end Lv
namespace Lv
open PySem L2
end Lv
namespace L2
open PySem PySem.Spec PyProof.Rows
section
variable {X:Cx}
end
end L2
namespace Lv
open PySem L2
theorem Sm.putP {p q:Addr}{H H2:Hp}{o:HO} (s:Sm p H H2) (h:H q=none):Sm p H (upd H2 q o):=fun b u e n=>by
 rw[Zag (Zaf e h)];exact s b u e n
theorem Zm4 (K:Yac) {X:Cx}{o e:Expr}{es:List Expr}{to:TE}{t:TA}{name:Str}{apos cpos:Pos}{T id:String}{r:V->List V->Hp->VK->Prop} (pa:PlainAttrs T) (slot:Slot T name id) (hty:typeOf (.builtin id)=pure (.type "method_descriptor")) (hm:MtR X id r) (ho:PE X o to) (ha:PA X (e::es) t) (hK:X.K=K:=by rfl)
  (hbase:attributeBase o name X.env (eval o X.env)=eval o X.env:=by rfl)
  (hfew:((backTo cpos (starEach (e::es) X.env)).all (fun x=>!x.1) && (backToKw cpos (keywordEach [] X.env)).all (fun x=>x.1.isSome)
   && decide ((e::es).length+([]:List Keyword).length+(if ([]:List Keyword).isEmpty then 0 else 1)<30))=true:=by rfl)
  (hline:(apos.endLine == cpos.line)=true:=by rfl) (hs:starEach (e::es) X.env=(false,eval e X.env)::starEach es X.env:=by rfl) (hplain:(backTo cpos (starEach es X.env)).any (·.1)=false:=by rfl) :
  PE X (.Call (.Attribute o name apos) (e::es) [] cpos) (tBM K T r to t):=by
 subst hK;exact ZeM pa slot hty hm ho ha hbase hfew hline hs hplain
theorem Zix {res ls C:List Int}{d:Nat} (h:d<ls.length) (hp:(res++ls).Perm C):((res++[ls.getD d 0])++ls.eraseIdx d).Perm C:=by
 refine Ydj ?_ hp;rw[Yav];refine YbK res ?_;have e:ls=ls.take d++ls.getD d 0::ls.drop (d+1):=by
  rw[Yai,Yad h];show ls=ls.take d++ls[d]::ls.drop (d+1);rw[<- Ycs h,YaH]
 have e2:ls.eraseIdx d=ls.take d++ls.drop (d+1):=List.eraseIdx_eq_take_drop_succ ..;rw[e2];have pm:(ls.take d++ls.getD d 0::ls.drop (d+1)).Perm (ls.getD d 0::(ls.take d++ls.drop (d+1))):=Ydp;exact (pm.symm.trans (Yfa e.symm))
theorem ZiX (l:List Int) (d:Nat):(l.map V.int).eraseIdx d=(l.eraseIdx d).map V.int:=(Zcr V.int l d).symm
end Lv
namespace L2
open PySem PySem.Spec PyProof.Rows PySem.W
abbrev VB:List Value:=[.type "ValueError",.type "Exception",.type "BaseException",.type "object"]
def Znp (K:Frag) (C:Addr):Bool:=match K.lookup C with
 | some ⟨.type "type",_,.cls cd,sl⟩=>(match cd.mro,sl.toList with
  | .ref D::bm,[_,_,_,_,some (.builtin n),_]=>D == C && (n == "ValueError.__new__" && (!cd.hasDel && (tailIn K VB bm && (nsOkIn K cd.ns && cd.hasDict))))
  | _,_=>false)
 | _=>false
def Zmu (K:Frag) (C fI:Addr):Bool:=Znp K C && (Zjr K C && (findIn K (.ref C) "__setattr__" == some (some (.builtin "object.__setattr__")) && (findIn K (.ref C) "at" == some none && (isFn K (.ref fI) && (keepIn K (.ref C) && findIn K (.ref C) "__init__" == some (some (.ref fI)))))))
section
variable {prog:Program}{w:World}{A:Around}{E:Value->Shared->Prop}{s:Shared}{K:Frag}{x C fI:Addr}{v:Value}
abbrev newExc (C t:Addr):Obj:={ cls:=.ref C,data:=.fields #[.ref t,.none,.none,.none,.bool false,.none] }
end
end L2
namespace L2
open PySem PySem.Spec PyProof.Rows PySem.W
section
variable {X:Cx}{o value:Expr}{pos pos':Pos}{ta tv:TE}{C fI:Addr}
end
end L2
namespace Lv
open PySem L2 PySem.W
structure ExcTabI (K:Frag) (reel C fI:Addr) (all:List Addr):Prop where
 ok:Zmu K C fI=true
 exm:exmOne K (.ref C) (.ref reel)=some true
 exmS:exmOne K (.ref C) (.ref C)=some true
 isR:kitOne K (.ref C) (.ref reel)=some true
 isV:kitOne K (.ref C) (.type "ValueError")=some true
 one:∀ D∈all,kitOne K (.ref C) (.ref D)=some (D == C)
end Lv
namespace Lv
open PySem L2
def PhOk (c:List Int) (out m:Int):Prop:=(0<=out/\out<(c.length:Int))/\(c.getD out.toNat 0<=0/\(1<=m/\m<=mxl c))
instance (c:List Int) (out m:Int):Decidable (PhOk c out m):=by unfold PhOk;infer_instance
end Lv
namespace Lv
open PySem L2
def wk:List Int->List (Int × Int)->Nat->Except Nat (List Int)
 | c,[],_=>.ok c
 | c,(o,m)::r,i=>if PhOk c o m then wk (ZmB c o.toNat m) r (i+1) else .error i
def fin (c:List Int) (ps:List (Int × Int)):Except Nat (List Int):=match wk c ps 0 with
 | .ok d=>if 1<d.sum then .error ps.length else .ok d
 | .error i=>.error i
structure Way (c0:List Int) (ps:List (Int × Int)) (i:Nat) (c:List Int):Prop where
 wk:wk c0 ps 0=wk c (ps.drop i) i
 len:c.length=c0.length
 nn:∀ x∈c,0<=x
structure Cts (p:Nat) (c:List Int):Prop where
 len:c.length=p+1
 nn:∀ x∈c,0<=x
 le:∀ x∈c,x<=big
 pos:∃ x∈c,1<=x
end Lv
namespace Lv
open PySem L2
end Lv
namespace Lv
open PySem L2
def srt (xs:List Int):List Int:=xs.mergeSort fun a b=>decide (a<=b)
theorem ZaT (xs:List Int):(srt xs).Perm xs:=Ybv _ _
theorem ZdX (xs:List Int):(srt xs).Pairwise (·<=·):=by
 have h:=YbG (le:=fun a b:Int=>decide (a<=b)) (fun a b c h1 h2=>by simp at *;omega) (fun a b=>by simp;omega) xs;exact h.imp fun h=>by simpa using h
theorem Zia {ms xs:List Int} (h:ms.Perm xs) (hs:ms.Pairwise (·<=·)):ms=srt xs:=ZmS (h.trans (ZaT xs).symm) hs (ZdX xs)
def rl90 (cs:Rows):List (List Int):=cs.filterMap id
def mrg (cs:Rows):Option (List Int):=if rl90 cs=[] then none else some (srt (rl90 cs).flatten)
def tkA (D:List Rows) (m i:Nat):Rows:=D.filterMap fun r=>(r.take m)[i]?
def phR (D:List Rows) (o m:Nat):List Rows:=(D.map (·.drop m)).set o ((YaG m).map fun i=>mrg (tkA D m i))
def thg (cs:Rows):Int:=((rl90 cs).map fun xs=>(xs.length:Int)).sum
def lns (D:List Rows):List Int:=D.map fun r=>(r.length:Int)
def allT (D:List Rows):List Int:=(rl90 D.flatten).flatten
abbrev refT (T:List Reel):List V:=T.map fun t=>V.ref t.1
def plR:List Rows->List (Int × Int)->List Rows
 | D,[]=>D
 | D,(o,m)::r=>plR (phR D o.toNat m.toNat) r
def rdR:List Rows->List (Int × Int)->List (List Int)
 | _,[]=>[]
 | D,(o,m)::r=>(D.map fun q=>thg (q.take m.toNat))::rdR (phR D o.toNat m.toNat) r
def Pls:List Rows->List (Int × Int)->Prop
 | _,[]=>True
 | D,(o,m)::r=>PhOk (lns D) o m/\Pls (phR D o.toNat m.toNat) r
end Lv
namespace Lv
open PySem L2
def dot:List Int->List Int->Int
 | w::ws,n::ns=>w*n+dot ws ns
 | _,_=>0
def fmJ (p:Int) (L:Nat):Nat:=(((L:Int) - 2) % (p - 1)+2).toNat
def hfF (p:Int):Nat->List Int->Int
 | 0,_=>0
 | k+1,ws=>if ws.length<=1 then 0 else (ws.take (fmJ p ws.length)).sum+hfF p k (srt ((ws.take (fmJ p ws.length)).sum::ws.drop (fmJ p ws.length)))
def hf (p:Int) (ws:List Int):Int:=hfF p ws.length (srt ws)
theorem ZcB (xs:List Int):(srt xs).length=xs.length:=(ZaT xs).length_eq
theorem Zbv {p:Int} (hp:2<=p) {L:Nat} (hL:2<=L):2<=fmJ p L/\fmJ p L<=L/\((fmJ p L:Nat):Int)<=p/\∃ q:Int,0<=q/\(L:Int)=fmJ p L+(p - 1)*q:=by
 have h1:=YcI ((L:Int) - 2) (show p - 1≠0 by (clear hL;omega));have h2:=YcJ ((L:Int) - 2) (show 0<p - 1 by (clear h1 hL;omega));have h3:=Int.mul_ediv_add_emod ((L:Int) - 2) (p - 1);have h4:0<=((L:Int) - 2) / (p - 1):=Int.ediv_nonneg (by (clear h3 h2 h1 hp;omega)) (by (clear h3 h2 h1 hL;omega));have h5:0<=(p - 1)*(((L:Int) - 2) / (p - 1)):=YbY (by (clear h4 h3 h2 h1 hL;omega)) h4;have e:((fmJ p L:Nat):Int)=((L:Int) - 2) % (p - 1)+2:=by unfold fmJ;(clear h5 h4 h3 h2 hL hp;omega)
 exact⟨by (clear h5 h4 h3 h2 hL hp;omega),by (clear h4 h2 h1 hL hp;omega),by (clear h5 h4 h3 h1 hL hp;omega),((L:Int) - 2) / (p - 1),h4,by (clear h5 h4 h2 h1 hL hp;omega)⟩
theorem Zgg {p:Int} (hp:2<=p) {L:Nat} (hL:2<=L) (h:2<=L - fmJ p L+1):((fmJ p (L - fmJ p L+1):Nat):Int)=p:=by
 obtain⟨h1,h2,h3,q,hq,e⟩:=Zbv hp hL;have e2:(((L - fmJ p L+1:Nat):Int) - 2)=(p - 2)+(p - 1)*(q - 1):=by
  have:(p - 1)*(q - 1)=(p - 1)*q - (p - 1):=by rw[YbT,Ycy]
  (clear hq h3 h2 h1 hL hp;omega)
 have e3:(((L - fmJ p L+1:Nat):Int) - 2) % (p - 1)=p - 2:=by
  rw[e2,Int.add_mul_emod_self_left];exact Int.emod_eq_of_lt (by (clear e2 e hq h3 h2 h1 h hL;omega)) (by (clear e2 e hq h3 h2 h1 h hL hp;omega))
 unfold fmJ at e3 ⊢
 (clear e2 e hq h3 h2 h1 h hL;omega)
theorem ZkT {p:Int} (hp:2<=p):∀ (k:Nat) (ws:List Int),ws.length<=k->hfF p k ws=hfF p ws.length ws:=by
 intro k
 induction k using Yez with
 | ind k ih=>
  intro ws h
  match k,ws,h with
  | 0,ws,h=>rw[YbH.mp (Nat.le_zero.mp h)];rfl
  | k+1,[],h=>simp[hfF]
  | k+1,w::ws,h=>
   rw[Yaz,hfF,hfF];by_cases z:(w::ws).length<=1
   ·rw[if_pos z,if_pos z]
   ·rw[if_neg z,if_neg z];obtain⟨h1,h2,_⟩:=Zbv hp (L:=(w::ws).length) (by (clear h hp;omega));have hl:(srt (((w::ws).take (fmJ p (w::ws).length)).sum::(w::ws).drop (fmJ p (w::ws).length))).length<=ws.length:=by
     rw[ZcB,Yaz,Ybg];rw[Yaz] at h1 h2 ⊢
     (clear z h hp;omega)
    have hk:ws.length<=k:=by rw[Yaz] at h;(clear hl h2 h1 z hp;omega)
    congr 1;rw[ih k (by (clear hk hl h2 h1 z h hp;omega)) _ (by (clear h2 h1 z h hp;omega))];by_cases z2:ws.length=k
    ·rw[z2,ih k (by (clear z2 hk hl h2 h1 z h hp;omega)) _ (by (clear z2 h2 h1 z h hp;omega))]
    ·rw[ih ws.length (by (clear z2 hl h2 h1 z h hp;omega)) _ hl]
theorem Zjk {p:Int} (hp:2<=p) {ws:List Int} (hs:ws.Pairwise (·<=·)) (h:2<=ws.length):hf p ws=(ws.take (fmJ p ws.length)).sum+hf p ((ws.take (fmJ p ws.length)).sum::ws.drop (fmJ p ws.length)):=by
 obtain⟨h1,h2,_⟩:=Zbv hp h;have e:srt ws=ws:=(Zia (Yb8 ws) hs).symm;unfold hf;rw[e];have hl:((ws.take (fmJ p ws.length)).sum::ws.drop (fmJ p ws.length)).length<=ws.length - 1:=by
  rw[Yaz,Ybg]
  (clear h2 hp;omega)
 obtain⟨k,hk⟩:∃ k,ws.length=k+1:=⟨ws.length - 1,by (clear hl h2 h1 hp;omega)⟩
 conv=>lhs;rw[hk,hfF,if_neg (by (clear hk hl h2 h1 hp;omega))]
 congr 1;rw[ZkT hp k _ (by rw[ZcB];(clear h2 h1 h hp;omega)),ZcB]
theorem Zg8 {p:Int}{ws:List Int} (h:ws.length<=1):hf p ws=0:=by
 unfold hf
 cases e:ws.length with
 | zero=>rfl
 | succ k=>rw[hfF,if_pos (by rw[ZcB];(clear e;omega))]
theorem ZeS {p:Int}{ws vs:List Int} (h:ws.Perm vs):hf p ws=hf p vs:=by
 unfold hf;rw[h.length_eq,Zia ((ZaT ws).trans h) (ZdX ws)]
theorem ZeJ {ws vs:List Int} (h:ws.Perm vs):∀ {ns:List Int},ns.length=ws.length->∃ ms,ms.Perm ns/\dot vs ms=dot ws ns:=by
 induction h with
 | nil=>intro ns h;exact⟨ns,Yb8 _,rfl⟩
 | cons w _ ih=>
  intro ns h
  cases ns with
  | nil=>simp at h
  | cons n ns=>
   obtain⟨ms,h1,h2⟩:=ih (ns:=ns) (by simpa using h);exact⟨n::ms,h1.cons n,by rw[dot,dot,h2]⟩
 | swap a b l=>
  intro ns h
  match ns,h with
  | n::m::ns,h=>exact⟨m::n::ns,YcZ _ _ _,by simp only[dot];(clear h;omega)⟩
  | [n],h=>simp at h
  | [],h=>simp at h
 | trans h1 _ ih1 ih2=>
  intro ns h;obtain⟨ms,a1,a2⟩:=ih1 h;obtain⟨ks,b1,b2⟩:=ih2 (ns:=ms) (by rw[a1.length_eq,h,h1.length_eq]);exact⟨ks,b1.trans a1,b2.trans a2⟩
theorem Znt:∀ {ws ns:List Int}{w0 n0 N:Int},ws.length=ns.length->(∀ w∈ws,w0<=w)->n0<=N->N∈ns->∃ ms,(N::ms).Perm (n0::ns)/\w0*N+dot ws ms<=w0*n0+dot ws ns
 | [],[],_,_,_,_,_,_,h=>by simp at h
 | [],_::_,_,_,_,h,_,_,_=>by simp at h
 | _::_,[],_,_,_,h,_,_,_=>by simp at h
 | w::ws,n::ns,w0,n0,N,hl,hw,hn,hm=>by
  rcases YaC.mp hm with rfl | hm
  ·refine⟨n0::ns,YcZ _ _ _,?_⟩;have h1:=hw w Yal;have h2:w0*(N - n0)<=w*(N - n0):=YaE h1 (by (clear h1 hl;omega));rw[YbT,YbT] at h2;simp only[dot]
   (clear h1 hl hn;omega)
  ·obtain⟨ms,h1,h2⟩:=Znt (ws:=ws) (ns:=ns) (w0:=w0) (n0:=n0) (by simpa using hl) (fun x hx=>hw x (Yag _ hx)) hn hm;refine⟨n::ms,((YcZ _ _ _).trans (h1.cons n)).trans (YcZ _ _ _),?_⟩;simp only[dot]
   (clear hn hl;omega)
theorem mxE:∀ (ns:List Int),ns≠[]->∃ N∈ns,∀ n∈ns,n<=N
 | [],h=>absurd rfl h
 | [n],_=>⟨n,Yal,fun x hx=>by rw[YaD.mp hx];exact Ybd _⟩
 | n::m::ns,_=>by
  obtain⟨N,h1,h2⟩:=mxE (m::ns) (by simp);by_cases z:n<=N
  ·exact⟨N,Yag _ h1,fun x hx=>by
    rcases YaC.mp hx with rfl | hx
    ·exact z
    ·exact h2 x hx⟩
  ·exact⟨n,Yal,fun x hx=>by
    rcases YaC.mp hx with rfl | hx
    ·exact Ybd _
    ·have:=h2 x hx;omega⟩
theorem Zj8:∀ (ws ns:List Int),ws.length=ns.length->ws.Pairwise (·<=·)->∃ ms,ms.Perm ns/\ms.Pairwise (fun a b=>b<=a)/\dot ws ms<=dot ws ns
 | [],[],_,_=>⟨[],Yb8 _,Ycd,Ybd _⟩
 | [],_::_,h,_=>by simp at h
 | _::_,[],h,_=>by simp at h
 | w::ws,n::ns,hl,hs=>by
  obtain⟨N,h1,h2⟩:=mxE (n::ns) (by simp);obtain⟨ks,k1,k2⟩:∃ ks,(N::ks).Perm (n::ns)/\w*N+dot ws ks<=w*n+dot ws ns:=by
   rcases YaC.mp h1 with rfl | h1
   ·exact⟨ns,Yb8 _,Ybd _⟩
   ·exact Znt (by simpa using hl) (fun x hx=>(Ya3.mp hs).1 x hx) (h2 n Yal) h1
  have hkl:ws.length=ks.length:=by have:=k1.length_eq;simp at this hl;(clear k2;omega)
  obtain⟨ms,m1,m2,m3⟩:=Zj8 ws ks hkl (Ya3.mp hs).2;refine⟨N::ms,(m1.cons N).trans k1,Ya3.mpr ⟨fun x hx=>h2 x (k1.subset (Yag _ (m1.subset hx))),m2⟩,?_⟩;simp only[dot]
  (clear hkl hl;omega)
theorem Zi7 {p:Int}{M:Nat}{a b:List Int} (h:a.Perm b):kr p M a=kr p M b:=by
 unfold kr;exact Zco (h.map _)
theorem ZeR {p:Int}{N M:Nat} (hNM:N<=M):∀ ys:List Int,(∀ y∈ys,0<=y/\y<=N)->kr p M ys=p ^ (M - N)*kr p N ys
 | [],_=>by simp[kr]
 | y::ys,h=>by
  have ih:=ZeR (p:=p) hNM ys fun z hz=>h z (Yag _ hz);obtain⟨y0,yN⟩:=h y Yal;unfold kr at ih ⊢;rw[YaM,Yas,YaM,Yas,ih,YcN,<- YeC,show M - N+(N - y.toNat)=M - y.toNat by (clear y0 ih;omega)]
def KrOk (p:Int) (ns:List Int):Prop:=∃ M:Nat,(∀ n∈ns,0<=n/\n<=M)/\kr p M ns<=p ^ M
theorem KrOk.at {p:Int} (hp:2<=p) {ns:List Int} (h:KrOk p ns) {N:Nat} (hN:∀ n∈ns,n<=N):kr p N ns<=p ^ N:=by
 obtain⟨M,h1,h2⟩:=h;have hb:∀ n∈ns,0<=n/\n<=N:=fun n hn=>⟨(h1 n hn).1,hN n hn⟩
 rcases Nat.le_total N M with z | z
 ·rw[ZeR z ns hb,show M=(M - N)+N by (clear h2 hp;omega),YeC,show (M - N)+N - N=M - N by (clear z h2 hp;omega)] at h2;exact Int.le_of_mul_le_mul_left h2 (by have:=Za2 (p:=p) (by (clear z h2;omega)) (M - N);(clear z h2 hp;omega))
 ·rw[ZeR z ns h1,show N=(N - M)+M by (clear h2 hp;omega),YeC,show (N - M)+M - M=N - M by (clear z h2 hp;omega)];exact YaX h2 (by have:=Za2 (p:=p) (by (clear z h2;omega)) (N - M);(clear z h2 hp;omega))
theorem Zdd {p:Int}:∀ n:Nat,∃ t:Int,p ^ n=1+(p - 1)*t
 | 0=>⟨0,by simp⟩
 | n+1=>by
  obtain⟨t,e⟩:=Zdd (p:=p) n;refine⟨p*t+1,?_⟩;rw[Ycl,e,YcN,YbC,Ycb p t,<- Int.mul_assoc]
  (clear e;omega)
theorem Zgc {p:Int}{M:Nat}:∀ ys:List Int,∃ t:Int,kr p M ys=ys.length+(p - 1)*t
 | []=>⟨0,by simp[kr]⟩
 | y::ys=>by
  obtain⟨t,e⟩:=Zgc (p:=p) (M:=M) ys;obtain⟨u,f⟩:=Zdd (p:=p) (M - y.toNat);refine⟨u+t,?_⟩;have:kr p M (y::ys)=p ^ (M - y.toNat)+kr p M ys:=rfl;rw[this,e,f,YcN,Yaz]
  (clear this f e;omega)
theorem Zgb {p:Int}{N:Nat}:∀ ys:List Int,(∀ y∈ys,0<=y/\y<=N)->∃ u:Int,kr p N ys=(ys.count (N:Int):Nat)+p*u
 | [],_=>⟨0,by simp[kr]⟩
 | y::ys,h=>by
  obtain⟨u,e⟩:=Zgb (p:=p) ys fun z hz=>h z (Yag _ hz);obtain⟨y0,yN⟩:=h y Yal;have e2:kr p N (y::ys)=p ^ (N - y.toNat)+kr p N ys:=rfl;by_cases z:y=(N:Int)
  ·refine⟨u,?_⟩;rw[e2,e,z,Ye9,YaS,YcT];simp
   (clear z e2 yN y0 e;omega)
  ·obtain⟨k,hk⟩:∃ k,N - y.toNat=k+1:=⟨N - y.toNat - 1,by (clear e2 e;omega)⟩
   refine⟨p ^ k+u,?_⟩;rw[e2,e,hk,YeW z,Ycl,YcN,Ycb (p ^ k) p]
   (clear hk z e2 yN y0 e;omega)
theorem Zgl:∀ {a b c d:List Int},a.length=c.length->dot (a++b) (c++d)=dot a c+dot b d
 | [],b,[],d,_=>by simp[dot]
 | [],_,_::_,_,h=>by simp at h
 | _::_,_,[],_,h=>by simp at h
 | x::a,b,y::c,d,h=>by
  have ih:=Zgl (a:=a) (b:=b) (c:=c) (d:=d) (by simpa using h);simp only[Ybx,dot,ih]
  (clear ih h;omega)
theorem Zju (N:Int):∀ (a:List Int),dot a (Yaj a.length N)=a.sum*N
 | []=>by simp[dot]
 | x::a=>by
  rw[Yaz,Ybn,dot,Zju N a,Yas,YbC]
theorem ZeX {N:Int}:∀ {ns:List Int}{m:Nat},ns.Pairwise (fun a b=>b<=a)->(∀ n∈ns,n<=N)->m<=ns.count N->ns.take m=Yaj m N
 | _,0,_,_,_=>by simp
 | [],m+1,_,_,h=>by simp at h
 | n::ns,m+1,hs,hb,h=>by
  have hn:n=N:=by
   refine Ybp fun z=>?_;have h1:=hb n Yal;rw[YeW z] at h;have hm:N∈ns:=YdO.mp (by (clear h1 z;omega));have:=(Ya3.mp hs).1 N hm
   (clear h;omega)
  subst hn;rw[Ye9] at h;rw[Yfe,Ybn,ZeX (Ya3.mp hs).2 (fun x hx=>hb x (Yag _ hx)) (by omega)]
theorem huff_least {p:Int} (hp:2<=p):∀ (L S:Nat) (ws ns:List Int),ws.length=L->ns.length=L->ns.sum<=S->(∀ w∈ws,0<=w)->KrOk p ns->hf p ws<=dot ws ns:=by
 intro L
 induction L using Yez with
 | ind L ihL=>
 intro S
 induction S with
 | zero=>exact fun ws ns a b c d e=>core hp ihL (S0:=-1) (fun ws ns _ _ h _ hk=>absurd (huff_least.sum_nn0 ns fun n hn=>by obtain⟨M,h,_⟩:=hk;exact (h n hn).1) (by omega)) 0 (by omega) ws ns a b c d e
 | succ S ihS=>exact fun ws ns a b c d e=>core hp ihL (S0:=S) (fun ws ns a b h d e=>ihS ws ns a b h d e) (S+1:Nat) (by omega) ws ns a b c d e
where
 core {p:Int} (hp:2<=p) {L:Nat} (ihL:∀ m,m<L->∀ (S:Nat) (ws ns:List Int),ws.length=m->ns.length=m->ns.sum<=S->(∀ w∈ws,0<=w)->KrOk p ns->hf p ws<=dot ws ns) {S0:Int} (ihS:∀ (ws ns:List Int),ws.length=L->ns.length=L->ns.sum<=S0->(∀ w∈ws,0<=w)->KrOk p ns->hf p ws<=dot ws ns) (S:Nat) (hS:(S:Int)<=S0+1) (ws ns:List Int) (h1:ws.length=L) (h2:ns.length=L) (h3:ns.sum<=S) (hw:∀ w∈ws,0<=w) (hk:KrOk p ns):hf p ws<=dot ws ns:=by
  have hn0:∀ n∈ns,0<=n:=by obtain⟨M,h,_⟩:=hk;exact fun n hn=>(h n hn).1
  by_cases hL:L<=1
  ·rw[Zg8 (by omega)];exact dot_nn ws ns hw hn0
  obtain⟨n1,p1,d1⟩:=ZeJ (ZaT ws).symm (ns:=ns) (by omega);have hl1:(srt ws).length=n1.length:=by rw[ZcB,p1.length_eq];omega
  obtain⟨ms,p2,hms,d2⟩:=Zj8 (srt ws) n1 hl1 (ZdX ws);have pm:=p2.trans p1;have hkm:KrOk p ms:=by
   obtain⟨M,a,b⟩:=hk;exact⟨M,fun n hn=>a n (pm.subset hn),by rw[Zi7 pm];exact b⟩
  rw[<- ZeS (ZaT ws)];refine Ycc ?_ (Ycc d2 (Yeb d1));have hvw:∀ w∈srt ws,0<=w:=fun w hx=>hw w ((ZaT ws).subset hx);have hvs:=ZdX ws;have hvl:(srt ws).length=L:=by rw[ZcB];exact h1
  have hml:ms.length=L:=by rw[pm.length_eq];exact h2
  have hsum:ms.sum<=S:=by rw[Zco pm];exact h3
  generalize srt ws=vs at hvw hvs hvl;obtain⟨N,hN,hNx⟩:=mxE ms (fun z=>by rw[z] at hml;simp at hml;omega);have hN0:0<=N:=hn0 N (pm.subset hN);obtain⟨N,rfl⟩:∃ n:Nat,N=n:=⟨N.toNat,by omega⟩
  have hbn:∀ n∈ms,0<=n/\n<=N:=fun n hn=>⟨hn0 n (pm.subset hn),hNx n hn⟩
  have hK:=hkm.at hp hNx;have hN1:1<=N:=by
   refine Ybp fun z=>?_;have z:N=0:=by omega
   subst z;have:kr p 0 ms=ms.length:=by
    have:∀ ys:List Int,kr p 0 ys=ys.length:=fun ys=>by
     induction ys with
     | nil=>rfl
     | cons y ys ih=>
      have e2:kr p 0 (y::ys)=p ^ (0 - y.toNat)+kr p 0 ys:=rfl;rw[e2,ih,Nat.zero_sub,Yaz];simp;omega
    exact this ms
   rw[this] at hK;simp at hK;omega
  obtain⟨f1,f2,f3,q,hq,f4⟩:=Zbv hp (L:=L) (by omega);obtain⟨t,ht⟩:=Zgc (p:=p) (M:=N) ms;obtain⟨t',ht'⟩:=Zdd (p:=p) N;obtain⟨u,hu⟩:=Zgb (p:=p) ms hbn;have hc1:1<=ms.count (N:Int):=YdO.mpr hN;obtain⟨k,hk1⟩:∃ k,N=k+1:=⟨N - 1,by omega⟩
  have hpN:p ^ N=p*p ^ k:=by rw[hk1,Ycl,Ycb]
  have hx:p ^ N - kr p N ms=(p - fmJ p L)+(p - 1)*(t' - t - q - 1):=by
   rw[ht,ht',hml,f4];have:(p - 1)*(t' - t - q - 1)=(p - 1)*t' - (p - 1)*t - (p - 1)*q - (p - 1):=by rw[YbT,YbT,YbT,Ycy]
   omega
  have hy:p ^ N - kr p N ms=p*(p ^ k - u) - (ms.count (N:Int):Nat):=by
   rw[hu,hpN,YbT];omega
  generalize t' - t - q - 1=x at hx;generalize p ^ k - u=y at hy;have hx0:0<=x:=by
   refine Ybp fun z=>?_;have:(p - 1)*x<=(p - 1)*(-1):=YaX (by omega) (by omega);omega
  have hxp:0<=(p - 1)*x:=YbY (by omega) hx0;by_cases hc:fmJ p L<=ms.count (N:Int)
  ·
   have hrep:=ZeX hms hNx hc;have hmm:ms=Yaj (fmJ p L) (N:Int)++ms.drop (fmJ p L):=by rw[<- hrep,YaH]
   have hvv:vs=vs.take (fmJ p L)++vs.drop (fmJ p L):=(YaH _ _).symm;have htl:(vs.take (fmJ p L)).length=fmJ p L:=by rw[Yay];omega
   have hdot:dot vs ms=(vs.take (fmJ p L)).sum*N+dot (vs.drop (fmJ p L)) (ms.drop (fmJ p L)):=by
    conv=>lhs;rw[hvv,hmm]
    rw[Zgl (by rw[htl,YbQ])];congr 1;have:=Zju (N:Int) (vs.take (fmJ p L))
    rwa [htl] at this
   have hst:=Zjk hp hvs (by omega);rw[hvl] at hst;have hs0:∀ w∈(vs.take (fmJ p L)).sum::vs.drop (fmJ p L),0<=w:=fun w hx=>by
    rcases YaC.mp hx with rfl | hx
    ·exact sum_nn0 _ fun y hy=>hvw y (Ybk hy)
    ·exact hvw w (Yba hx)
   have hkr:kr p N (((N:Int) - 1)::ms.drop (fmJ p L))=p+(kr p N ms - fmJ p L):=by
    have e1:kr p N (((N:Int) - 1)::ms.drop (fmJ p L))=p ^ (N - ((N:Int) - 1).toNat)+kr p N (ms.drop (fmJ p L)):=rfl;have e2:kr p N ms=fmJ p L+kr p N (ms.drop (fmJ p L)):=by
     conv=>lhs;rw[hmm]
     unfold kr;rw[Yau,Ybu,Yc9];congr 1;rw[YaS,YcT,Yea];exact rep_one _
    rw[e1,e2,show N - ((N:Int) - 1).toNat=1 by omega,YeB];omega
   have hlen:((vs.take (fmJ p L)).sum::vs.drop (fmJ p L)).length=L - fmJ p L+1:=by rw[Yaz,Ybg,hvl]
   have hlen2:(((N:Int) - 1)::ms.drop (fmJ p L)).length=L - fmJ p L+1:=by rw[Yaz,Ybg,hml]
   have ih:=ihL (L - fmJ p L+1) (by omega) ((((N:Int) - 1)::ms.drop (fmJ p L)).sum.toNat) _ _ hlen hlen2 (by omega) hs0 ⟨N,fun n hn=>by
    rcases YaC.mp hn with rfl | hn
    ·omega
    ·exact hbn n (Yba hn),by rw[hkr];omega⟩
   rw[hst,hdot];have e5:dot ((vs.take (fmJ p L)).sum::vs.drop (fmJ p L)) (((N:Int) - 1)::ms.drop (fmJ p L))=(vs.take (fmJ p L)).sum*((N:Int) - 1)+dot (vs.drop (fmJ p L)) (ms.drop (fmJ p L)):=rfl;rw[e5,YbT,Ycy] at ih;omega
  ·
   have hslack:p - 1<=p ^ N - kr p N ms:=by
    have hy1:1<=y:=by
     refine Ybp fun z=>?_;have:p*y<=p*0:=YaX (by omega) (by omega);omega
    by_cases y2:2<=y
    ·have:p*2<=p*y:=YaX y2 (by omega);omega
    ·have:y=1:=by omega
     subst this;have hx1:1<=x:=by
      refine Ybp fun z=>?_;have:x=0:=by omega
      subst this;omega
     have:(p - 1)*1<=(p - 1)*x:=YaX hx1 (by omega);omega
   match ms,vs,hms,hml,hvl,hsum,hN,hNx,hbn,hvw,hslack with
   | [],_,_,hml,_,_,_,_,_,_,_=>simp at hml;omega
   | _::_,[],_,_,hvl,_,_,_,_,_,_=>simp at hvl;omega
   | n::ms,v::vs,hms,hml,hvl,hsum,hN,hNx,hbn,hvw,hslack=>
    have hnN:n=N:=by
     rcases YaC.mp hN with z | z
     ·exact z.symm
     ·have a:=(Ya3.mp hms).1 _ z;have b:=hNx n Yal;omega
    subst hnN;have e1:kr p N ((N:Int)::ms)=1+kr p N ms:=by
     have:kr p N ((N:Int)::ms)=p ^ (N - ((N:Int)).toNat)+kr p N ms:=rfl;rw[this,YaS,YcT,Yea]
    have e2:kr p N (((N:Int) - 1)::ms)=p+kr p N ms:=by
     have:kr p N (((N:Int) - 1)::ms)=p ^ (N - ((N:Int) - 1).toNat)+kr p N ms:=rfl;rw[this,show N - ((N:Int) - 1).toNat=1 by omega,YeB]
    rw[Yas] at hsum;have ih:=ihS (v::vs) (((N:Int) - 1)::ms) hvl (by simpa using hml) (by rw[Yas];omega) hvw ⟨N,fun n hn=>by
     rcases YaC.mp hn with rfl | hn
     ·omega
     ·exact hbn n (Yag _ hn),by rw[e2];omega⟩
    refine Ycc ih ?_;simp only[dot];rw[YbT,Ycy];have:=hvw v Yal;omega
 dot_nn:∀ (ws ns:List Int),(∀ w∈ws,0<=w)->(∀ n∈ns,0<=n)->0<=dot ws ns
  | [],_,_,_=>by simp[dot]
  | _::_,[],_,_=>by simp[dot]
  | w::ws,n::ns,h1,h2=>by
   have a:=YbY (h1 w Yal) (h2 n Yal);have b:=dot_nn ws ns (fun x hx=>h1 x (Yag _ hx)) fun x hx=>h2 x (Yag _ hx);simp only[dot];omega
 sum_nn0:∀ (xs:List Int),(∀ x∈xs,0<=x)->0<=xs.sum
  | [],_=>by simp
  | x::xs,h=>by
   have a:=h x Yal;have b:=sum_nn0 xs fun y hy=>h y (Yag _ hy);rw[Yas];omega
 rep_one:∀ m:Nat,(Yaj m (1:Int)).sum=m
  | 0=>rfl
  | m+1=>by rw[Ybn,Yas,rep_one m];omega
end Lv
namespace Lv
open PySem L2
section
variable {S:List Addr}{H H':Hp}{a w:Addr}
end
end Lv
namespace Lv
open PySem L2
section
variable {α:Type}
def ones (RR:List (List (List α))):List (List Int):=RR.map fun R=>R.map fun _=>1
def tl (g:List α->Int) (RR:List (List (List α))):Int:=(RR.map fun R=>sg g R).sum
end
end Lv
namespace Lv
open PySem L2
def phO (p t:Nat):Int:=((p:Int) - t) % ((p:Int)+1)
end Lv
namespace Lv
open PySem L2
def opr (D:List Rows):List (List (List Int)):=D.map fun r=>r.map fun c=>c.getD []
def gl (r:List Int):Int:=(r.length:Nat)
def phL (p:Nat):Nat->Nat->List (Int × Int)
 | _,0=>[]
 | t,m+1=>(phO p t,hd p m)::phL p (t+1) m
def SrtD (D:List Rows):Prop:=∀ r∈D,∀ xs:List Int,some xs∈r->xs.Pairwise (·<=·)
def HasR (D:List Rows):Prop:=∃ r∈D,∃ xs:List Int,some xs∈r
def ZnD (o:Int) (s:List Int):Prop:=∃ a:Nat,o=a/\s[a]?=some 0/\∀ (j:Nat) x,s[j]?=some x->j≠a->1<=x
end Lv
namespace Lv
open PySem L2
def fil1:List Bool->List (List Int)->Rows
 | [],_=>[]
 | false::bs,rows=>none::fil1 bs rows
 | true::bs,rows=>some (rows.headD [])::fil1 bs rows.tail
def filB:List (List Bool)->List (List Int)->List Rows
 | [],_=>[]
 | b::B,rows=>fil1 b (rows.take (b.count true))::filB B (rows.drop (b.count true))
def wS (rows:List (List Int)) (ns:List Int):List Int:=Yb2 (fun r w=>(r.length:Int)*w) rows ns
structure Pl52 (p n:Nat) (B:List (List Bool)) (rows:List (List Int)):Prop where
 pls:Pls (filB B rows++[[]]) (phL p 0 n)
 left:(plR (filB B rows++[[]]) (phL p 0 n)).flatten=[some (srt rows.flatten)]
 read:((rdR (filB B rows++[[]]) (phL p 0 n)).map List.sum).sum=(wS rows (ZnT (num p n) B)).sum
 out:(∀ b∈B,∀ x∈b,x=true)->(∀ r∈rows,r≠[])->∀ (i:Nat) q s,(phL p 0 n)[i]?=some q->(rdR (filB B rows++[[]]) (phL p 0 n))[i]?=some s->ZnD q.1 s
end Lv
namespace Lv
open PySem L2
def Zb3 (p m:Nat):List (List (List Int)):=(YaG m).map (num p)
theorem Ze9 (p m:Nat):(Zb3 p m).length=m:=by unfold Zb3;simp
theorem Zhr (p m:Nat):Zb3 p (m+1)=Zb3 p m++[num p m]:=by unfold Zb3;rw[Ydw,Yau];rfl
theorem Zfa {p m n:Nat} (h:n<m):(Zb3 p m)[n]?=some (num p n):=by unfold Zb3;rw[Yat,Yc3 h];rfl
theorem Zbj (p n:Nat):((num p n).flatten.length:Int)=tot p n:=by
 unfold tot;rw[<- ZbU];have:∀ N:List (List Int),((N.flatten.length:Nat):Int)=(lens N).sum:=fun N=>by
  induction N with
  | nil=>rfl
  | cons x N ih=>
   unfold lens at *;rw[YaR,Yaf,YaM,Yas];omega
 exact this _
theorem ZfR {p:Nat} (hp:2<=p):∀ n:Nat,(n:Int)+1<=tot p n
 | 0=>by
  have:=Zda hp (Yak 0);have h0:tot p 0=1:=by
   rw[<- Zbj];show ((([0]::Yaj (p - 1) []:List (List Int)).flatten.length:Nat):Int)=1;simp
  (clear this hp;omega)
 | n+1=>by
  have:=ZfR hp n;have:=Zh4 hp n
  (clear hp;omega)
theorem Zhp {p m:Nat} (h2:2<=p) (h7:p<=7) (h:4000<(num p m).flatten.length):1<=m/\500<=(num p (m - 1)).flatten.length:=by
 have e:=Zbj p m
 cases m with
 | zero=>
  exfalso;have:(num p 0).flatten.length=1:=by
   show ([0]::Yaj (p - 1) []:List (List Int)).flatten.length=1;simp
  (clear e h7 h2;omega)
 | succ m=>
  refine⟨by (clear e h h7 h2;omega),?_⟩;have e2:=Zbj p m;have e3:=Zeq h2 m;obtain⟨x,y,r,ec,_⟩:=ZeZ h2 m;have h1:hd p m<=tot p m:=by
   unfold hd tot;exact Zlp (ZbV p m).2 (by rw[ec];simp)
  have h0:=Zfu h2 m;have h6:((p - 1:Nat):Int)*hd p m<=6*hd p m:=YaE (by (clear h0 h1 e3 e2 e h h2;omega)) (by (clear h1 e3 e2 e h h7 h2;omega));show 500<=(num p m).flatten.length
  (clear h0 h7 h2;omega)
def ZfV (fn:Addr):Sp:=fun vs H Q _=>∃ p:Nat,vs=[.int p,.ref fn]/\2<=p/\p<=7/\∀ (l:Addr) (as:List Addr) (m:Nat) H',H l=none->H' l=some (.lst (as.map V.ref))->LvsT H' as (Zb3 p m)->(∀ i,i<m->(num p i).flatten.length<=4000)->4000<(num p m).flatten.length->Same H H'->Q (.ref l) H'
def BestVP (ls:List Int) (L:List (List (List Int))) (H:Hp):Option (Int × Nat)->V->Prop
 | none,v=>v=.non
 | some (R,n),v=>∃ (t pl:Addr) (qs:List Addr) (N ks lf lp:List (List Int)) ,v=.ref t/\H t=some (.tup [.int R,.int (n:Int),.ref pl])/\H pl=some (.lst (qs.map V.ref))/\TuM H qs ks/\L[n]?=some N/\ZfL ls N ks lf lp/\(∀ k∈ks,InN N k)/\Fit ls N/\R=(Za6 N ls ks).sum
theorem BestVP.same {ls:List Int}{L:List (List (List Int))}{H H':Hp}{o:Option (Int × Nat)}{v:V} (h:BestVP ls L H o v) (s:Same H H'):BestVP ls L H' o v:=by
 match o,h with
 | none,h=>exact h
 | some (R,n),⟨t,pl,qs,N,ks,lf,lp,e,q,a,b,r⟩=>exact⟨t,pl,qs,N,ks,lf,lp,e,s _ _ q,s _ _ a,b.same s,r⟩
def Zci (K:Yac):Sp:=fun vs H Q _=>∃ (lv ll:Addr) (b:Bool) (as:List Addr) (L:List (List (List Int))) (ls:List Int),vs=[.ref lv,.ref ll]/\H lv=some (.lst (as.map V.ref))/\LvsT H as L/\SqB b K H ll (ls.map V.int) /\
 (∀ N∈L,N.length<=7/\N.flatten.length<=100000/\∀ xs∈N,∀ z∈xs,YaT z<=8000)/\(∀ l∈ls,YaT l<=8000)/\∀ (o:Option (Int × Nat)) (v:V) H',BestOf ls L L.length o->BestVP ls L H' o v->Same H H'->Q v H'
def ZlF (K:Yac):Sp:=fun vs H Q _=>∃ (p:Nat) (ll:Addr) (b:Bool) (ls:List Int),vs=[.int p,.ref ll]/\2<=p/\p<=7/\SqB b K H ll (ls.map V.int)/\ls.length<=500/\(∀ l∈ls,YaT l<=8000) /\
 ∀ (t pl:Addr) (qs:List Addr) (ks lf lp:List (List Int)) (n m:Nat) H',H t=none∨True->H' t=some (.tup [.int (Za6 (num p n) ls ks).sum,.int (n:Int),.ref pl])->H' pl=some (.lst (qs.map V.ref))->TuM H' qs ks->ZfL ls (num p n) ks lf lp->(∀ k∈ks,InN (num p n) k)->Fit ls (num p n)->tot p n<=4000->n<m->BestOf ls (Zb3 p m) m (some ((Za6 (num p n) ls ks).sum,n))->(∀ i,i<m->tot p i<=4000)->4000<tot p m->Same H H'->Q (.ref t) H'
end Lv
namespace Lv
open PySem L2
def tlv (c:Bool) (p i:Nat):Int:=((SS c p i).flatten.length:Int)
theorem Zbc (p i:Nat):tlv false p i=tot p i:=Zbj p i
theorem Zbs {p:Nat} (hp:1<=p) (i:Nat):tlv true p i=(casc p i).sum:=by
 show ((casN p i).flatten.length:Int)=_;rw[Zcv,Za9 hp]
theorem Zdb {c:Bool}{p:Nat} (hp:2<=p) {m n:Nat} (h:m<=n):tlv c p m<=tlv c p n:=by
 cases c
 ·rw[Zbc,Zbc];exact Zda hp h
 ·rw[Zbs (by (clear h;omega)),Zbs (by (clear h;omega))];exact ZfB h
theorem ZmI {c:Bool}{p:Nat} (hp:2<=p) (h7:p<=7) {i:Nat} (h:tlv c p i<=4000):i<=60:=by
 have h61:4000<tlv c p 61:=by
  cases c
  ·rw[Zbc];rcases (show p=2∨p=3∨p=4∨p=5∨p=6∨p=7 by (clear h;omega)) with rfl | rfl | rfl | rfl | rfl | rfl <;> decide +kernel
  ·rw[Zbs (by (clear h h7;omega))];rcases (show p=2∨p=3∨p=4∨p=5∨p=6∨p=7 by (clear h;omega)) with rfl | rfl | rfl | rfl | rfl | rfl <;> decide +kernel
 by_cases z:i<=60
 ·exact z
 ·have:=Zdb (c:=c) hp (m:=61) (n:=i) (by (clear h61 h h7 hp;omega))
  (clear z h7 hp;omega)
theorem ZnC {c:Bool}{p:Nat} (hp:2<=p) (i:Nat):(SS c p i).length=p:=by
 cases c
 ·exact ZbE (by omega) i
 ·exact Zbw (by omega) i
def ToldW (c:Bool) (p m:Nat):Prop:=(∀ i,i<m->tlv c p i<=4000)/\4000<tlv c p m
theorem ToldW.one {c:Bool}{p m n:Nat} (a:ToldW c p m) (b:ToldW c p n):m=n:=by
 rcases YfB m n with h | h | h
 ·have:=b.1 m h;have:=a.2;(clear h;omega)
 ·exact h
 ·have:=a.1 n h;have:=b.2;(clear h;omega)
def BestT (c:Bool) (p:Nat) (ls:List Int) (o:Option (Int × Nat)):Prop:=∃ m,ToldW c p m/\BestG (fitF ls (SS c p)) m o
theorem BestG.uniq {f:Nat->Option Int}{m:Nat}:∀ {o o':Option (Int × Nat)},BestG f m o->BestG f m o'->o=o'
 | none,none,_,_=>rfl
 | none,some (R,n),a,b=>by have:=a n b.1;rw[b.2.1] at this;cases this
 | some (R,n),none,b,a=>by have:=a n b.1;rw[b.2.1] at this;cases this
 | some (R,n),some (R',n'),a,b=>by obtain⟨rfl,rfl⟩:=a.one b;rfl
theorem BestT.uniq {c:Bool}{p:Nat}{ls:List Int}{o o':Option (Int × Nat)} (a:BestT c p ls o) (b:BestT c p ls o'):o=o':=by
 obtain⟨m,a1,a2⟩:=a;obtain⟨n,b1,b2⟩:=b;cases a1.one b1;exact a2.uniq b2
end Lv
namespace Lv
open PySem L2
theorem BestVP.toV {ls:List Int}{L:List (List (List Int))}{H:Hp}{o:Option (Int × Nat)}{v:V} (h:BestVP ls L H o v):ZnE H o v:=by
 match o,h with
 | none,h=>exact h
 | some (R,n),⟨t,pl,qs,N,ks,lf,lp,e,q,_⟩=>exact⟨t,pl,e,q⟩
theorem ZjI {K:Yac}{vs:List V}{H:Hp}{Q:VK}{E:XK} (h:ZeA K vs H Q E):Zci K vs H Q E:=by
 obtain⟨lv,ll,b,as,L,ls,e,h1,h2,h3,h4,h5,k⟩:=h;exact⟨lv,ll,b,as,L,ls,e,h1,h2,h3,h4,h5,fun o v H' ho hv s=>k o v H' ho hv.toV s⟩
end Lv
namespace L2
open PySem PySem.Spec PyProof.Rows PySem.SeqAt
theorem Zdj:isSubtype (.type "range_iterator") (.type "reversed")=pure false:=by rw[isSubtype_type];kernel_rfl
section
variable {prog:Program}{w:World}{A:Around}{E:Value->Shared->Prop}{s:Shared}
theorem Zdq {n:Int} (h:0<=n):YbP 0 n 1=n:=by
 unfold YbP;rw[if_pos (by decide)];split <;> omega
theorem ZdO {l:Addr}{n:Int}{t u v:Tok}{Q:Value->Shared->Prop} (h0:0<=n) (h1:n<2 ^ 62) (hl:s.heap.get? l=some { cls:=.type "range",data:=.fields #[.int 0 t,.int n u,.int 1 v] })
  (h:Q (.ref s.heap.objs.size) { s with heap:=s.heap.push { cls:=.type "range_iterator",data:=.fields #[rawInt (n - 1),rawInt n,rawInt (-1)] } }):wpAny (model prog w) A (call (.builtin "range.__reversed__") [.ref l]) Q E s:=by
 refine wpAny_call_entry F.slot_range_reversed ⟨_,hl,rfl⟩ F.entry_range_reversed ?_ (F.args_range_reversed_1 _);obtain⟨hp,g,d,tk,os⟩:=s;unfold Builtin.«range.__reversed__» Builtin.Range.rangeFields
 repeat (any_goals (first | assumption | wp_step))
 have hs:(Ybc 0 && Ybc n && Ybc 1 && Ybc (-1) && Ybc (0 - 1) && Ybc (YbP 0 n 1))=true:=by
  rw[Zdq h0];have:Ybc n=true:=by
   unfold Ybc;simp;omega
  rw[this]
  decide
 rw[hs];simp only[YcE,YaQ,if_false,if_true];rw[Zdq h0]
 repeat (any_goals (first | assumption | wp_step))
 refine⟨_,rfl,?_⟩;have e:(0:Int)+(n - 1)*1=n - 1:=by (clear h1 h0;omega)
 rw[e];exact h
theorem Zcm {l:Addr}{n:Int}{t u v:Tok}{Q₁:Value->Shared->Prop} (h0:0<=n) (h1:n<2 ^ 62) (hl:s.heap.get? l=some { cls:=.type "range",data:=.fields #[.int 0 t,.int n u,.int 1 v] })
  (h:Q₁ (.ref s.heap.objs.size) { s with heap:=s.heap.push { cls:=.type "range_iterator",data:=.fields #[rawInt (n - 1),rawInt n,rawInt (-1)] } }) :
  codeAny (model prog w) A (.call (.builtin "reversed.__new__") ⟨[.type "reversed",.ref l],[]⟩) (wants Q₁ E) s:=by
 have hT:s.TypeIs (.ref l) "range":=⟨_,hl,rfl⟩
 refine codeAny_of_tree ?_;show wpAny _ A.in1 (do checkBuiltinCall "reversed.__new__" ⟨[.type "reversed",.ref l],[]⟩;again (.builtin "reversed.__new__" ⟨[.type "reversed",.ref l],[]⟩)) _ _ s;refine wpAny_bind (wpAny_of_eq (F.newCall_reversed_1 _) (wpAny_pure ⟨plainId_quiet F.plain_reversed_new _,codeAny_builtin F.entry_reversed_new ?_⟩));rw[Around.under_plainId F.plain_reversed_new _];unfold Builtin.«reversed.__new__»;refine wpAny_bind (wpAny_of_eq (newClass_reversed _) ?_)
 try dsimp only
 refine wpAny_bind (wpAny_of_eq (a:=()) (by first | rfl | kernel_rfl) ?_);refine wpAny_bind (wpAny_of_eq (a:=()) (by first | rfl | kernel_rfl) ?_)
 try dsimp only
 refine wpAny_bind (wpAny_specialOf hT F.slot_range_reversed.lookup ?_)
 try dsimp only
 refine wpAny_bind (wpAny_of_eq (F.slot_range_reversed.bind _) ?_)
 try dsimp only
 first
 | rw[if_neg (show ¬ ((YeM "range.__reversed__" == YbU)=true) from YaJ)]
 | (show wpAny _ _ (if (YeM "range.__reversed__" == YbU)=true then _ else _) _ _ _;rw[if_neg (show ¬ ((YeM "range.__reversed__" == YbU)=true) from YaJ)])
 refine wpAny_bind (wpAny_rule ?_);refine wpAny_bind (m:=runValue (.call (.builtin "range.__reversed__") ⟨[.ref l],[]⟩)) (show wpAny _ _ (call (.builtin "range.__reversed__") [.ref l]) _ _ _ from ZdO h0 h1 hl ?_)
 first
 | exact wpAny_pure h
 | exact wpAny_bind (wpAny_pure (wpAny_pure h))
theorem Zca {l:Addr}{n:Int}{t u v:Tok}{Q:Value->Shared->Prop} (h0:0<=n) (h1:n<2 ^ 62) (hl:s.heap.get? l=some { cls:=.type "range",data:=.fields #[.int 0 t,.int n u,.int 1 v] })
  (h:Q (.ref s.heap.objs.size) { s with heap:=s.heap.push { cls:=.type "range_iterator",data:=.fields #[rawInt (n - 1),rawInt n,rawInt (-1)] } }):wpAny (model prog w) A (call (.type "reversed") [.ref l]) Q E s:=by
 refine callType_other (U:="range_iterator") (Q₁:=fun obj s₁=>obj=.ref s.heap.objs.size/\s₁={ s with heap:=s.heap.push { cls:=.type "range_iterator",data:=.fields #[rawInt (n - 1),rawInt n,rawInt (-1)] } }) (by decide +kernel) F.create_reversed ⟨_,_,F.mro_reversed⟩ F.made_reversed Zdj (F.typeCall_reversed_1 _) (Zcm h0 h1 hl ⟨rfl,rfl⟩) ?_;rintro obj s₁ ⟨rfl,rfl⟩;exact⟨⟨_,YaB _ rfl,rfl⟩,h⟩
end
def ItrR (n:Nat):It:=⟨fun i H=>i<n,fun i H x H'=>H'=H/\x=.int ((n:Int) - 1 - i),fun i H=>n<=i⟩
theorem ZfQ {P:Program}{w:World}{K:Yac}{tg:Expr} (it:Addr) (n:Nat):Turn P w K tg (ItrR n) [it] it (fun i h=>IsRangeIter h it (((n:Int) - 1)+(i:Nat)*(-1)) ((n:Int) - (i:Nat)) (-1)) where
 mem:=by simp
 obj:=fun i h st b hb=>by
  have e:b=it:=by simpa using hb
  subst e;exact⟨_,st,fun v z=>by
   have z':Yfh _=Data.cell v:=z;cases z'⟩
 keep:=fun i h h' st k=>k it (by simp) _ st
 item:=by
  intro X hP hw hK hc i pins s σ H E I hf st hg;subst hP hw hK;obtain⟨f0,f1,f2,f3,f4,f5⟩:=hf it (by simp);have W:=Ye2 (prog:=X.prog) (w:=X.w) (I.ok.hd hc) it ((n:Int) - 1) (-1) n;refine W.item i s _ _ hg st fun v h' tk hv st' kk=>?_;obtain⟨t,rfl⟩:=hv;have I1:Inv X pins σ H { s with heap:=h',toks:=tk }:=I.turned (fun b o hb e=>kk b o (by simpa using hb) e) f0 f1 f3 f4 f5;refine⟨_,rfl,Zjl (s:={ s with heap:=h',toks:=tk }) (n:="range_iterator") st' rfl rfl (by decide) ⟨.int ((n:Int) - 1 - i),H,I1,⟨t,?_⟩,⟨rfl,rfl⟩,st',fun b hb=>(hf b hb).1⟩⟩;rw[show (n:Int) - 1+(i:Int)*(-1)=(n:Int) - 1 - i by (clear f3 f2 f1;omega)]
 done:=by
  intro X hP hw hK hc i pins s σ H E I hf st hg;subst hP hw hK;obtain⟨f0,f1,f2,f3,f4,f5⟩:=hf it (by simp);exact wpAny_pyNext_range_end (I.ok.hd hc) st (by have:n<=i:=hg;(clear f3 f2 f1;omega)) fun h' eb=>⟨rfl,I.turned (t':=s.toks) (fun b o hb e=>eb b o hb e) f0 f1 f3 f4 f5⟩
 self:=fun _ _ _ _ _ st h=>wpAny_pyIter_rangeiter st h
def Zob (ta:TA):TI:=fun σ H R=>ta σ H fun vs H1=>∃ j:Nat,vs=[.int j]/\(j:Int)<2 ^ 62/\R (ItrR j) H1
section
variable {X:Cx}{tg:Expr}
theorem ZlW {a:Expr}{ta:TA}{p p1 pos pos1:Pos} (hg:Gl X "reversed") (hm:X.mg "reversed"=none) (hg2:Gl X "range") (hm2:X.mg "range"=none) (ha:PA X [a] ta)
  (hs2:starEach [Expr.Call (.Name "range" p1) [a] [] pos1] X.env=[(false,eval (.Call (.Name "range" p1) [a] [] pos1) X.env)]:=by rfl) (hs:starEach [a] X.env=[(false,eval a X.env)]:=by rfl) :
  PI X tg (.Call (.Name "reversed" p) [.Call (.Name "range" p1) [a] [] pos1] [] pos) (Zob ta):=by
 intro pins s σ H R I h;refine Call_ (Zcs I hg hm (show bootBuiltins "reversed"=some (.type "reversed") by decide +kernel) (Ybr ?_ hs2 rfl));rw[hs2];show wpAny _ _ (spliced ((false,eval (.Call (.Name "range" p1) [a] [] pos1) X.env)::backTo pos [])) _ _ s;refine Yfi ?_;refine Call_ (Zcs I hg2 hm2 boot_range (Ybr (thn (ha pos1 pins s σ H _ I h) fun us s1 ⟨vs,H1,I1,r1,q1⟩=>?_) hs rfl));obtain⟨j,e,q1,q⟩:=q1;subst e
 cases r1 with
 | cons r rr=>
  cases rr;obtain⟨t,rfl⟩:=r;refine call_range_1 ?_;refine Yfr ?_;have I2:Inv X pins σ H1 { s1 with heap:=s1.heap.push { cls:=.type "range",data:=.fields #[.int 0 s1.toks,.int j t,.int 1 (s1.toks+1)] },toks:=s1.toks+1+1 }:=I1.kept fun b o e=>Yae _ e;refine Zca (n:=j) (by (clear q1;omega)) q1 (YaB _ rfl) ?_;have hit:IsRangeIter ((s1.heap.push { cls:=.type "range",data:=.fields #[.int 0 s1.toks,.int j t,.int 1 (s1.toks+1)] }).push { cls:=.type "range_iterator",data:=.fields #[rawInt ((j:Int) - 1),rawInt j,rawInt (-1)] }) (s1.heap.push { cls:=.type "range",data:=.fields #[.int 0 s1.toks,.int j t,.int 1 (s1.toks+1)] }).objs.size ((j:Int) - 1) j (-1):=YaB _ rfl;refine wpAny_pyIter_rangeiter (s:={ heap:=((s1.heap.push { cls:=.type "range",data:=.fields #[.int 0 s1.toks,.int j t,.int 1 (s1.toks+1)] }).push { cls:=.type "range_iterator",data:=.fields #[rawInt ((j:Int) - 1),rawInt j,rawInt (-1)] }),gens:=s1.gens,drawn:=s1.drawn,toks:=s1.toks+1+1,os:=s1.os }) hit ?_;refine⟨_,[(s1.heap.push { cls:=.type "range",data:=.fields #[.int 0 s1.toks,.int j t,.int 1 (s1.toks+1)] }).objs.size],_,_,H1,rfl,I2.kept (t':=s1.toks+1+1) fun b o e=>Yae _ e,ZfQ _ j,?_,fun b hb=>?_,q⟩
  ·show IsRangeIter _ _ (((j:Int) - 1)+((0:Nat):Int)*(-1)) ((j:Int) - ((0:Nat):Int)) (-1);rw[show ((j:Int) - 1)+((0:Nat):Int)*(-1)=(j:Int) - 1 by (clear q1;omega),show (j:Int) - ((0:Nat):Int)=j by (clear q1;omega)];exact hit
  ·have e:b=(s1.heap.push { cls:=.type "range",data:=.fields #[.int 0 s1.toks,.int j t,.int 1 (s1.toks+1)] }).objs.size:=by simpa using hb
   subst e;exact I2.fpOk (Yak _) (I2.hok.fresh (Yak _))
end
theorem ZkV {n:Nat}{g:TG}{tb:TS}{D:Ends}{σ:St}{H:Hp} (Pv:Nat->St->Hp->Prop) (h0:Pv 0 σ H)
  (hs:∀ i σ H,i<n->Pv i σ H->g (.int ((n:Int) - 1 - i)) σ H fun σ2 H2=>tb { D with nx:=Pv (i+1),ct:=Pv (i+1),bk:=D.nx } σ2 H2) (hd:∀ σ H,Pv n σ H->D.nx σ H) :
  ∃ W:Nat->Nat->St->Hp->Prop,(∃ m,W 0 m σ H)/\∀ i m σ H,W i m σ H ->
   ((ItrR n).stop i H/\D.nx σ H)∨((ItrR n).go i H/\∃ N:St->Hp->Prop,(∀ σ' H',N σ' H'->∃ m',m'<m/\W (i+1) m' σ' H')/\∀ x H',(ItrR n).yld i H x H'->g x σ H' fun σ2 H2=>tb { D with nx:=N,ct:=N,bk:=D.nx } σ2 H2):=by
 refine⟨fun i m σ H=>m=n - i/\i<=n/\Pv i σ H,⟨n,by simp,YaY _,h0⟩,?_⟩;rintro i m σ H ⟨rfl,hi,p⟩;by_cases hlt:i<n
 ·refine .inr ⟨hlt,Pv (i+1),fun σ' H' p'=>⟨n - (i+1),by (clear hi;omega),rfl,hlt,p'⟩,fun x H' y=>?_⟩;obtain⟨e,y⟩:=y;subst e y;exact hs i σ _ hlt p
 ·have e:i=n:=by omega
  subst e;exact .inl ⟨Yak _,hd σ H p⟩
end L2
namespace L2
open PySem PySem.Spec PyProof.Rows
section
variable {X:Cx}{tg:Expr}
end
def rIxB (K:Yac):R2:=fun x y H Q=>∃ b p xs i v,x=.ref p/\y=.int i/\SqB b K H p xs/\atI xs i=some v/\Q v H
theorem ix_B {X:Cx}:IxR X (rIxB X.K):=by
 intro value slice pins s σ H x y v u Q I rx ry q hs;obtain⟨b,p,xs,i,v',e1,e2,hq,e3,q⟩:=q;refine (ix_list.or Za4) value slice pins s σ H x y v u Q I rx ry ?_ hs
 cases b with
 | true=>exact .inl ⟨p,xs,i,v',e1,e2,hq,e3,q⟩
 | false=>exact .inr ⟨p,xs,i,v',e1,e2,hq,e3,q⟩
theorem Same.B {b:Bool}{K:Yac}{H H':Hp}{a:Addr}{xs:List V} (e:Same H H') (h:SqB b K H a xs):SqB b K H' a xs:=by
 cases b with
 | true=>exact e.seq h
 | false=>exact e.tup h
end L2
namespace Lv
open PySem L2
def fol:Int->List (List Int)->Int->Nat
 | _,[],_=>0
 | m,T::L,x=>if x∈T then 1+fol (m+1) L m else fol (m+1) L x
inductive Chain (p:Nat):Int->List Int->List (List Int)->Prop
 | one (m x:Int):Chain p m [x] []
 | step (m:Int) (th T rest:List Int) (L:List (List Int)) (h1:th.Perm (T++rest)) (h2:T≠[]) (h3:T.length<=p) (h:Chain p (m+1) (rest++[m]) L):Chain p m th (T::L)
def pw (p D:Nat) (f:Int->Nat) (xs:List Int):Nat:=(xs.map fun x=>p ^ (D - f x)).sum
theorem ZlR {p D:Nat}{f:Int->Nat}{xs ys:List Int} (h:xs.Perm ys):pw p D f xs=pw p D f ys:=(h.map _).sum_nat
theorem Zle {p D:Nat}{f:Int->Nat} (xs ys:List Int):pw p D f (xs++ys)=pw p D f xs+pw p D f ys:=by unfold pw;rw[Yau,Ybu]
theorem ZgK {p D:Nat}{f g:Int->Nat}:∀ {xs:List Int},(∀ x∈xs,f x=g x)->pw p D f xs=pw p D g xs
 | [],_=>rfl
 | x::xs,h=>by
  have:=ZgK (p:=p) (D:=D) (xs:=xs) fun y hy=>h y (Yag _ hy);unfold pw at this ⊢;rw[YaM,YaM,Yas,Yas,this,h x (by simp)]
theorem ZgJ {p D c:Nat}{f:Int->Nat}:∀ {xs:List Int},(∀ x∈xs,f x=c)->pw p D f xs=xs.length*p ^ (D - c)
 | [],_=>by simp[pw]
 | x::xs,h=>by
  have:=ZgJ (p:=p) (D:=D) (c:=c) (xs:=xs) fun y hy=>h y (Yag _ hy);unfold pw at this ⊢;rw[YaM,Yas,this,h x (by simp),Yaz,Yfn]
  (clear this;omega)
theorem Zn6 {p D:Nat}{m:Int}{th:List Int}{L:List (List Int)} (c:Chain p m th L):(∀ x∈th,x<m)->th.Nodup->(∀ x∈th,fol m L x<=D) ->
  pw p D (fol m L) th<=p ^ D/\((∀ T∈L,T.length=p)->pw p D (fol m L) th=p ^ D):=by
 induction c with
 | one m x=>intro _ _ _;simp[pw,fol]
 | step m th T rest L h1 h2 h3 h ih=>
  intro hlt hnd hD;have hT:∀ x∈T,x∈th:=fun x hx=>h1.mem_iff.mpr (YaF _ hx);have hR:∀ x∈rest,x∈th:=fun x hx=>h1.mem_iff.mpr (Yao _ hx);have hnd2:(T++rest).Nodup:=h1.nodup_iff.mp hnd;have hdis:∀ x∈rest,x ∉ T:=fun x hx hx'=>(YbD.mp hnd2).2.2 x hx' x hx rfl;have f1:∀ x∈T,fol m (T::L) x=1+fol (m+1) L m:=fun x hx=>by rw[fol,if_pos hx]
  have f2:∀ x∈rest,fol m (T::L) x=fol (m+1) L x:=fun x hx=>by rw[fol,if_neg (hdis x hx)]
  obtain⟨y,hy⟩:=List.exists_mem_of_ne_nil T h2;have hf:1+fol (m+1) L m<=D:=by rw[<- f1 y hy];exact hD y (hT y hy)
  have hih:=ih (fun x hx=>by
    rcases Yam.mp hx with hx | hx
    ·have:=hlt x (hR x hx);(clear hf ih h3;omega)
    ·have:x=m:=by simpa using hx
     (clear hf ih h3;omega)) (by
    rw[YbD];refine⟨(YbD.mp hnd2).2.1,by simp,fun a ha b hb=>?_⟩;have:=hlt a (hR a ha);have:b=m:=by simpa using hb
    (clear hf ih h3;omega)) (fun x hx=>by
    rcases Yam.mp hx with hx | hx
    ·rw[<- f2 x hx];exact hD x (hR x hx)
    ·have:x=m:=by simpa using hx
     subst this;(clear ih h3;omega))
  rw[Zle] at hih;have e0:pw p D (fol (m+1) L) [m]=p ^ (D - fol (m+1) L m):=by simp[pw]
  rw[e0] at hih;have e1:p ^ (D - fol (m+1) L m)=p*p ^ (D - (1+fol (m+1) L m)):=by
   rw[show D - fol (m+1) L m=(D - (1+fol (m+1) L m))+1 by (clear e0 hih ih h3;omega),Nat.pow_succ,Ye6]
  have e2:pw p D (fol m (T::L)) th=T.length*p ^ (D - (1+fol (m+1) L m))+pw p D (fol (m+1) L) rest:=by
   rw[ZlR h1,Zle,ZgJ f1,ZgK f2]
  rw[e2];constructor
  ·have:=Yfd (p ^ (D - (1+fol (m+1) L m))) h3;have:=hih.1
   (clear this e2 e0 hf ih h3;omega)
  ·intro hall;rw[hall T (by simp),<- e1];have:=hih.2 fun T' hT'=>hall T' (by simp[hT'])
   (clear e2 e1 e0 hih hf ih h3;omega)
inductive Built (p r:Nat):List (List Int)->List Int->Prop
 | nil:Built p r [] ((YaG r).map fun (i:Nat)=>(i:Int))
 | snoc (L:List (List Int)) (th T rest:List Int) (h:Built p r L th) (h1:th.Perm (T++rest)) (h2:T≠[]) (h3:T.length<=p):Built p r (L++[T]) (rest++[((r+L.length:Nat):Int)])
def Wf (r:Nat) (L:List (List Int)):Prop:=∀ (i:Nat) T,L[i]?=some T->∀ x∈T,0<=x/\x<((r+i:Nat):Int)
def dep (r:Nat) (L:List (List Int)):List Int:=(YaG r).map fun (i:Nat)=>((fol r L i:Nat):Int)
def powI (p:Nat) (n:Nat):Int:=((p ^ n:Nat):Int)
theorem Zjv {p r:Nat}{L:List (List Int)} (hr:1<=r) (c:Chain p r ((YaG r).map fun (i:Nat)=>(i:Int)) L) {D:Nat} (hD:∀ i,i<r->fol r L i<=D) :
  ((dep r L).map fun d=>powI p (D - d.toNat)).sum<=powI p D/\((∀ T∈L,T.length=p)->((dep r L).map fun d=>powI p (D - d.toNat)).sum=powI p D):=by
 have hk:=Zn6 (D:=D) c (fun x hx=>by
   obtain⟨i,hi,rfl⟩:=YaK.mp hx;have:=Ya8.mp hi
   (clear hr;omega)) (by
   rw[YeA,Ybf];exact Yd6.imp fun {a b} h z=>h (by exact_mod_cast z)) (fun x hx=>by
   obtain⟨i,hi,rfl⟩:=YaK.mp hx;exact hD i (Ya8.mp hi))
 have e:∀ xs:List Nat,(((xs.map fun (i:Nat)=>((fol r L i:Nat):Int))).map fun d=>powI p (D - d.toNat)).sum=((pw p D (fol r L) (xs.map fun (i:Nat)=>(i:Int)):Nat):Int):=by
  intro xs
  induction xs with
  | nil=>rfl
  | cons x xs ih=>
   rw[YaM,YaM,Yas,ih];unfold pw powI;rw[YaM,YaM,Yas,YaS,YcH]
 unfold dep;rw[e];unfold powI;constructor
 ·exact_mod_cast hk.1
 ·intro h;rw[hk.2 h]
end Lv
namespace Lv
open PySem L2
def Zif (K:Yac):Sp:=fun vs H Q _=>∃ (p r:Nat) (lg:Addr) (b:Bool) (qs:List Addr) (L:List (List Int)),vs=[.int p,.int r,.ref lg]/\2<=p/\p<=7/\1<=r/\r<=60/\SqB b K H lg (qs.map V.ref)/\TTs H qs L/\Wf r L/\L.length<=60/\∀ l H',H l=none->H' l=some (.lst ((dep r L).map V.int))->Same H H'->Q (.ref l) H'
theorem ZkW {r:Int}{L:List (List Int)}{i:Nat} (hi:i<L.length) (x:Int):fol (r+i) (L.drop i) x=if x∈L[i] then 1+fol (r+((i+1:Nat):Int)) (L.drop (i+1)) (r+i) else fol (r+((i+1:Nat):Int)) (L.drop (i+1)) x:=by
 rw[Ycs hi,fol];rw[show r+((i+1:Nat):Int)=r+(i:Int)+1 by (clear hi;omega)]
theorem Zjp:∀ (m:Int) (L:List (List Int)) (x:Int),fol m L x<=L.length
 | _,[],_=>Yak _
 | m,T::L,x=>by
  rw[fol];split
  ·have:=Zjp (m+1) L m;rw[Yaz];omega
  ·have:=Zjp (m+1) L x;rw[Yaz];omega
theorem Zgm (r:Nat) (L:List (List Int)):(dep r L).length=r:=by simp[dep]
theorem Zgn {r:Nat}{L:List (List Int)}{i:Nat} (h:i<r):(dep r L)[i]?=some ((fol r L i:Nat):Int):=by simp[dep,h]
end Lv
namespace L2
open PySem PySem.Spec PyProof.Rows PySem.SeqAt
end L2
namespace Lv
open PySem L2
def upL (ks:List (List Int)):Prop:=ks.Pairwise (fun p q=>lxB q p=false)
def k0 (k:List Int):Int:=k.getD 0 0
def k1 (k:List Int):Int:=k.getD 1 0
inductive JRun (p:Nat):Nat->Int->List (List Int)->Int->List (List Int)->Prop
 | done (m:Nat) (n:Int) (ks:List (List Int)) (h:ks.length<=1):JRun p m n ks 0 []
 | step (m:Nat) (n:Int) (ks ks':List (List Int)) (r:Int) (T:List Int) (L:List (List Int)) (h2:2<=ks.length)
   (hT:T.Perm ((ks.take m).map k1)) (hT2:T.Pairwise (·<=·)) (hk:ks'.Perm (ks.drop m++[[((ks.take m).map k0).sum,n]])) (hs:upL ks')
   (h:JRun p p (n+1) ks' r L):JRun p m n ks (((ks.take m).map k0).sum+r) (T::L)
def prK (ls:List Int):List (List Int):=ls.mapIdx fun j l=>[l,(j:Int)]
theorem ZeI (ls:List Int):(prK ls).length=ls.length:=by unfold prK;simp
theorem Zli (ls:List Int):(prK ls).map k0=ls:=by
 unfold prK k0;exact YbS (by simp) fun i h1 h2=>by simp
theorem Zm1 (ls:List Int):(prK ls).map k1=(YaG ls.length).map fun (i:Nat)=>(i:Int):=by
 unfold prK k1;exact YbS (by simp) fun i h1 h2=>by simp
theorem ZlU {ls:List Int}{k:List Int} (h:k∈prK ls):∃ a b,k=[a,b]:=by
 obtain⟨j,hj⟩:=YcX h;unfold prK at hj;rw[Yco] at hj
 cases e:ls[j]? with
 | none=>rw[e] at hj;cases hj
 | some l=>rw[e] at hj;cases hj;exact⟨_,_,rfl⟩
def Joined (p:Nat) (ls:List Int) (r:Int) (L:List (List Int)):Prop:=∃ ks,ks.Perm (prK ls)/\upL ks/\JRun p (fmJ p ls.length) ls.length ks r L
theorem Chain.perm {p:Nat}{m:Int}{th th':List Int}{L:List (List Int)} (h:Chain p m th L) (e:th.Perm th'):Chain p m th' L:=by
 cases h with
 | one m x=>
  have:th'=[x]:=List.perm_singleton.mp e.symm;subst this;exact .one m x
 | step m th T rest L h1 h2 h3 h=>exact .step m th' T rest L (e.symm.trans h1) h2 h3 h
theorem upL.fst {x y:Int}{a b:List Int} (h:lxB (y::b) (x::a)=false):x<=y:=by
 rw[lxB] at h;by_cases e:y=x
 ·omega
 ·rw[if_neg e] at h;have:=of_decide_eq_false h
  (clear e;omega)
theorem k_up {ks:List (List Int)} (h2:∀ k∈ks,∃ a b,k=[a,b]) (h:upL ks):(ks.map k0).Pairwise (·<=·):=by
 refine Ybf.mpr ?_;refine YcY ?_ h;intro p q hp hq z;obtain⟨a,b,rfl⟩:=h2 p hp;obtain⟨c,d,rfl⟩:=h2 q hq;exact upL.fst z
theorem JRun.spec {p:Nat} (hp:2<=p) {m:Nat}{n:Int}{ks:List (List Int)}{r:Int}{L:List (List Int)} (a:JRun p m n ks r L):ks≠[]->(∀ k∈ks,∃ a b,k=[a,b])->(ks.map k1).Nodup->(∀ k∈ks,k1 k<n)->(2<=ks.length->m=fmJ p ks.length)->upL ks ->
  r=hf p (ks.map k0)/\Chain p n (ks.map k1) L/\r=(ks.map fun k=>k0 k*(fol n L (k1 k):Nat)).sum/\L.length+1<=ks.length/\(∀ T∈L,T.length<=p):=by
 induction a with
 | done m n ks h=>
  intro h0 h2 hnd hlt hm hup
  match ks,h,h0 with
  | [k],_,_=>exact⟨(Zg8 (by simp)).symm,.one _ _,by simp[fol],by simp,fun T hT=>(nomatch hT)⟩
 | step m n ks ks' r T L hl hT hT2 hk hs h ih=>
  intro h0 h2 hnd hlt hm hup;have em:=hm hl;obtain⟨f1,f2,f3,_⟩:=Zbv (p:=(p:Int)) (by (clear em hm ih hl;omega)) hl;rw[<- em] at f1 f2 f3;have hkl:ks'.length=ks.length - m+1:=by rw[hk.length_eq,Yaf,Ybg];rfl
  have hids:(ks'.map k1).Perm ((ks.drop m).map k1++[n]):=by
   have:=hk.map k1
   rwa [Yau] at this
  have hsplit:(ks.map k1).Perm ((ks.take m).map k1++(ks.drop m).map k1):=by rw[<- Yau,YaH]
  have hnd2:=hsplit.nodup_iff.mp hnd;have hdl:∀ x∈(ks.drop m).map k1,x<n:=fun x hx=>by
   obtain⟨k,hk',rfl⟩:=YaK.mp hx;exact hlt k (Yba hk')
  obtain⟨i1,i2,i3,i4,i5⟩:=ih (by intro z;rw[z] at hkl;simp at hkl) (fun k hk'=>by
    rcases Yam.mp (hk.subset hk') with z | z
    ·exact h2 k (Yba z)
    ·exact⟨_,_,YaD.mp z⟩) (hids.nodup_iff.mpr (YbD.mpr ⟨(YbD.mp hnd2).2.1,by simp,fun x hx y hy=>by
     have:=hdl x hx;rw[YaD.mp hy]
     (clear hkl f3 f2 f1 em hm ih hl hp;omega)⟩)) (fun k hk'=>by
    rcases Yam.mp (hk.subset hk') with z | z
    ·have:=hlt k (Yba z)
     (clear hkl f3 f2 f1 em hm ih hl hp;omega)
    ·rw[YaD.mp z];show n<n+1
     (clear hkl f3 f2 f1 em hm ih hl hp;omega)) (fun z=>by
    have:=Zgg (p:=(p:Int)) (by (clear z hkl f3 f2 f1 em hm ih hl;omega)) hl (by rw[<- em];(clear f3 f2 f1 em hm ih hl hp;omega));rw[<- em,<- hkl] at this
    (clear z hkl f3 f2 f1 em hm ih hl hp;omega)) hs
  have hTl:T.length=m:=by rw[hT.length_eq,Yaa,Yay];(clear i4 i3 i1 hkl f3 f1 em hm ih hl hp;omega)
  have hTm:∀ x,x∈T↔x∈(ks.take m).map k1:=fun x=>hT.mem_iff;have hTd:∀ x∈(ks.drop m).map k1,x ∉ T:=fun x hx hx'=>(YbD.mp hnd2).2.2 x ((hTm x).mp hx') x hx rfl;have hws:=k_up h2 hup;refine⟨?_,?_,?_,?_,?_⟩
  ·have hst:=Zjk (p:=(p:Int)) (by (clear hTl i4 i3 i1 hkl f3 f2 f1 em hm ih hl;omega)) hws (by rw[Yaa];exact hl);rw[Yaa,<- em] at hst;rw[hst,i1,YcA,ZeS (p:=(p:Int)) (hk.map k0)];congr 1;refine ZeS ?_;rw[Yau,<- YdL,<- YcA];show (_++[((ks.take m).map k0).sum]).Perm _;exact YcO (l₂:=[_])
  ·refine .step n _ T ((ks.drop m).map k1) L (hsplit.trans (hT.symm.append_right _)) (fun z=>by rw[z] at hTl;simp at hTl;(clear i4 i3 i1 hkl f3 f2 em hm ih hl hp;omega)) (by (clear i4 i3 i1 hkl f2 f1 em hm ih hl hp;omega)) (i2.perm hids)
  ·have e1:(ks.map fun k=>k0 k*(fol n (T::L) (k1 k):Nat)).sum=((ks.take m).map fun k=>k0 k*(fol n (T::L) (k1 k):Nat)).sum+((ks.drop m).map fun k=>k0 k*(fol n (T::L) (k1 k):Nat)).sum:=by
    rw[<- Ybu,<- Yau,YaH]
   have e2:((ks.take m).map fun k=>k0 k*(fol n (T::L) (k1 k):Nat))=(ks.take m).map fun k=>k0 k*(1+(fol (n+1) L n:Nat)):=Yb9 fun k hk'=>by
    rw[fol,if_pos ((hTm _).mpr (Yc2 hk'))];simp
   have e3:((ks.drop m).map fun k=>k0 k*(fol n (T::L) (k1 k):Nat))=(ks.drop m).map fun k=>k0 k*(fol (n+1) L (k1 k):Nat):=Yb9 fun k hk'=>by
    rw[fol,if_neg (hTd _ (Yc2 hk'))]
   have e4:∀ (xs:List (List Int)) (c:Int),(xs.map fun k=>k0 k*c).sum=(xs.map k0).sum*c:=fun xs c=>by
    induction xs with
    | nil=>simp
    | cons x xs ih=>rw[YaM,Yas,YaM,Yas,ih,YbC]
   have e5:r=((ks.drop m).map fun k=>k0 k*(fol (n+1) L (k1 k):Nat)).sum+((ks.take m).map k0).sum*(fol (n+1) L n:Nat):=by
    rw[i3,Zco (hk.map fun k=>k0 k*(fol (n+1) L (k1 k):Nat)),Yau,Ybu];simp[k0,k1]
   rw[e1,e2,e3,e4,e5,YcN,Ycy]
   (clear e5 e1 hTl i4 i3 i1 hkl f3 f2 f1 em hm ih hl hp;omega)
  ·rw[Yaz];(clear hTl i3 i1 f3 f2 em hm ih hp;omega)
  ·intro T' hT';rcases YaC.mp hT' with rfl | z
   ·(clear i4 i3 i1 hkl f2 f1 em hm ih hl hp;omega)
   ·exact i5 T' z
theorem ZgH (r:Nat):((YaG r).map fun (i:Nat)=>(i:Int)).Nodup:=by
 rw[YeA,Ybf];exact Yd6.imp fun {a b} h z=>h (by exact_mod_cast z)
theorem Chain.wf {p r:Nat}{m:Int}{th:List Int}{L:List (List Int)} (c:Chain p m th L):(∀ x∈th,0<=x/\x<m)->0<=m->∀ (i:Nat) T,L[i]?=some T->∀ x∈T,0<=x/\x<m+i:=by
 induction c with
 | one m x=>intro _ _ i T h;simp at h
 | step m th T rest L h1 h2 h3 h ih=>
  intro hlt h0 i T' hT' x hx
  match i,hT' with
  | 0,hT'=>
   have:T=T':=by simpa using hT'
   subst this;have:=hlt x (h1.mem_iff.mpr (YaF _ hx))
   (clear h0 ih h3;omega)
  | i+1,hT'=>
   have:=ih (fun y hy=>by
    rcases Yam.mp hy with z | z
    ·have:=hlt y (h1.mem_iff.mpr (Yao _ z));(clear h0 ih h3;omega)
    ·rw[YaD.mp z];(clear ih h3;omega)) (by (clear ih h3;omega)) i T' (by simpa using hT') x hx
   (clear h0 ih h3;omega)
theorem Zmw:∀ (ls:List Int) (r:Nat) (f:Int->Nat),((prK ls).map fun k=>k0 k*(f (k1 k):Nat)).sum=dot ls ((YaG ls.length).map fun (i:Nat)=>((f i:Nat):Int)):=by
 intro ls r f;have h:∀ (ls:List Int) (s:Nat),((ls.mapIdx fun j l=>[l,((s+j:Nat):Int)]).map fun k=>k0 k*(f (k1 k):Nat)).sum=dot ls ((YaG ls.length).map fun (i:Nat)=>((f ((s+i:Nat):Int):Nat):Int)):=by
  intro ls
  induction ls with
  | nil=>intro s;simp[dot]
  | cons l ls ih=>
   intro s;rw[List.mapIdx_cons,YaM,Yas,Yaz,YeS,YaM,dot];have:=ih (s+1);have e:(ls.mapIdx fun j l=>[l,((s+1+j:Nat):Int)])=ls.mapIdx fun j l=>[l,((s+(j+1):Nat):Int)]:=by
    congr 1
    funext j l
    rw[show s+1+j=s+(j+1) by (clear this;omega)]
   rw[e] at this;rw[this,Yb3];have e2:((fun (i:Nat)=>((f ((s+i:Nat):Int):Nat):Int)) ∘ Nat.succ)=fun (i:Nat)=>((f ((s+1+i:Nat):Int):Nat):Int):=by
    funext i
    show ((f ((s+(i+1):Nat):Int):Nat):Int)=_;rw[show s+(i+1)=s+1+i by (clear this;omega)]
   rw[e2];rfl
 have:=h ls 0;simpa[prK] using this
theorem Joined.spec {p:Nat} (hp:2<=p) {ls:List Int}{r:Int}{L:List (List Int)} (h:Joined p ls r L) (h1:1<=ls.length) :
  r=hf p ls/\Chain p ls.length ((YaG ls.length).map fun (i:Nat)=>(i:Int)) L/\r=dot ls (dep ls.length L)/\Wf ls.length L/\L.length+1<=ls.length/\(∀ T∈L,T.length<=p):=by
 obtain⟨ks,pm,up,j⟩:=h;have hl:ks.length=ls.length:=by rw[pm.length_eq,ZeI]
 have hid:(ks.map k1).Perm ((YaG ls.length).map fun (i:Nat)=>(i:Int)):=by rw[<- Zm1];exact pm.map _
 obtain⟨a1,a2,a3,a4,a5⟩:=j.spec hp (fun z=>by rw[z] at hl;simp at hl;(clear hp;omega)) (fun k hk=>ZlU (pm.subset hk)) (hid.nodup_iff.mpr (ZgH _)) (fun k hk=>by
  have:=hid.subset (Yc2 hk);obtain⟨i,hi,e⟩:=YaK.mp this;have:=Ya8.mp hi
  (clear hl h1 hp;omega)) (fun _=>by rw[hl]) up
 have c:=a2.perm hid;refine⟨?_,c,?_,fun i T hT x hx=>?_,by (clear a3 a1 h1 hp;omega),a5⟩
 ·rw[a1];refine ZeS ?_;have:=pm.map k0
  rwa [Zli] at this
 ·rw[a3,Zco (pm.map _)];exact Zmw ls 0 _
 ·have:=c.wf (r:=0) (fun y hy=>by
   obtain⟨i,hi,rfl⟩:=YaK.mp hy;have:=Ya8.mp hi
   (clear a4 a3 a1 hl h1 hp;omega)) (by (clear a4 a3 a1 hl h1 hp;omega)) i T hT x hx
  (clear a4 a3 a1 hl h1 hp;omega)
def lkI (D:List (Int × Int)) (x:Int):Option Int:=(D.find? fun q=>decide (q.1=x)).map (·.2)
def okT (m:Nat) (D:List (Int × Int)) (T:List Int):Prop:=T.length=m/\(∀ x∈T,(lkI D x).isSome=true)/\T.Pairwise (·<·)/\srt (T.map fun x=>(lkI D x).getD 0)=(srt (D.map (·.2))).take T.length
instance (m:Nat) (D:List (Int × Int)) (T:List Int):Decidable (okT m D T):=by unfold okT;infer_instance
theorem Zkk {ls:List Int}{j:Nat}{l:Int} (h:ls[j]?=some l):prK (ls.take (j+1))=prK (ls.take j)++[[l,(j:Int)]]:=by
 have hl:=(Yab.mp h).1
 unfold prK;rw[Ybj,h,Yby,YdM];simp[Yay,Yb0 (Ybs hl)]
theorem TTs.snocJ {H:Hp}{rs:List Addr}{N:List (List Int)}{q:Addr}{xs:List Int} (h:TTs H rs N) (e:H q=some (.tup (xs.map V.int))):TTs H (rs++[q]) (N++[xs]):=⟨by rw[Yaf,Yaf,h.1];rfl,fun j r ys a b=>by
 rcases Zbt a with z | ⟨z1,z2⟩
 ·have hj:=(Yab.mp z).1
  rcases Zbt b with y | ⟨y1,y2⟩
  ·exact h.2 j r ys z y
  ·rw[h.1] at hj;omega
 ·subst z1 z2;rw[h.1,YaV (Yak _)] at b;simp at b;rw[<- b];exact e⟩
theorem TTs.sameJ {H H':Hp}{rs:List Addr}{N:List (List Int)} (h:TTs H rs N) (s:Same H H'):TTs H' rs N:=⟨h.1,fun j r xs a b=>s _ _ (h.2 j r xs a b)⟩
theorem TTs.offJ {H:Hp}{rs:List Addr}{N:List (List Int)}{l:Addr}{xs:List V}{o:HO} (h:TTs H rs N) (e:H l=some (.lst xs)):TTs (upd H l o) rs N:=⟨h.1,fun j r ys a b=>by
 have h1:=h.2 j r ys a b;rw[Zag (fun z=>by rw[z,e] at h1;cases h1)];exact h1⟩
theorem Zoc {p:Int} (hp:2<=p) (L:Nat):((L:Int) - 2) % (p - 1)+2=(fmJ p L:Nat):=by
 have:=YcI ((L:Int) - 2) (show p - 1≠0 by omega);unfold fmJ
 (clear hp;omega)
end Lv
namespace L2
open PySem PySem.Spec PyProof.Rows PySem.SeqAt
end L2
namespace Lv
open PySem L2
theorem Same.sqB {b:Bool}{K:Yac}{H H':Hp}{a:Addr}{xs:List V} (e:Same H H') (h:SqB b K H a xs):SqB b K H' a xs:=by
 cases b with
 | true=>exact e.seq h
 | false=>exact e.tup h
theorem ZbJ {b:Bool}{K:Yac}{own:List Str}{js:List Nat}{g:TG}{te:TE}{σ:L2.St}{H1:Hp}{Q:VK}{a:Addr}{xs:List V} (ys:List V) (hq:SqB b K H1 a xs) (hl:xs.length=ys.length) (hlen:xs.length<=20000)
  (hs:∀ (i:Nat) x y,xs[i]?=some x->ys[i]?=some y->∀ H,Same H1 H->∀ R:VK,(∀ H',Same H H'->R y H')->g x (blkσ own js σ) H fun τ H4=>te τ H4 R)
  (hd:∀ acc H,H1 acc=none->Same H1 H->H acc=some (.lst ys)->Q (.ref acc) H):Zby own js g Zhs te σ (ItlB b K a) H1 Q:=by
 refine Zjz (b:=b) (K:=K) (a:=a) (xs:=xs) (fun acc i H=>Same H1 H/\H acc=some (.lst (ys.take i))) (fun acc h0=>⟨Same.new h0,Zab⟩) (fun acc i H h0 _ z=>?_) ?_ ?_
 ·exact Same.sqB z.1 hq
 ·rintro acc i x H h0 hx ⟨s1,hacc⟩;have hi:=(Yab.mp hx).1
  have hy:=Yad (l:=ys) (i:=i) (by (clear hlen;omega));refine (cast ?_ (hs i x _ hx hy H s1 (fun y H6=>∃ zs,H6 acc=some (.lst zs)/\zs.length<sizeLine/\(i+1<=xs.length/\(Same H1 (upd H6 acc (.lst (zs++[y])))/\upd H6 acc (.lst (zs++[y])) acc=some (.lst (ys.take (i+1)))))) fun H' s'=>?_))
  ·unfold Zhs;simp only[if_true]
  ·refine⟨_,s' _ _ hacc,?_,hi,(s1.trans s').put h0,?_⟩
   ·rw[sizeLine_eq,Yay];omega
   ·rw[Zab,Ybj,hy];simp
 ·rintro acc H h0 ⟨s1,hacc⟩;rw[hl,YaN] at hacc;exact hd acc H h0 s1 hacc
theorem ZkM {α:Type}{l:List α}{f g:α->V}{i:Nat}{x y:V} (hx:(l.map f)[i]?=some x) (hy:(l.map g)[i]?=some y):∃ c,l[i]?=some c/\x=f c/\y=g c:=by
 rw[Yat] at hx hy
 cases e:l[i]? with
 | none=>rw[e] at hx;cases hx
 | some c=>
  rw[e] at hx hy;exact⟨c,rfl,(YaL hx).symm,(YaL hy).symm⟩
end Lv
namespace L2
open PySem PySem.Spec PyProof.Rows PySem.SeqAt
def Its (lo c:Int) (n:Nat):It:=⟨fun i _=>i<n,fun i H x H'=>H'=H/\x=.int (lo+(i:Int)*c),fun i _=>n<=i⟩
theorem ZfP {P:Program}{w:World}{K:Yac}{tg:Expr} (it:Addr) (lo c:Int) (n:Nat):Turn P w K tg (Its lo c n) [it] it (fun i h=>IsRangeIter h it (lo+(i:Nat)*c) ((n:Int) - (i:Nat)) c) where
 mem:=by simp
 obj:=fun i h st b hb=>by
  have e:b=it:=by simpa using hb
  subst e;exact⟨_,st,fun v z=>by
   have z':Yfh _=Data.cell v:=z;cases z'⟩
 keep:=fun i h h' st k=>k it (by simp) _ st
 item:=by
  intro X hP hw hK hc i pins s σ H E I hf st hg;subst hP hw hK;obtain⟨f0,f1,f2,f3,f4,f5⟩:=hf it (by simp);have W:=Ye2 (prog:=X.prog) (w:=X.w) (I.ok.hd hc) it lo c n;refine W.item i s _ _ hg st fun v h' tk hv st' kk=>?_;obtain⟨t,rfl⟩:=hv;have I1:Inv X pins σ H { s with heap:=h',toks:=tk }:=I.turned (fun b o hb e=>kk b o (by simpa using hb) e) f0 f1 f3 f4 f5;exact⟨_,rfl,Zjl (s:={ s with heap:=h',toks:=tk }) (n:="range_iterator") st' rfl rfl (by decide) ⟨.int (lo+i*c),H,I1,⟨t,rfl⟩,⟨rfl,rfl⟩,st',fun b hb=>(hf b hb).1⟩⟩
 done:=by
  intro X hP hw hK hc i pins s σ H E I hf st hg;subst hP hw hK;obtain⟨f0,f1,f2,f3,f4,f5⟩:=hf it (by simp);exact wpAny_pyNext_range_end (I.ok.hd hc) st (by have:n<=i:=hg;(clear f3 f2 f1;omega)) fun h' eb=>⟨rfl,I.turned (t':=s.toks) (fun b o hb e=>eb b o hb e) f0 f1 f3 f4 f5⟩
 self:=fun _ _ _ _ _ st h=>wpAny_pyIter_rangeiter st h
theorem Zij {a b c:Int}{n:Nat} (ha:-(2 ^ 60)<=a/\a<2 ^ 60) (hb:-(2 ^ 60)<=b/\b<2 ^ 60) (hc:-(2 ^ 29)<=c/\c<2 ^ 29) (hn:(n:Int)=YbP a b c) (hn2:n<2 ^ 60):Yel a b c=true:=by
 unfold Yel;rw[<- hn];simp only[Ybc,Ycu,Yet,decide_eq_true_eq,beq_iff_eq];refine⟨⟨⟨⟨by (clear hn2 hn hc hb;omega),by (clear hn2 hn hc ha;omega)⟩,by (clear hn2 hn hb ha;omega)⟩,by (clear hn hc hb ha;omega)⟩,.inr ?_⟩;split <;> simp <;> (clear hn2 hn ha;omega)
section
variable {X:Cx}{tg:Expr}
def Zn9 (ta:TA):TI:=fun σ H R=>ta σ H fun vs H1=>∃ (a b c:Int) (n:Nat),vs=[.int a,.int b,.int c]/\c≠0/\(-(2 ^ 60)<=a/\a<2 ^ 60)/\(-(2 ^ 60)<=b/\b<2 ^ 60)/\(-(2 ^ 29)<=c/\c<2 ^ 29)/\(n:Int)=YbP a b c/\n<2 ^ 60/\R (Its a c n) H1
theorem Zfl {a b c:Expr}{ta:TA}{p pos:Pos} (hg:Gl X "range") (hm:X.mg "range"=none) (ha:PA X [a,b,c] ta) (hs:starEach [a,b,c] X.env=[(false,eval a X.env),(false,eval b X.env),(false,eval c X.env)]:=by rfl) (hs2:starEach [b,c] X.env=[(false,eval b X.env),(false,eval c X.env)]:=by rfl) :
  PI X tg (.Call (.Name "range" p) [a,b,c] [] pos) (Zn9 ta):=by
 intro pins s σ H R I h;refine Call_ (Zcs I hg hm boot_range (Ybr (thn (ha pos pins s σ H _ I h) fun us s1 ⟨vs,H1,I1,r1,q1⟩=>?_) (by rw[hs,hs2]) (by rw[hs2];rfl)));obtain⟨i,j,k,n,e,hk,h1,h2,h3,hn,hn2,q⟩:=q1;subst e
 cases r1 with
 | cons r rr=>
  cases rr with
  | cons r' rr=>
   cases rr with
   | cons r2 rr=>
    cases rr;obtain⟨t,rfl⟩:=r;obtain⟨t',rfl⟩:=r';obtain⟨t2,rfl⟩:=r2;refine call_range_3 hk ?_ (YaI (YeG (by (clear hn2 hn h2 h1 hk;omega))));refine wpAny_pyIter_range (IsRange.new ..) (Zij h1 h2 h3 hn hn2) ?_;have I2:Inv X pins σ H1 { s1 with heap:=s1.heap.push { cls:=.type "range",data:=.fields #[.int i t,.int j t',.int k t2] },toks:=s1.toks }:=I1.kept fun b o e=>Yae _ e;refine⟨(s1.heap.push { cls:=.type "range",data:=.fields #[.int i t,.int j t',.int k t2] }).objs.size,[(s1.heap.push { cls:=.type "range",data:=.fields #[.int i t,.int j t',.int k t2] }).objs.size],_,_,H1,rfl,
     I2.kept (t':=s1.toks) fun b o e=>Yae _ e,ZfP _ i k n,?_,fun b hb=>?_,q⟩
    ·have e1:i+((0:Nat):Int)*k=i:=by simp
     show IsRangeIter _ _ (i+((0:Nat):Int)*k) ((n:Int) - ((0:Nat):Int)) k;rw[e1,show (n:Int) - ((0:Nat):Int)=n by (clear e1 hn2 hn h3 h2 h1 hk;omega),hn];exact YaB _ rfl
    ·have e:b=(s1.heap.push { cls:=.type "range",data:=.fields #[.int i t,.int j t',.int k t2] }).objs.size:=by simpa using hb
     subst e;exact I2.fpOk (Yak _) (I2.hok.fresh (Yak _))
end
theorem ZhQ {lo c:Int}{n:Nat}{g:TG}{tb:TS}{D:Ends}{σ:St}{H:Hp} (Pv:Nat->St->Hp->Prop) (h0:Pv 0 σ H)
  (hs:∀ i σ H,i<n->Pv i σ H->g (.int (lo+(i:Int)*c)) σ H fun σ2 H2=>tb { D with nx:=Pv (i+1),ct:=Pv (i+1),bk:=D.nx } σ2 H2) (hd:∀ σ H,Pv n σ H->D.nx σ H) :
  ∃ W:Nat->Nat->St->Hp->Prop,(∃ m,W 0 m σ H)/\∀ i m σ H,W i m σ H ->
   ((Its lo c n).stop i H/\D.nx σ H)∨((Its lo c n).go i H/\∃ N:St->Hp->Prop,(∀ σ' H',N σ' H'->∃ m',m'<m/\W (i+1) m' σ' H')/\∀ x H',(Its lo c n).yld i H x H'->g x σ H' fun σ2 H2=>tb { D with nx:=N,ct:=N,bk:=D.nx } σ2 H2):=by
 refine⟨fun i m σ H=>m=n - i/\i<=n/\Pv i σ H,⟨n,by simp,YaY _,h0⟩,?_⟩;rintro i m σ H ⟨rfl,hi,p⟩;by_cases hlt:i<n
 ·refine .inr ⟨hlt,Pv (i+1),fun σ' H' p'=>⟨n - (i+1),by (clear hi;omega),rfl,hlt,p'⟩,fun x H' y=>?_⟩;obtain⟨e,y⟩:=y;subst e y;exact hs i σ _ hlt p
 ·have e:i=n:=by omega
  subst e;exact .inl ⟨Yak _,hd σ H p⟩
theorem Zgp {own:List Str}{js:List Nat}{g:TG}{tt:TT}{te:TE}{σ:St}{H1:Hp}{Q:VK}{lo c:Int}{n:Nat} (Pv:Addr->Nat->Hp->Prop) (h0:∀ acc,H1 acc=none->Pv acc 0 (upd H1 acc (.lst [])))
  (hs:∀ acc i H,H1 acc=none->i<n->Pv acc i H->g (.int (lo+(i:Int)*c)) (blkσ own js σ) H fun τ H4=>tt τ H4 fun c H5=>
   if c=true then te τ H5 fun y H6=>∃ ys,H6 acc=some (.lst ys)/\ys.length<sizeLine/\(i+1<=n/\Pv acc (i+1) (upd H6 acc (.lst (ys++[y])))) else (i+1<=n/\Pv acc (i+1) H5))
  (hd:∀ acc H,H1 acc=none->Pv acc n H->Q (.ref acc) H):Zby own js g tt te σ (Its lo c n) H1 Q:=by
 intro acc hacc;refine⟨fun i H=>i<=n/\Pv acc i H,n,⟨YaY _,h0 acc hacc⟩,?_⟩;rintro i H ⟨hi,p⟩;by_cases hlt:i<n
 ·refine .inr ⟨hlt,hlt,fun x H' y=>?_⟩;obtain⟨e,y⟩:=y;subst e y;exact hs acc i _ hacc hlt p
 ·have e:i=n:=by omega
  subst e;exact .inl ⟨Yak _,hd acc H hacc p⟩
end L2
namespace L2
open PySem PySem.Spec PyProof.Rows
section
variable {own:List Str}{js:List Nat}{g:TG}{tt:TT}{te:TE}{σ:L2.St}{H1:Hp}{Q:VK}
theorem ZdF {b1 b2:Bool}{K:Yac}{a b:Addr}{xs ys:List V} (zs:List V) (hq1:SqB b1 K H1 a xs) (hq2:SqB b2 K H1 b ys) (hl:ys.length<=xs.length) (hz:zs.length=ys.length) (hlen:ys.length<=20000)
  (hs:∀ (i:Nat) x y z,xs[i]?=some x->ys[i]?=some y->zs[i]?=some z->∀ p H,Same H1 H->H p=some (.tup [x,y])->∀ R:VK,(∀ H',Same H H'->R z H')->g (.ref p) (blkσ own js σ) H fun τ H4=>te τ H4 R)
  (hd:∀ acc H,H1 acc=none->Same H1 H->H acc=some (.lst zs)->Q (.ref acc) H):Zby own js g Zhs te σ (ItzB b1 b2 K a b) H1 Q:=by
 refine Zjy (xs:=xs) (ys:=ys) hl (fun acc i H=>Same H1 H/\H acc=some (.lst (zs.take i))) (fun acc h0=>⟨Same.new h0,Zab⟩) (fun acc i H h0 _ z=>⟨Lv.Same.sqB z.1 hq1,Lv.Same.sqB z.1 hq2⟩) ?_ ?_
 ·rintro acc i x y p H h0 hx hy ⟨s1,hacc⟩ hp;have hi:=(Yab.mp hy).1
  have hy':=Yad (l:=zs) (i:=i) (by (clear hlen hl;omega));have s2:Same H (upd H p (.tup [x,y])):=Same.new hp;refine (cast ?_ (hs i x y _ hx hy hy' p _ (s1.trans s2) Zab (fun y H6=>∃ zs',H6 acc=some (.lst zs')/\zs'.length<sizeLine/\(i+1<=ys.length/\(Same H1 (upd H6 acc (.lst (zs'++[y])))/\upd H6 acc (.lst (zs'++[y])) acc=some (.lst (zs.take (i+1)))))) fun H' s'=>?_))
  ·unfold Zhs;simp only[if_true]
  ·refine⟨_,s' _ _ (s2 _ _ hacc),?_,hi,((s1.trans s2).trans s').put h0,?_⟩
   ·rw[sizeLine_eq,Yay]
    (clear hl;omega)
   ·rw[Zab,Ybj,hy'];simp
 ·rintro acc H h0 ⟨s1,hacc⟩;rw[<- hz,YaN] at hacc;exact hd acc H h0 s1 hacc
theorem ZdP {f:Nat->Option V} (i:Nat):(YaG (i+1)).filterMap f=(YaG i).filterMap f++(f i).toList:=by
 rw[Ydw,List.filterMap_append];cases e:f i <;> simp[e]
theorem Zfw (f:Nat->Option V) (i:Nat):((YaG i).filterMap f).length<=i:=by
 have:=List.length_filterMap_le f (YaG i)
 rwa [YbX] at this
theorem Zfz {lo:Int}{n:Nat} (f:Nat->Option V) (hlen:n<=20000)
  (hs:∀ i,i<n->∀ H,Same H1 H->∀ (A:VK) (B:Hp->Prop),(match f i with | some y=>∀ H',Same H H'->A y H' | none=>∀ H',Same H H'->B H')->g (.int (lo+i)) (blkσ own js σ) H fun τ H4=>tt τ H4 fun c H5=>if c=true then te τ H5 A else B H5)
  (hd:∀ acc H,H1 acc=none->Same H1 H->H acc=some (.lst ((YaG n).filterMap f))->Q (.ref acc) H):Zby own js g tt te σ (Itr lo n) H1 Q:=by
 refine ZcW (fun acc i H=>Same H1 H/\H acc=some (.lst ((YaG i).filterMap f))) (fun acc h0=>⟨Same.new h0,Zab⟩) ?_ fun acc H h0 ⟨s1,hacc⟩=>hd acc H h0 s1 hacc;rintro acc i H h0 hi ⟨s1,hacc⟩;refine hs i hi H s1 _ _ ?_;have e:=ZdP (f:=f) i
 cases ef:f i with
 | none=>
  intro H' s';rw[ef] at e;exact⟨hi,s1.trans s',by rw[e,s' _ _ hacc];simp⟩
 | some y=>
  intro H' s';rw[ef] at e;have:=Zfw f i;exact⟨_,s' _ _ hacc,by rw[sizeLine_eq];omega,hi,(s1.trans s').put h0,by rw[Zab,e];rfl⟩
end
theorem Zj3 (K:Yac) {X:Cx} (hK:X.K=K:=by rfl):SlR X (rSlL K):=by subst hK;exact Zdo
end L2
namespace Lv
open PySem L2
def Zcq (p L:Nat):Nat:=if L=0 then 0 else (L - 1) / p+1
def Zbu (p:Nat) (xs:List Int):List (List Int):=(YaG (Zcq p xs.length)).map fun i=>(xs.drop (i*p)).take p
def ZaA (R:Nat) (st:List (List Int) × List Int) (part:List Int):List (List Int) × List Int :=
 if 1<part.length then (st.1++[srt part],st.2++[((R+st.1.length:Nat):Int)]) else (st.1,st.2++[part.getD 0 0])
def Zau (mo:List Int) (t:Int):List Int:=((YaG mo.length).filter fun i=>decide (mo.getD i 0=t)).map fun (i:Nat)=>(i:Int)
def Zmg (p:Nat) (mo:List Int) (st:List (List Int) × List Int) (t:Int):List (List Int) × List Int:=(Zbu p (st.2++Zau mo t)).foldl (ZaA mo.length) (st.1,[])
def njTo (p:Nat) (mo:List Int):Nat->List (List Int) × List Int
 | 0=>([],[])
 | k+1=>Zmg p mo (njTo p mo k) ((mo.length:Int) - 1 - k)
def ZaE (ns:List Int):List Int:=ns.map fun n=>min n ((ns.length:Int) - 1)
def nj (p:Nat) (ns:List Int):Option (List (List Int)) :=
 if ns.any (fun n=>decide (n<0)) then none
 else if ((njTo p (ZaE ns) (ns.length - 1)).2++Zau (ZaE ns) 0).length<=1 then some (njTo p (ZaE ns) (ns.length - 1)).1 else none
theorem ZbX (ns:List Int):(ZaE ns).length=ns.length:=by unfold ZaE;simp
theorem Zd7 (mo:List Int) (t:Int):(Zau mo t).length<=mo.length:=by
 unfold Zau;rw[Yaa];exact Ybw (List.length_filter_le _ _) (by rw[YbX];exact Yak _)
theorem Zmz (xs:List V) (a c:Nat):cutV xs (some (a:Int)) (some ((a:Int)+c))=(xs.drop a).take c:=by
 unfold cutV;rw[HT.sIx_nat,show ((a:Int)+c)=((a+c:Nat):Int) by omega,HT.sIx_nat];by_cases h:a<=xs.length
 ·rw[Yb0 h];rw[List.take_eq_take_iff,Ybg]
  (clear h;omega)
 ·rw[show min (a+c) xs.length=xs.length by omega,show min a xs.length=xs.length by omega,Ydu (Yak _),Ydu (show xs.length<=a by omega)];simp
theorem LLs.sameJ {H H':Hp}{rs:List Addr}{N:List (List Int)} (h:LLs H rs N) (s:Same H H'):LLs H' rs N:=⟨h.1,fun j r xs a b=>s _ _ (h.2 j r xs a b)⟩
theorem LLs.snocJ {H:Hp}{rs:List Addr}{N:List (List Int)}{q:Addr}{xs:List Int} (h:LLs H rs N) (e:H q=some (.lst (xs.map V.int))):LLs H (rs++[q]) (N++[xs]):=⟨by rw[Yaf,Yaf,h.1];rfl,fun j r ys a b=>by
 rcases Zbt a with z | ⟨z1,z2⟩
 ·have hj:=(Yab.mp z).1
  rcases Zbt b with y | ⟨y1,y2⟩
  ·exact h.2 j r ys z y
  ·rw[h.1] at hj;omega
 ·subst z1 z2;rw[h.1,YaV (Yak _)] at b;simp at b;rw[<- b];exact e⟩
theorem ZgE {mo:List Int} (t:Int):(YaG mo.length).filterMap (fun i=>if mo.getD i 0=t then some (V.int (i:Int)) else none)=(Zau mo t).map V.int:=by
 unfold Zau;rw[Yb3,<- List.filterMap_eq_map,List.filterMap_filter];congr 1
 funext i
 by_cases h:mo.getD i 0=t <;> simp[h]
theorem Zjo {α β:Type}{f:β->α->β}{b:β}{xs:List α}{i:Nat}{x:α} (h:xs[i]?=some x):(xs.take (i+1)).foldl f b=f ((xs.take i).foldl f b) x:=by
 rw[Ybj,h,Yby,List.foldl_append];rfl
theorem ZdU (p:Nat) (xs:List Int):∀ n:Nat,((YaG n).map fun i=>(xs.drop (i*p)).take p).flatten=xs.take (n*p)
 | 0=>by simp
 | n+1=>by
  rw[Ydw,Yau,YbB,ZdU p xs n,Yfn,Nat.one_mul,List.take_add];simp
theorem ZbR {p:Nat} (hp:1<=p) (xs:List Int):(Zbu p xs).flatten=xs:=by
 unfold Zbu;rw[ZdU];refine Ya2 ?_;unfold Zcq;split
 ·(clear hp;omega)
 ·have h1:=Nat.div_add_mod (xs.length - 1) p;have h2:=Nat.mod_lt (xs.length - 1) (show 0<p by (clear h1;omega));rw[Yfn,Nat.one_mul,Ye6]
  (clear hp;omega)
theorem Zde {p:Nat} (hp:1<=p) {xs:List Int}{T:List Int} (h:T∈Zbu p xs):1<=T.length/\T.length<=p:=by
 unfold Zbu at h;obtain⟨i,hi,rfl⟩:=YaK.mp h;have hi:=Ya8.mp hi;rw[Yay,Ybg];unfold Zcq at hi;split at hi
 ·(clear hp;omega)
 ·have h1:=Yfm (xs.length - 1) p;have h2:i*p<=(xs.length - 1) / p*p:=Yfd p (by (clear h1 hp;omega))
  (clear hi;omega)
theorem ZcQ (R:Nat):∀ (Ps:List (List Int)) (st:List (List Int) × List Int),(∀ T∈Ps,1<=T.length)->(Ps.foldl (ZaA R) st).1.length+(Ps.foldl (ZaA R) st).2.length<=st.1.length+st.2.length+Ps.flatten.length
 | [],st,_=>by simp
 | T::Ps,st,h=>by
  have ih:=ZcQ R Ps (ZaA R st T) fun T' hT'=>h T' (Yag _ hT');have h1:=h T Yal;rw[YcD,YaR,Yaf];refine Ybw ih ?_;unfold ZaA;split
  ·simp only[Yaf,Ydz]
   (clear h1 ih;omega)
  ·simp only[Yaf,Ydz]
   (clear ih;omega)
def Zen (mo:List Int) (t:Int):Nat:=(YaG mo.length).countP fun i=>decide (t<mo.getD i 0)
theorem Zgu (mo:List Int) (t:Int):Zen mo (t - 1)=Zen mo t+(Zau mo t).length:=by
 unfold Zen Zau;rw[Yaa,<- Yei];generalize YaG mo.length=xs
 induction xs with
 | nil=>rfl
 | cons x xs ih=>
  rw[Ydr,Ydr,Ydr,ih];have key:(if decide (t - 1<mo.getD x 0)=true then 1 else 0)=(if decide (t<mo.getD x 0)=true then 1 else 0)+(if decide (mo.getD x 0=t)=true then 1 else 0):=by
   simp only[decide_eq_true_eq];by_cases h1:t<mo.getD x 0
   ·rw[if_pos (by (clear ih;omega)),if_pos h1,if_neg (by (clear ih;omega))]
   ·by_cases h2:mo.getD x 0=t
    ·rw[if_pos (by (clear h1 ih;omega)),if_neg h1,if_pos h2]
    ·rw[if_neg (by (clear ih;omega)),if_neg h1,if_neg h2]
  (clear ih;omega)
theorem ZjL (mo:List Int) (t:Int):Zen mo t<=mo.length:=by
 unfold Zen;have:=List.countP_le_length (p:=fun i=>decide (t<mo.getD i 0)) (l:=YaG mo.length)
 rwa [YbX] at this
theorem ZgV {p:Nat} (hp:1<=p) (mo:List Int):∀ k:Nat,(njTo p mo k).1.length+(njTo p mo k).2.length<=Zen mo ((mo.length:Int) - 1 - k)
 | 0=>by simp[njTo]
 | k+1=>by
  have ih:=ZgV hp mo k;have h1:=ZcQ mo.length (Zbu p ((njTo p mo k).2++Zau mo ((mo.length:Int) - 1 - k))) ((njTo p mo k).1,[]) fun T hT=>(Zde hp hT).1
  have h2:=Zgu mo ((mo.length:Int) - 1 - k);rw[ZbR hp,Yaf] at h1;rw[show ((mo.length:Int) - 1 - ((k+1:Nat):Int))=(mo.length:Int) - 1 - k - 1 by (clear h2 h1 ih hp;omega),h2];rw[njTo,Zmg];simp only[YcB] at h1
  (clear h2 hp;omega)
theorem ZiS {p:Nat} (hp:1<=p) (mo:List Int) (k:Nat):(njTo p mo k).1.length+(njTo p mo k).2.length<=mo.length:=Ybw (ZgV hp mo k) (ZjL _ _)
end Lv
namespace Lv
open PySem L2
def leP:List Int->List Int->Prop
 | [],[]=>True
 | a::as,b::bs=>a<=b/\leP as bs
 | _,_=>False
theorem leP.len:∀ {a b:List Int},leP a b->a.length=b.length
 | [],[],_=>rfl
 | _::a,_::b,h=>by rw[Yaz,Yaz,leP.len h.2]
 | [],_::_,h=>h.elim
 | _::_,[],h=>h.elim
theorem leP.refl:∀ a:List Int,leP a a
 | []=>trivial
 | x::a=>⟨Ybd _,leP.refl a⟩
theorem leP.app:∀ {a b c d:List Int},leP a b->leP c d->leP (a++c) (b++d)
 | [],[],_,_,_,h=>h
 | _::_,_::_,_,_,h,k=>⟨h.1,leP.app h.2 k⟩
 | [],_::_,_,_,h,_=>h.elim
 | _::_,[],_,_,h,_=>h.elim
theorem leP.rep {a b:Int} (h:a<=b):∀ m:Nat,leP (Yaj m a) (Yaj m b)
 | 0=>trivial
 | m+1=>⟨h,leP.rep h m⟩
theorem Zkn {ms ns:List Int} (h:ms.Perm ns):∀ {ls:List Int},leP ls ms->∃ ks,ks.Perm ls/\leP ks ns:=by
 induction h with
 | nil=>intro ls h;exact⟨ls,Yb8 _,h⟩
 | cons x _ ih=>
  intro ls h
  match ls,h with
  | l::ls,h=>
   obtain⟨ks,k1,k2⟩:=ih h.2;exact⟨l::ks,k1.cons l,h.1,k2⟩
  | [],h=>exact h.elim
 | swap x y l=>
  intro ls h
  match ls,h with
  | a::b::ls,h=>exact⟨b::a::ls,YcZ _ _ _,h.2.1,h.1,h.2.2⟩
  | [_],h=>exact h.2.elim
  | [],h=>exact h.elim
 | trans _ _ ih1 ih2=>
  intro ls h;obtain⟨ks,k1,k2⟩:=ih1 h;obtain⟨js,j1,j2⟩:=ih2 k2;exact⟨js,j1.trans k1,j2⟩
theorem ZnN {p:Int} (hp:2<=p) {ms:List Int}{L N:Nat} (hL:2<=L) (hml:ms.length=L) (hbn:∀ n∈ms,0<=n/\n<=N) (hN:(N:Int)∈ms) (hN1:1<=N) (hK:kr p N ms<=p ^ N):p - fmJ p L<=p ^ N - kr p N ms/\(¬ fmJ p L<=ms.count (N:Int)->p - 1<=p ^ N - kr p N ms):=by
 obtain⟨f1,f2,f3,q,hq,f4⟩:=Zbv hp hL;obtain⟨t,ht⟩:=Zgc (p:=p) (M:=N) ms;obtain⟨t',ht'⟩:=Zdd (p:=p) N;obtain⟨u,hu⟩:=Zgb (p:=p) ms hbn;have hc1:1<=ms.count (N:Int):=YdO.mpr hN;obtain⟨k,hk1⟩:∃ k,N=k+1:=⟨N - 1,by (clear hc1 hu ht' ht f4 hq f3 f2 f1 hK hml hL hp;omega)⟩
 have hpN:p ^ N=p*p ^ k:=by rw[hk1,Ycl,Ycb]
 have hx:p ^ N - kr p N ms=(p - fmJ p L)+(p - 1)*(t' - t - q - 1):=by
  rw[ht,ht',hml,f4];have:(p - 1)*(t' - t - q - 1)=(p - 1)*t' - (p - 1)*t - (p - 1)*q - (p - 1):=by rw[YbT,YbT,YbT,Ycy]
  (clear hpN hk1 hc1 hu ht' ht f4 hq f3 f2 f1 hK hN1 hml hL hp;omega)
 have hy:p ^ N - kr p N ms=p*(p ^ k - u) - (ms.count (N:Int):Nat):=by
  rw[hu,hpN,YbT]
  (clear hx hpN hk1 hc1 hu ht' ht f4 hq f3 f2 f1 hK hN1 hml hL hp;omega)
 generalize t' - t - q - 1=x at hx;generalize p ^ k - u=y at hy;have hx0:0<=x:=by
  refine Ybp fun z=>?_;have:(p - 1)*x<=(p - 1)*(-1):=YaX (by (clear hy hx hpN hk1 hc1 hu ht' ht f4 hq f3 f2 f1 hK hN1 hml hL hp;omega)) (by (clear z hy hx hpN hk1 hc1 hu ht' ht f4 hq f3 f2 f1 hK hN1 hml hL;omega))
  (clear z hy hpN hk1 hc1 hu ht' ht f4 hq f3 f2 hN1 hml hL hp;omega)
 have hxp:0<=(p - 1)*x:=YbY (by (clear hx0 hy hx hpN hk1 hc1 hu ht' ht f4 hq f3 f2 f1 hK hN1 hml hL;omega)) hx0;refine⟨by (clear hx0 hy hpN hk1 hc1 hu ht' ht f4 hq f3 f2 f1 hK hN1 hml hL hp;omega),fun hc=>?_⟩;have hy1:1<=y:=by
  refine Ybp fun z=>?_;have:p*y<=p*0:=YaX (by (clear hc hxp hx0 hy hx hpN hk1 hc1 hu ht' ht f4 hq f3 f2 f1 hK hN1 hml hL hp;omega)) (by (clear z hc hxp hx0 hy hx hpN hk1 hc1 hu ht' ht f4 hq f3 f2 f1 hK hN1 hml hL;omega))
  (clear z hc hxp hx0 hx hpN hk1 hu ht' ht f4 hq f3 f2 f1 hN1 hml hL hp;omega)
 by_cases y2:2<=y
 ·have:p*2<=p*y:=YaX y2 (by (clear y2 hy1 hc hxp hx0 hy hx hpN hk1 hc1 hu ht' ht f4 hq f3 f2 f1 hK hN1 hml hL;omega))
  (clear y2 hy1 hxp hx0 hx hpN hk1 hc1 hu ht' ht f4 hq f2 f1 hK hN1 hml hL hp;omega)
 ·have:y=1:=by (clear hc hxp hx0 hy hx hpN hk1 hc1 hu ht' ht f4 hq f3 f2 f1 hK hN1 hml hL hp;omega)
  subst this;have hx1:1<=x:=by
   refine Ybp fun z=>?_;have:x=0:=by (clear y2 hy1 hy hc hxp hx hpN hk1 hc1 hu ht' ht f4 hq f3 f2 f1 hK hN1 hml hL hp;omega)
   subst this
   (clear z hxp hx0 y2 hy1 hpN hk1 hc1 hu ht' ht f4 hq f3 f2 f1 hK hN1 hml hL hp;omega)
  have:(p - 1)*1<=(p - 1)*x:=YaX hx1 (by (clear hx1 y2 hy1 hy hc hxp hx0 hx hpN hk1 hc1 hu ht' ht f4 hq f3 f2 f1 hK hN1 hml hL;omega))
  (clear hx1 y2 hy1 hy hc hxp hx0 hpN hk1 hc1 hu ht' ht f4 hq f2 f1 hK hN1 hml hL hp;omega)
theorem KrOk.perm {p:Int}{a b:List Int} (h:KrOk p a) (e:a.Perm b):KrOk p b:=by
 obtain⟨M,h1,h2⟩:=h;exact⟨M,fun n hn=>h1 n (e.symm.subset hn),by rw[<- Zi7 e];exact h2⟩
def CapsTo (p:Int) (L:Nat) (ns:List Int):Prop:=∃ ls,leP ls ns/\(∀ l∈ls,0<=l/\l+1<=(L:Int))/\KrOk p ls
theorem CapsTo.perm {p:Int}{L:Nat}{ms ns:List Int} (h:CapsTo p L ms) (e:ms.Perm ns):CapsTo p L ns:=by
 obtain⟨ls,h1,h2,h3⟩:=h;obtain⟨ks,k1,k2⟩:=Zkn e h1;exact⟨ks,k2,fun l hl=>h2 l (k1.subset hl),h3.perm k1.symm⟩
theorem Zk3 {p:Int} (hp:2<=p):∀ (L S:Nat) (ns:List Int),ns.length=L->ns.sum<=S->1<=L->KrOk p ns->CapsTo p L ns:=by
 intro L
 induction L using Yez with
 | ind L ihL=>
 intro S
 induction S with
 | zero=>exact fun ns a b c e=>core hp ihL (S0:=-1) (fun ns _ h _ hk=>absurd (huff_least.sum_nn0 (p:=2) ns fun n hn=>by obtain⟨M,h,_⟩:=hk;exact (h n hn).1) (by omega)) 0 (by (clear c b a hp;omega)) ns a b c e
 | succ S ihS=>exact fun ns a b c e=>core hp ihL (S0:=S) (fun ns a h c e=>ihS ns a h c e) (S+1:Nat) (by (clear c b a hp;omega)) ns a b c e
where
 core {p:Int} (hp:2<=p) {L:Nat} (ihL:∀ m,m<L->∀ (S:Nat) (ns:List Int),ns.length=m->ns.sum<=S->1<=m->KrOk p ns->CapsTo p m ns) {S0:Int} (ihS:∀ (ns:List Int),ns.length=L->ns.sum<=S0->1<=L->KrOk p ns->CapsTo p L ns) (S:Nat) (hS:(S:Int)<=S0+1) (ns:List Int) (h2:ns.length=L) (h3:ns.sum<=S) (hL1:1<=L) (hk:KrOk p ns):CapsTo p L ns:=by
  have hn0:∀ n∈ns,0<=n:=by obtain⟨M,h,_⟩:=hk;exact fun n hn=>(h n hn).1
  by_cases hL:L=1
  ·match ns,h2 with
   | [n],_=>
    have:=hn0 n Yal;refine⟨[0],⟨this,trivial⟩,fun l hl=>by rw[YaD.mp hl];(clear this h3 hL h2 hS hp;omega),0,fun l hl=>by rw[YaD.mp hl];exact⟨Ybd _,Ybd _⟩,by simp[kr]⟩
   | [],h2=>simp at h2;(clear h3 hL hS hp;omega)
   | _::_::_,h2=>simp at h2;(clear h3 hL1 hS hp;omega)
  obtain⟨ms,pm,hms,_⟩:=Zj8 (Yaj L 0) ns (by rw[YbQ,h2]) (YeP.mpr (Yde (Ybd _)));refine CapsTo.perm (ms:=ms) ?_ pm;have hkm:=hk.perm pm.symm;have hml:ms.length=L:=by rw[pm.length_eq];exact h2
  have hsum:ms.sum<=S:=by rw[Zco pm];exact h3
  obtain⟨N,hN,hNx⟩:=mxE ms (fun z=>by rw[z] at hml;simp at hml;(clear hsum hL h3 h2 hS hp;omega));have hN0:0<=N:=hn0 N (pm.subset hN);obtain⟨N,rfl⟩:∃ n:Nat,N=n:=⟨N.toNat,by (clear hsum hml hL hL1 h3 h2 hS hp;omega)⟩
  have hbn:∀ n∈ms,0<=n/\n<=N:=fun n hn=>⟨hn0 n (pm.subset hn),hNx n hn⟩
  by_cases hNL:N+1<=L
  ·exact⟨ms,leP.refl ms,fun l hl=>by have:=hbn l hl;(clear hN0 hsum hml hL hL1 h3 h2 hS hp;omega),hkm⟩
  have hK:=hkm.at hp hNx;have hsl:=ZnN hp (by (clear hK hNL hN0 hsum hml h3 h2 hS hp;omega)) hml hbn hN (by (clear hK hN0 hsum hml hL h3 h2 hS hp;omega)) hK;obtain⟨f1,f2,f3,_⟩:=Zbv hp (L:=L) (by (clear hsl hK hNL hN0 hsum hml h3 h2 hS hp;omega));by_cases hc:fmJ p L<=ms.count (N:Int)
  ·have hrep:=ZeX hms hNx hc;have hmm:ms=Yaj (fmJ p L) (N:Int)++ms.drop (fmJ p L):=by rw[<- hrep,YaH]
   have hkr:kr p N (((N:Int) - 1)::ms.drop (fmJ p L))=p+(kr p N ms - fmJ p L):=by
    have e1:kr p N (((N:Int) - 1)::ms.drop (fmJ p L))=p ^ (N - ((N:Int) - 1).toNat)+kr p N (ms.drop (fmJ p L)):=rfl;have e2:kr p N ms=fmJ p L+kr p N (ms.drop (fmJ p L)):=by
     conv=>lhs;rw[hmm]
     unfold kr;rw[Yau,Ybu,Yc9];congr 1;rw[YaS,YcT,Yea];exact huff_least.rep_one (p:=2) _
    rw[e1,e2,show N - ((N:Int) - 1).toNat=1 by (clear e2 e1 hc f3 f2 f1 hsl hK hN0 hsum hml hL h3 h2 hS hp;omega),YeB]
    (clear e2 e1 hc f3 f2 f1 hsl hK hNL hN0 hsum hml hL hL1 h3 h2 hS hp;omega)
   have hlen2:(((N:Int) - 1)::ms.drop (fmJ p L)).length=L - fmJ p L+1:=by rw[Yaz,Ybg,hml]
   obtain⟨ls,l1,l2,l3⟩:=ihL (L - fmJ p L+1) (by (clear hlen2 hkr hc f3 f2 hsl hK hNL hN0 hsum hml h3 h2 hS hp;omega)) ((((N:Int) - 1)::ms.drop (fmJ p L)).sum.toNat) _ hlen2 (Yd3 _) (by (clear hlen2 hkr hc f3 f2 f1 hsl hK hNL hN0 hsum hml hL hL1 h3 h2 hS hp;omega)) ⟨N,fun n hn=>by
    rcases YaC.mp hn with rfl | hn
    ·(clear hlen2 hkr hc f3 f2 f1 hsl hK hN0 hsum hml hL h3 h2 hS hp;omega)
    ·exact hbn n (Yba hn),by rw[hkr];(clear hlen2 hkr hc f3 f2 f1 hK hNL hN0 hsum hml hL hL1 h3 h2 hS hp;omega)⟩
   match ls,l1 with
   | [],l1=>exact l1.elim
   | l::ls,l1=>
    have b1:=l2 l Yal;have hK2:=l3.at hp (N:=L) (fun n hn=>by have:=l2 n hn;(clear b1 hlen2 hkr hc f3 f2 f1 hsl hK hNL hN0 hsum hml hL hL1 h3 h2 hS hp;omega));have e3:kr p L (l::ls)=p ^ (L - l.toNat)+kr p L ls:=rfl;have e4:kr p L (Yaj (fmJ p L) (l+1)++ls)=fmJ p L*p ^ (L - (l+1).toNat)+kr p L ls:=by
     unfold kr;rw[Yau,Ybu,Yc9];congr 1;generalize p ^ (L - (l+1).toNat)=z;have:∀ m:Nat,(Yaj m z).sum=m*z:=fun m=>by
      induction m with
      | zero=>simp
      | succ m ih=>rw[Ybn,Yas,ih,YcH,YbC];simp;(clear ih e3 hK2 b1 hlen2 hkr hc f3 f2 f1 hsl hK hNL hN0 hsum hml hL hL1 h3 h2 hS hp;omega)
     exact this _
    have e5:p ^ (L - l.toNat)=p*p ^ (L - (l+1).toNat):=by rw[show L - l.toNat=(L - (l+1).toNat)+1 by (clear e4 e3 hK2 hlen2 hkr hc f3 f2 hsl hK hNL hN0 hsum hml hL h3 h2 hS hp;omega),Ycl,Ycb]
    have e6:(fmJ p L:Int)*p ^ (L - (l+1).toNat)<=p*p ^ (L - (l+1).toNat):=YaE f3 (by have:=Za2 (p:=p) (by (clear e5 e4 e3 hK2 b1 hlen2 hkr hc f3 f2 f1 hsl hK hNL hN0 hsum hml hL hL1 h3 h2 hS;omega)) (L - (l+1).toNat);(clear e5 e4 e3 hK2 b1 hlen2 hkr hc f3 f2 f1 hsl hK hNL hN0 hsum hml hL hL1 h3 h2 hS hp;omega));refine⟨Yaj (fmJ p L) (l+1)++ls,?_,fun x hx=>?_,L,fun x hx=>?_,by rw[e4];(clear e4 b1 hlen2 hkr hc f3 f2 f1 hsl hK hNL hN0 hsum hml hL hL1 h3 h2 hS hp;omega)⟩
    ·have:=leP.app (leP.rep (show l+1<=(N:Int) by have:=l1.1;(clear this e6 e5 e4 e3 hK2 hlen2 hkr hc f3 f2 hsl hK hN0 hsum hml hL h3 h2 hS hp;omega)) (fmJ p L)) l1.2
     rwa [<- hmm] at this
    ·rcases Yam.mp hx with h | h
     ·rw[Ydh h]
      (clear e6 e5 e4 e3 hK2 hlen2 hkr hc f3 f2 hsl hK hNL hN0 hsum hml h3 h2 hS hp;omega)
     ·have:=l2 x (Yag _ h)
      (clear e6 e5 e4 e3 hK2 b1 hlen2 hkr hc f3 f2 hsl hK hNL hN0 hsum hml hL h3 h2 hS hp;omega)
    ·rcases Yam.mp hx with h | h
     ·rw[Ydh h]
      (clear e6 e5 e4 e3 hK2 hlen2 hkr hc f3 f2 hsl hK hNL hN0 hsum hml hL h3 h2 hS hp;omega)
     ·have:=l2 x (Yag _ h)
      (clear e6 e5 e4 e3 hK2 b1 hlen2 hkr hc f3 f2 f1 hsl hK hNL hN0 hsum hml hL hL1 h3 h2 hS hp;omega)
  ·have hsk:=hsl.2 hc
   match ms,hms,hml,hsum,hN,hNx,hbn,hsk with
   | [],_,hml,_,_,_,_,_=>simp at hml;(clear hc hsl hK hsk f3 f2 f1 hNL hN0 hsum hL h3 h2 hS hp;omega)
   | n::ms,hms,hml,hsum,hN,hNx,hbn,hsk=>
    have hnN:n=N:=by
     rcases YaC.mp hN with z | z
     ·exact z.symm
     ·have a:=(Ya3.mp hms).1 _ z;have b:=hNx n Yal
      (clear hc hsl hK hsk hsum hml f3 f2 f1 hNL hN0 hL hL1 h3 h2 hS hp;omega)
    subst hnN;have e1:kr p N ((N:Int)::ms)=1+kr p N ms:=by
     have:kr p N ((N:Int)::ms)=p ^ (N - ((N:Int)).toNat)+kr p N ms:=rfl;rw[this,YaS,YcT,Yea]
    have e2:kr p N (((N:Int) - 1)::ms)=p+kr p N ms:=by
     have:kr p N (((N:Int) - 1)::ms)=p ^ (N - ((N:Int) - 1).toNat)+kr p N ms:=rfl;rw[this,show N - ((N:Int) - 1).toNat=1 by (clear this e1 hc hsl hK hsk hsum hml f3 f2 f1 hN0 hL h3 h2 hS hp;omega),YeB]
    rw[Yas] at hsum;obtain⟨ls,l1,l2,l3⟩:=ihS (((N:Int) - 1)::ms) (by simpa using hml) (by rw[Yas];(clear e2 e1 hc hsl hK hsk hml f3 f2 f1 hNL hN0 hL hL1 h3 h2 hp;omega)) hL1 ⟨N,fun n hn=>by
     rcases YaC.mp hn with rfl | hn
     ·(clear e2 e1 hc hsl hK hsk hsum hml f3 f2 f1 hN0 hL h3 h2 hS hp;omega)
     ·exact hbn n (Yag _ hn),by rw[e2];(clear e2 hc hsl hK hsum hml f3 f2 f1 hNL hN0 hL hL1 h3 h2 hS hp;omega)⟩
    match ls,l1 with
    | [],l1=>exact l1.elim
    | l::ls,l1=>exact⟨l::ls,⟨by have:=l1.1;(clear e2 e1 hc hsl hK hsk hsum hml f3 f2 f1 hNL hN0 hL hL1 h3 h2 hS hp;omega),l1.2⟩,l2,l3⟩
end Lv
namespace Lv
open PySem L2
theorem KrOk.up {p:Int} (hp:2<=p) {ls ns:List Int} (h:KrOk p ls) (e:leP ls ns) (hn:∀ n∈ns,0<=n):KrOk p ns:=by
 obtain⟨M0,h1,h2⟩:=h;obtain⟨M,hM0,hM⟩:∃ M:Nat,M0<=M/\∀ n∈ns,n<=M:=by
  clear h1 h2 e
  induction ns with
  | nil=>exact⟨M0,Yak _,fun n h=>nomatch h⟩
  | cons x ns ih=>
   obtain⟨M,a,b⟩:=ih fun n h=>hn n (Yag _ h);refine⟨max M x.toNat,by (clear ih hp;omega),fun n h=>?_⟩;rcases YaC.mp h with rfl | h
   ·(clear a ih hp;omega)
   ·have:=b n h
    (clear a ih hp;omega)
 refine⟨M,fun n h=>⟨hn n h,hM n h⟩,?_⟩;have hk:=KrOk.at hp ⟨M0,h1,h2⟩ (N:=M) (fun n h=>by have:=h1 n h;(clear h2 hp;omega));refine Ycc ?_ hk;clear hk h2
 replace h1:∀ n∈ls,0<=n:=fun n h=>(h1 n h).1
 clear hM0
 induction ls generalizing ns with
 | nil=>
  match ns,e with
  | [],_=>exact Ybd _
 | cons l ls ih=>
  match ns,e with
  | n::ns,e=>
   have:=ih (ns:=ns) e.2 (fun n h=>hn n (Yag _ h)) (fun n h=>hM n (Yag _ h)) fun n h=>h1 n (Yag _ h);have a:kr p M (n::ns)=p ^ (M - n.toNat)+kr p M ns:=rfl;have b:kr p M (l::ls)=p ^ (M - l.toNat)+kr p M ls:=rfl;have c:p ^ (M - n.toNat)<=p ^ (M - l.toNat):=by
    have e1:=e.1;have:M - l.toNat=(M - n.toNat)+(n.toNat - l.toNat)+0:=by
     have:=hM n Yal;have:=h1 l Yal
     (clear this b a hp;omega)
    rw[this,Nat.add_zero,YeC];have h1:=Za2 (p:=p) (by (clear this e1 b a;omega)) (n.toNat - l.toNat);have h2:=Za2 (p:=p) (by (clear h1 this e1 b a;omega)) (M - n.toNat)
    calc p ^ (M - n.toNat)=p ^ (M - n.toNat)*1:=(Ycy _).symm
     _<=_:=YaX h1 (by (clear h1 this e1 b a hp;omega))
   (clear hp;omega)
theorem KrOk.sub {p:Int} (hp:2<=p) {a b:List Int} (h:KrOk p (a++b)):KrOk p a:=by
 obtain⟨M,h1,h2⟩:=h;refine⟨M,fun n hn=>h1 n (YaF _ hn),?_⟩;have e:kr p M (a++b)=kr p M a+kr p M b:=by unfold kr;rw[Yau,Ybu]
 have:0<=kr p M b:=by
  unfold kr;refine huff_least.sum_nn0 (p:=2) _ fun x hx=>?_;obtain⟨y,_,rfl⟩:=YaK.mp hx;have:=Za2 (p:=p) (by omega) (M - y.toNat);omega
 (clear hp;omega)
def krA (p:Int) (M:Nat) (mo:List Int) (t:Int):Int:=((YaG mo.length).map fun i=>if t<mo.getD i 0 then p ^ (M - (mo.getD i 0).toNat) else 0).sum
theorem Zg1 {p:Int}{M k:Nat}{mo:List Int} (hk:k<=M):krA p M mo ((M:Int) - k - 1)=krA p M mo ((M:Int) - k)+(Zau mo ((M:Int) - k)).length*p ^ k:=by
 unfold krA Zau;rw[Yaa,<- Yei];generalize YaG mo.length=xs
 induction xs with
 | nil=>simp
 | cons x xs ih=>
  rw[YaM,Yas,YaM,Yas,Ydr,ih];have key:(if (M:Int) - k - 1<mo.getD x 0 then p ^ (M - (mo.getD x 0).toNat) else 0)=(if (M:Int) - k<mo.getD x 0 then p ^ (M - (mo.getD x 0).toNat) else 0)+(if decide (mo.getD x 0=(M:Int) - k)=true then p ^ k else 0):=by
   simp only[decide_eq_true_eq];by_cases h1:(M:Int) - k<mo.getD x 0
   ·rw[if_pos (by (clear ih hk;omega)),if_pos h1,if_neg (by (clear ih hk;omega)),YdD]
   ·by_cases h2:mo.getD x 0=(M:Int) - k
    ·rw[if_pos (by (clear h1 ih hk;omega)),if_neg h1,if_pos h2,h2,Yck];congr 1
     (clear h2 h1 ih;omega)
    ·rw[if_neg (by (clear ih hk;omega)),if_neg h1,if_neg h2,YdD]
  have k2:(((if decide (mo.getD x 0=(M:Int) - k)=true then 1 else 0:Nat)):Int)*p ^ k=if decide (mo.getD x 0=(M:Int) - k)=true then p ^ k else 0:=by split <;> simp
  rw[key,YcH,YbC,k2]
  (clear k2 key ih hk;omega)
theorem ZgW {p:Nat} (mo:List Int) (k:Nat):(njTo p mo (k+1)).2.length=Zcq p ((njTo p mo k).2.length+(Zau mo ((mo.length:Int) - 1 - k)).length):=by
 have h:∀ (Ps:List (List Int)) (st:List (List Int) × List Int),(Ps.foldl (ZaA mo.length) st).2.length=st.2.length+Ps.length:=by
  intro Ps
  induction Ps with
  | nil=>intro st;simp
  | cons T Ps ih=>
   intro st;rw[YcD,ih,Yaz];unfold ZaA;split <;> simp <;> omega
 rw[njTo,Zmg,h];unfold Zbu;simp
theorem ZkI {p n:Nat} (hp:1<=p):(Zcq p n:Int)*p<n+p:=by
 unfold Zcq;split
 ·omega
 ·have h1:=Yfm (n - 1) p;have:(((n - 1) / p+1:Nat):Int)*p=((n - 1) / p*p:Nat)+p:=by
   rw[YcH,YbC,Int.natCast_mul];simp
  (clear hp;omega)
theorem ZgX {p:Nat} (hp:2<=p) {mo:List Int}{M:Nat} (hM:mo.length=M+1):∀ k:Nat,k<=M->((njTo p mo k).2.length:Int)*(p:Int) ^ k<krA p M mo ((M:Int) - k)+(p:Int) ^ k
 | 0,_=>by
  have:0<=krA p M mo ((M:Int) - (0:Nat)):=by
   unfold krA;refine huff_least.sum_nn0 (p:=2) _ fun x hx=>?_;obtain⟨y,_,rfl⟩:=YaK.mp hx;have:=Za2 (p:=(p:Int)) (by omega) (M - (mo.getD y 0).toNat);split <;> omega
  simp only[njTo,YcB];simp;simpa using (by (clear hM hp;omega):(0:Int)<krA p M mo ((M:Int) - (0:Nat))+1)
 | k+1,hk=>by
  have ih:=ZgX hp hM k (by (clear hM hp;omega));have hs:=Zg1 (p:=(p:Int)) (mo:=mo) (show k<=M by (clear ih hM hp;omega));have hl:=ZgW (p:=p) mo k;rw[show ((mo.length:Int) - 1 - k)=(M:Int) - k by (clear hl hs ih hk hp;omega)] at hl;rw[hl,show ((M:Int) - ((k+1:Nat):Int))=(M:Int) - k - 1 by (clear hl hs ih hk hM hp;omega),hs];have hn:=ZkI (p:=p) (n:=(njTo p mo k).2.length+(Zau mo ((M:Int) - k)).length) (by (clear hl hs ih hk hM;omega));generalize (njTo p mo k).2.length=c at *;generalize (Zau mo ((M:Int) - k)).length=r at *;generalize Zcq p (c+r)=z at *;have hpk:=Za2 (p:=(p:Int)) (by (clear hn hl hs ih hk hM;omega)) k;have h1:((z:Int)*p)<=c+r+p - 1:=by (clear hpk hl hs ih hk hM hp;omega)
  have h2:((z:Int)*p)*(p:Int) ^ k<=(c+r+p - 1)*(p:Int) ^ k:=YaE h1 (by (clear h1 hn hl hs ih hk hM hp;omega));have e1:(z:Int)*(p:Int) ^ (k+1)=((z:Int)*p)*(p:Int) ^ k:=by rw[Ycl,Ycb ((p:Int) ^ k),<- Int.mul_assoc]
  have e2:((c:Int)+r+p - 1)*(p:Int) ^ k=c*(p:Int) ^ k+r*(p:Int) ^ k+p*(p:Int) ^ k - (p:Int) ^ k:=by rw[Int.sub_mul,YbC,YbC,YdJ]
  have e3:(p:Int) ^ (k+1)=p*(p:Int) ^ k:=by rw[Ycl,Ycb]
  rw[e1,e3]
  (clear e3 e1 h1 hpk hn hl hs hk hM hp;omega)
theorem Zmm {p:Int}{M:Nat}{mo:List Int} (h0:∀ n∈mo,0<=n):krA p M mo (-1)=kr p M mo:=by
 unfold krA kr;congr 1;refine YbS (by simp) fun i h1 h2=>?_;have hi:i<mo.length:=by simpa using h2
 simp only[Yd7,List.getElem_range];rw[Yai,Yad hi,Yfk,if_pos (by have:=h0 _ (Ybq hi);(clear h2 h1;omega))]
theorem Zeh {L:Nat}:∀ {ls ns:List Int},leP ls ns->(∀ l∈ls,l+1<=(L:Int))->leP ls (ns.map fun n=>min n ((L:Int) - 1))
 | [],[],_,_=>trivial
 | [],_::_,h,_=>h.elim
 | _::_,[],h,_=>h.elim
 | l::ls,n::ns,h,hl=>⟨by have:=hl l Yal;have:=h.1;show l<=min n ((L:Int) - 1);omega,Zeh h.2 fun x hx=>hl x (Yag _ hx)⟩
theorem Zmf {p:Nat} (hp:2<=p) {ns:List Int} (h1:1<=ns.length) (hk:KrOk p ns):∃ L,nj p ns=some L:=by
 have hn0:∀ n∈ns,0<=n:=by obtain⟨M,h,_⟩:=hk;exact fun n hn=>(h n hn).1
 obtain⟨ls,a1,a2,a3⟩:=Zk3 (p:=(p:Int)) (by (clear h1;omega)) ns.length ns.sum.toNat ns rfl (Yd3 _) h1 hk;have hc0:∀ n∈ZaE ns,0<=n:=fun n hn=>by
  obtain⟨m,hm,rfl⟩:=YaK.mp hn;have:=hn0 m hm
  (clear hp;omega)
 have hc:=KrOk.up (p:=(p:Int)) (by (clear h1;omega)) a3 (ns:=ZaE ns) (Zeh a1 fun l hl=>(a2 l hl).2) hc0;obtain⟨M,hM⟩:∃ M,ns.length=M+1:=⟨ns.length - 1,by (clear hp;omega)⟩
 have hcl:=ZbX ns;have hcM:∀ n∈ZaE ns,n<=(M:Int):=fun n hn=>by
  obtain⟨m,hm,rfl⟩:=YaK.mp hn
  (clear hcl h1 hp;omega)
 have hkr:=KrOk.at (p:=(p:Int)) (by (clear hcl hM h1;omega)) hc hcM;have hct:=ZgX hp (mo:=ZaE ns) (M:=M) (by (clear hkr h1 hp;omega)) M (Yak _);have hst:=Zg1 (p:=(p:Int)) (mo:=ZaE ns) (Yak M);rw[show ((M:Int) - M - 1) = -1 by (clear hst hct hkr hcl hM h1 hp;omega),show ((M:Int) - M)=0 by (clear hst hct hkr hcl hM h1 hp;omega),Zmm hc0] at hst;rw[show ((M:Int) - M)=0 by (clear hst hct hkr hcl hM h1 hp;omega)] at hct;unfold nj;rw[if_neg (by rw[Yds];rintro⟨n,hn,z⟩;have:=hn0 n hn;have:=of_decide_eq_true z;(clear hst hct hkr hcl hM h1 hp;omega)),show ns.length - 1=M by (clear hst hct hkr hcl h1 hp;omega)];rw[if_pos ?_]
 ·exact⟨_,rfl⟩
 ·rw[Yaf];generalize (njTo p (ZaE ns) M).2.length=c at *;generalize (Zau (ZaE ns) 0).length=r at *;have hpM:=Za2 (p:=(p:Int)) (by (clear hst hct hkr hcl hM h1;omega)) M;refine Yeh fun z=>?_;have h2:2*(p:Int) ^ M<=((c:Int)+r)*(p:Int) ^ M:=YaE (by (clear hpM hst hct hkr hcl hM h1 hp;omega)) (by (clear z hst hct hkr hcl hM h1 hp;omega));rw[YbC] at h2
  (clear z hpM hcl hM h1 hp;omega)
theorem Zlv {p r:Nat} (hr:1<=r) {L:List (List Int)} (c:Chain p r ((YaG r).map fun (i:Nat)=>(i:Int)) L):KrOk p (dep r L):=by
 have hD:∀ i,i<r->fol r L i<=L.length:=fun i _=>Zjp _ _ _;obtain⟨h,_⟩:=Zjv hr c hD;refine⟨L.length,fun n hn=>?_,?_⟩
 ·unfold dep at hn;obtain⟨i,hi,rfl⟩:=YaK.mp hn;have:=hD i (Ya8.mp hi)
  (clear h hr;omega)
 ·have e:∀ n:Nat,powI p n=(p:Int) ^ n:=fun n=>by unfold powI;exact Int.natCast_pow p n
  unfold kr;rw[<- e];refine Ycc (Yeb ?_) h;congr 1
theorem Zg9 {p:Nat} (hp:2<=p) {ls ns:List Int} (hl:ns.length=ls.length) (h0:∀ l∈ls,0<=l) (hk:KrOk p ns):hf p ls<=dot ls ns :=
 huff_least (p:=(p:Int)) (by (clear hl;omega)) ls.length ns.sum.toNat ls ns rfl hl (Yd3 _) h0 hk
theorem Zmr {p:Nat} (hp:2<=p):∀ {ls:List Int},1<=ls.length->∃ ns,ns.length=ls.length/\KrOk p ns/\dot ls ns=hf p ls:=by
 intro ls h1;have go:∀ (k m:Nat) (n:Int) (ks:List (List Int)),ks.length<=k->(2<=ks.length->m=fmJ p ks.length)->∃ r L,JRun p m n ks r L:=by
  intro k
  induction k with
  | zero=>intro m n ks h _;exact⟨0,[],.done _ _ _ (by (clear h1 hp;omega))⟩
  | succ k ih=>
   intro m n ks h hm;by_cases z:ks.length<=1
   ·exact⟨0,[],.done _ _ _ z⟩
   ·obtain⟨f1,f2,_⟩:=Zbv (p:=(p:Int)) (by (clear z hm h h1;omega)) (show 2<=ks.length by (clear hm h h1 hp;omega));have hm:=hm (by (clear f2 f1 hm h h1 hp;omega));rw[<- hm] at f1 f2;have hsrt:∃ ks',ks'.Perm (ks.drop m++[[((ks.take m).map k0).sum,n]])/\upL ks':=by
     refine⟨(ks.drop m++[[((ks.take m).map k0).sum,n]]).mergeSort fun a b=>!lxB b a,Ybv _ _,?_⟩;have:=YbG (le:=fun a b=>!lxB b a) (fun a b c h1 h2=>by
      simp only[Yfy] at h1 h2 ⊢
      cases e:lxB c a with
      | false=>rfl
      | true=>
       rcases Zga c b a e with z | z
       ·rw[z] at h2;cases h2
       ·rw[z] at h1;cases h1) (fun a b=>by
      cases e:lxB b a with
      | false=>rfl
      | true=>
       cases e2:lxB a b with
       | false=>rfl
       | true=>have:=ZbG _ _ _ e e2;rw[ZbT] at this;cases this) (ks.drop m++[[((ks.take m).map k0).sum,n]])
     exact this.imp fun {a b} h=>by simpa using h
    obtain⟨ks',h1,h2⟩:=hsrt;have hl:ks'.length=ks.length - m+1:=by rw[h1.length_eq,Yaf,Ybg];rfl
    obtain⟨r,L,j⟩:=ih p (n+1) ks' (by (clear hm f2 hp;omega)) (fun z=>by
     have:=Zgg (p:=(p:Int)) (by (clear z hl hm f2 f1 h;omega)) (show 2<=ks.length by (clear z hl hm f2 f1 h hp;omega)) (by rw[<- hm];(clear hm f2 f1 h hp;omega));rw[<- hm,<- hl] at this
     (clear z hl hm f2 f1 h hp;omega))
    exact⟨_,_,.step m n ks ks' r (srt ((ks.take m).map k1)) L (by (clear hl hm f2 f1 h hp;omega)) (ZaT _) (ZdX _) h1 h2 j⟩
 obtain⟨ks,pm,up⟩:∃ ks,ks.Perm (prK ls)/\upL ks:=by
  refine⟨(prK ls).mergeSort fun a b=>!lxB b a,Ybv _ _,?_⟩;have:=YbG (le:=fun a b=>!lxB b a) (fun a b c h1 h2=>by
   simp only[Yfy] at h1 h2 ⊢
   cases e:lxB c a with
   | false=>rfl
   | true=>
    rcases Zga c b a e with z | z
    ·rw[z] at h2;cases h2
    ·rw[z] at h1;cases h1) (fun a b=>by
   cases e:lxB b a with
   | false=>rfl
   | true=>
    cases e2:lxB a b with
    | false=>rfl
    | true=>have:=ZbG _ _ _ e e2;rw[ZbT] at this;cases this) (prK ls)
  exact this.imp fun {a b} h=>by simpa using h
 have hl:ks.length=ls.length:=by rw[pm.length_eq,ZeI]
 obtain⟨r,L,j⟩:=go ks.length (fmJ p ls.length) ls.length ks (Yak _) (fun _=>by rw[hl]);obtain⟨a1,a2,a3,_⟩:=Joined.spec hp (ls:=ls) ⟨ks,pm,up,j⟩ h1;exact⟨dep ls.length L,Zgm _ _,Zlv h1 a2,by rw[<- a3,a1]⟩
theorem ZeW:∀ {a b ns:List Int},leP a b->ns.length=a.length->(∀ n∈ns,0<=n)->dot a ns<=dot b ns
 | [],[],_,_,_,_=>by simp[dot]
 | [],_::_,_,h,_,_=>h.elim
 | _::_,[],_,h,_,_=>h.elim
 | a::as,b::bs,[],_,h,_=>by simp at h
 | a::as,b::bs,n::ns,h,hl,hn=>by
  have ih:=ZeW (a:=as) (b:=bs) (ns:=ns) h.2 (by simpa using hl) fun m hm=>hn m (Yag _ hm);have:=YaE h.1 (hn n Yal);simp only[dot]
  (clear hl;omega)
theorem KrOk.nn {p:Int}{ns:List Int} (h:KrOk p ns):∀ n∈ns,0<=n:=by obtain⟨M,h,_⟩:=h;exact fun n hn=>(h n hn).1
theorem Zmq {p:Nat} (hp:2<=p) {a b:List Int} (h1:1<=a.length) (h:leP a b) (h0:∀ l∈a,0<=l):hf p a<=hf p b:=by
 have hl:=h.len;obtain⟨ns,n1,n2,n3⟩:=Zmr hp (ls:=b) (by (clear hp;omega));rw[<- n3];exact Ycc (Zg9 hp (by (clear n3 h1 hp;omega)) h0 n2) (ZeW h (by (clear n3 h1 hp;omega)) n2.nn)
end Lv
namespace Lv
open PySem L2
def InB (n:Int) (xs:List Int):Prop:=xs.Nodup/\∀ x∈xs,0<=x/\x<n
theorem InB.perm {n:Int}{a b:List Int} (h:InB n a) (e:a.Perm b):InB n b:=⟨e.nodup_iff.mp h.1,fun x hx=>h.2 x (e.mem_iff.mpr hx)⟩
theorem InB.snoc {n:Int}{a:List Int} (h:InB n a) (h0:0<=n):InB (n+1) (a++[n]):=⟨YbD.mpr ⟨h.1,by simp,fun x hx y hy=>by
  have:=(h.2 x hx).2
  rw[YaD.mp hy]
  (clear h0;omega)⟩,fun x hx=>by
  rcases Yam.mp hx with hx | hx
  ·have:=h.2 x hx;(clear h0;omega)
  ·rw[YaD.mp hx];omega⟩
theorem ZcO (th T F low:List Int):(th++(T++F)++low).Perm (T++(th++F++low)):=by
 rw[<- Yav th T F,Yav,Yav,Yav];exact List.perm_append_comm_assoc th T (F++low)
theorem Zb7 (th F low:List Int) (n:Int):(th++[n]++F++low).Perm (th++F++low++[n]):=by
 rw[Yav,Yav,Yav,Yav];refine YbK th ?_;rw[<- Yav F low [n]];exact YcO (l₁:=[n])
theorem ZcP {p R:Nat} (hp:1<=p) {d:Int}{low:List (Int × Int)}{Lf:List (List Int)}:∀ (Ps:List (List Int)) (lg:List (List Int)) (th:List Int),(∀ T∈Ps,1<=T.length/\T.length<=p)->InB (R+lg.length:Nat) (th++Ps.flatten++low.map (·.1)) ->
  Chain p (R+(Ps.foldl (ZaA R) (lg,th)).1.length:Nat) ((Ps.foldl (ZaA R) (lg,th)).2++low.map (·.1)) Lf ->
  (∀ x∈(Ps.foldl (ZaA R) (lg,th)).2,(fol (R+(Ps.foldl (ZaA R) (lg,th)).1.length:Nat) Lf x:Int)<=d)->(∀ q∈low,(fol (R+(Ps.foldl (ZaA R) (lg,th)).1.length:Nat) Lf q.1:Int)<=q.2) ->
  ∃ new,(Ps.foldl (ZaA R) (lg,th)).1=lg++new/\(∀ T∈new,2<=T.length/\T.Pairwise (·<=·)) /\
   Chain p (R+lg.length:Nat) (th++Ps.flatten++low.map (·.1)) (new++Lf)/\(∀ x∈th,(fol (R+lg.length:Nat) (new++Lf) x:Int)<=d)/\(∀ x∈Ps.flatten,(fol (R+lg.length:Nat) (new++Lf) x:Int)<=d+1)/\∀ q∈low,(fol (R+lg.length:Nat) (new++Lf) q.1:Int)<=q.2
 | [],lg,th,_,hB,hc,hf,hg=>by
  rw[YfE,Ybb] at hB ⊢;exact⟨[],(Ybb _).symm,(fun T h=>nomatch h),hc,hf,(fun x h=>nomatch h),hg⟩
 | T::Ps,lg,th,hT,hB,hc,hf,hg=>by
  rw[YcD] at hc hf hg ⊢;obtain⟨t1,t2⟩:=hT T Yal;rw[YaR] at hB ⊢;by_cases h1:1<T.length
  ·have e1:ZaA R (lg,th) T=(lg++[srt T],th++[((R+lg.length:Nat):Int)]):=by
    unfold ZaA;rw[if_pos h1]
   rw[e1] at hc hf hg ⊢;have hlen:((R+(lg++[srt T]).length:Nat):Int)=((R+lg.length:Nat):Int)+1:=by simp;(clear h1 t2 t1 hp;omega)
   have hB1:=hB.perm (ZcO th T Ps.flatten (low.map (·.1)));have hd:=(YbD.mp hB1.1).2.2
   have hBr:InB (R+lg.length:Nat) (th++Ps.flatten++low.map (·.1)):=⟨(YbD.mp hB1.1).2.1,fun x hx=>hB1.2 x (Yao _ hx)⟩
   have hB2:=(hBr.snoc (by (clear hlen h1 t2 t1 hp;omega))).perm (Zb7 th Ps.flatten (low.map (·.1)) ((R+lg.length:Nat):Int)).symm;rw[<- hlen] at hB2;obtain⟨new,i1,i2,i4,i5,i6,i7⟩:=ZcP hp Ps (lg++[srt T]) (th++[((R+lg.length:Nat):Int)]) (fun T h=>hT T (Yag _ h)) hB2 hc hf hg;rw[hlen] at i4 i5 i6 i7;have hn:=i5 _ (Yao _ Yal);have em:∀ x,x∈srt T↔x∈T:=fun x=>(ZaT T).mem_iff;have off:∀ x,x∈th++Ps.flatten++low.map (·.1)->x ∉ srt T:=fun x hx hx'=>hd x ((em x).mp hx') x hx rfl;refine⟨srt T::new,by rw[i1];simp,?_,?_,fun x hx=>?_,fun x hx=>?_,fun q hq=>?_⟩
   ·intro S hS;rcases YaC.mp hS with rfl | hS
    ·exact⟨by rw[(ZaT T).length_eq];(clear hn hlen t2 t1 hp;omega),ZdX T⟩
    ·exact i2 S hS
   ·rw[Ybx];refine Chain.step _ _ (srt T) (th++Ps.flatten++low.map (·.1)) _ ((ZcO th T Ps.flatten (low.map (·.1))).trans ((ZaT T).symm.append_right _)) (fun z=>by have:=(ZaT T).length_eq;rw[z] at this;simp at this;(clear hn hlen h1 t2 hp;omega)) (by rw[(ZaT T).length_eq];exact t2) (i4.perm (Zb7 _ _ _ _))
   ·rw[Ybx,fol,if_neg (off x (YaF _ (YaF _ hx)))];exact i5 x (YaF _ hx)
   ·rw[Ybx,fol];rcases Yam.mp hx with hx | hx
    ·rw[if_pos ((em x).mpr hx)]
     (clear hlen h1 t2 t1 hp;omega)
    ·rw[if_neg (off x (YaF _ (Yao _ hx)))];exact i6 x hx
   ·rw[Ybx,fol,if_neg (off q.1 (Yao _ (Yc2 hq)))];exact i7 q hq
  ·obtain⟨y,rfl⟩:∃ y,T=[y]:=Ydt.mp (by (clear t2 hp;omega));have e1:ZaA R (lg,th) [y]=(lg,th++[y]):=rfl;rw[e1] at hc hf hg ⊢;rw[show th++([y]++Ps.flatten)=th++[y]++Ps.flatten by simp] at hB ⊢;obtain⟨new,i1,i2,i4,i5,i6,i7⟩:=ZcP hp Ps lg (th++[y]) (fun T h=>hT T (Yag _ h)) hB hc hf hg;refine⟨new,i1,i2,i4,fun x hx=>i5 x (YaF _ hx),fun x hx=>?_,i7⟩;rcases Yam.mp hx with hx | hx
   ·have:=i5 x (Yao _ hx)
    (clear h1 t2 t1 hp;omega)
   ·exact i6 x hx
theorem ZeN {R:Nat}{low:List Int}:∀ (Ps:List (List Int)) (lg:List (List Int)) (th:List Int),(∀ T∈Ps,1<=T.length)->InB (R+lg.length:Nat) (th++Ps.flatten++low)->InB (R+(Ps.foldl (ZaA R) (lg,th)).1.length:Nat) ((Ps.foldl (ZaA R) (lg,th)).2++low)
 | [],lg,th,_,hB=>by rw[YfE,Ybb] at hB;exact hB
 | T::Ps,lg,th,hT,hB=>by
  rw[YcD];have t1:=hT T Yal;rw[YaR] at hB;by_cases h1:1<T.length
  ·have e1:ZaA R (lg,th) T=(lg++[srt T],th++[((R+lg.length:Nat):Int)]):=by
    unfold ZaA;rw[if_pos h1]
   rw[e1];have hlen:((R+(lg++[srt T]).length:Nat):Int)=((R+lg.length:Nat):Int)+1:=by simp;(clear h1 t1;omega)
   have hB1:=hB.perm (ZcO th T Ps.flatten low);have hBr:InB (R+lg.length:Nat) (th++Ps.flatten++low):=⟨(YbD.mp hB1.1).2.1,fun x hx=>hB1.2 x (Yao _ hx)⟩
   have hB2:=(hBr.snoc (by (clear hlen h1 t1;omega))).perm (Zb7 th Ps.flatten low ((R+lg.length:Nat):Int)).symm;rw[<- hlen] at hB2;exact ZeN Ps _ _ (fun T h=>hT T (Yag _ h)) hB2
  ·obtain⟨y,rfl⟩:∃ y,T=[y]:=Ydt.mp (by omega);rw[show ZaA R (lg,th) [y]=(lg,th++[y]) from rfl];refine ZeN Ps _ _ (fun T h=>hT T (Yag _ h)) ?_
   rwa [show th++([y]++Ps.flatten)=th++[y]++Ps.flatten by simp] at hB
def lowR (mo:List Int) (t:Int):List (Int × Int):=((YaG mo.length).filter fun i=>decide (mo.getD i 0<=t)).map fun (i:Nat)=>((i:Int),mo.getD i 0)
theorem Zdy (mo:List Int) (t:Int):((lowR mo t).map (·.1)).Perm (Zau mo t++(lowR mo (t - 1)).map (·.1)):=by
 unfold lowR Zau;rw[Yb3,Yb3];show (Yfq (fun (i:Nat)=>(i:Int)) _).Perm (Yfq (fun (i:Nat)=>(i:Int)) _++Yfq (fun (i:Nat)=>(i:Int)) _);rw[<- Yau];refine List.Perm.map (fun (i:Nat)=>(i:Int)) ?_;generalize YaG mo.length=is
 induction is with
 | nil=>exact Yb8 _
 | cons i is ih=>
  rw[Yd8,Yd8,Yd8];by_cases h1:mo.getD i 0=t
  ·rw[if_pos (decide_eq_true (by omega)),if_pos (decide_eq_true h1),if_neg (by rw[decide_eq_false (by omega)];exact YaJ)];exact ih.cons i
  ·by_cases h2:mo.getD i 0<=t
   ·rw[if_pos (decide_eq_true h2),if_neg (by rw[decide_eq_false h1];exact YaJ),if_pos (decide_eq_true (by omega))];exact (ih.cons i).trans Ydp.symm
   ·rw[if_neg (by rw[decide_eq_false h2];exact YaJ),if_neg (by rw[decide_eq_false h1];exact YaJ),if_neg (by rw[decide_eq_false (by (clear h1;omega))];exact YaJ)];exact ih
theorem ZeP {mo:List Int}{t:Int} (h:∀ n∈mo,n<=t):lowR mo t=(YaG mo.length).map fun (i:Nat)=>((i:Int),mo.getD i 0):=by
 unfold lowR;rw[List.filter_eq_self.mpr];intro i hi;have hi:=Ya8.mp hi;refine decide_eq_true (h _ ?_);rw[Yai,Yad hi];exact Ybq hi
theorem Zmi {mo:List Int}{t:Int}{q:Int × Int} (h:q∈lowR mo t):(q.1∈Zau mo t/\q.2=t)∨q∈lowR mo (t - 1):=by
 unfold lowR at h ⊢;obtain⟨i,hi,e⟩:=YaK.mp h;obtain⟨h1,h2⟩:=Ycz.mp hi;have h2:=of_decide_eq_true h2;by_cases h3:mo.getD i 0=t
 ·refine .inl ⟨?_,by rw[<- e];exact h3⟩;unfold Zau;exact YaK.mpr ⟨i,Ycz.mpr ⟨h1,decide_eq_true h3⟩,by rw[<- e]⟩
 ·exact .inr (YaK.mpr ⟨i,Ycz.mpr ⟨h1,decide_eq_true (by omega)⟩,e⟩)
def ZbZ (p:Nat) (mo:List Int) (k:Nat):List Int:=(njTo p mo k).2++(lowR mo ((mo.length:Int) - 1 - k)).map (·.1)
theorem Zln {p:Nat} (hp:1<=p) {mo:List Int}{k:Nat} (h:InB (mo.length+(njTo p mo k).1.length:Nat) (ZbZ p mo k)):InB (mo.length+(njTo p mo k).1.length:Nat) ([]++(Zbu p ((njTo p mo k).2++Zau mo ((mo.length:Int) - 1 - k))).flatten++(lowR mo ((mo.length:Int) - 1 - (k+1:Nat))).map (·.1)):=by
 rw[ZbR hp,Yb6];have:=Zdy mo ((mo.length:Int) - 1 - k);rw[show (mo.length:Int) - 1 - k - 1=(mo.length:Int) - 1 - (k+1:Nat) by (clear hp;omega)] at this;refine h.perm ?_;unfold ZbZ;rw[Yav];exact this.append_left _
theorem Zhk {p:Nat} (hp:1<=p) {mo:List Int} (hm:∀ n∈mo,n<=(mo.length:Int) - 1):∀ k,InB (mo.length+(njTo p mo k).1.length:Nat) (ZbZ p mo k)
 | 0=>by
  unfold ZbZ;rw[show (mo.length:Int) - 1 - (0:Nat)=(mo.length:Int) - 1 by (clear hp;omega),ZeP hm,Yb3];show InB ((mo.length+0:Nat):Int) ([]++_);rw[Yb6];refine⟨ZgH mo.length,fun x hx=>?_⟩;obtain⟨i,hi,rfl⟩:=YaK.mp hx;have:=Ya8.mp hi;show 0<=((i:Nat):Int)/\((i:Nat):Int)<_
  (clear hp;omega)
 | k+1=>by
  have:=Zln hp (Zhk hp hm k);exact ZeN _ _ _ (fun T h=>(Zde hp h).1) this
theorem ZiT {p:Nat} (hp:1<=p) {mo:List Int} (hm:∀ n∈mo,n<=(mo.length:Int) - 1) {L:List (List Int)}{k:Nat} :
  Chain p (mo.length+(njTo p mo (k+1)).1.length:Nat) (ZbZ p mo (k+1)) L->(∀ x∈(njTo p mo (k+1)).2,(fol (mo.length+(njTo p mo (k+1)).1.length:Nat) L x:Int)<=(mo.length:Int) - 1 - (k+1:Nat))->(∀ q∈lowR mo ((mo.length:Int) - 1 - (k+1:Nat)),(fol (mo.length+(njTo p mo (k+1)).1.length:Nat) L q.1:Int)<=q.2) ->
  ∃ new,(njTo p mo (k+1)).1=(njTo p mo k).1++new/\(∀ T∈new,2<=T.length/\T.Pairwise (·<=·))/\Chain p (mo.length+(njTo p mo k).1.length:Nat) (ZbZ p mo k) (new++L)/\(∀ x∈(njTo p mo k).2,(fol (mo.length+(njTo p mo k).1.length:Nat) (new++L) x:Int)<=(mo.length:Int) - 1 - k)/\(∀ q∈lowR mo ((mo.length:Int) - 1 - k),(fol (mo.length+(njTo p mo k).1.length:Nat) (new++L) q.1:Int)<=q.2):=by
 intro hc hf hg;have hB:=Zln hp (Zhk hp hm k);obtain⟨new,i1,i2,i4,i5,i6,i7⟩:=ZcP hp (R:=mo.length) (d:=(mo.length:Int) - 1 - (k+1:Nat)) (low:=lowR mo ((mo.length:Int) - 1 - (k+1:Nat))) (Lf:=L) (Zbu p ((njTo p mo k).2++Zau mo ((mo.length:Int) - 1 - k))) (njTo p mo k).1 [] (fun T h=>Zde hp h) hB hc hf hg;rw[ZbR hp] at i4 i6;refine⟨new,i1,i2,i4.perm ?_,fun x hx=>?_,fun q hq=>?_⟩
 ·have:=Zdy mo ((mo.length:Int) - 1 - k);rw[show (mo.length:Int) - 1 - k - 1=(mo.length:Int) - 1 - (k+1:Nat) by (clear hp;omega)] at this;unfold ZbZ;rw[Yb6,Yav];exact (this.append_left _).symm
 ·have:=i6 x (YaF _ hx)
  (clear hp;omega)
 ·rcases Zmi hq with ⟨h1,h2⟩ | h
  ·have:=i6 q.1 (Yao _ h1)
   (clear hp;omega)
  ·rw[show (mo.length:Int) - 1 - k - 1=(mo.length:Int) - 1 - (k+1:Nat) by (clear hp;omega)] at h;exact i7 q h
theorem ZgY {p:Nat} (hp:1<=p) {mo:List Int} (hm:∀ n∈mo,n<=(mo.length:Int) - 1):∀ (k:Nat) (L:List (List Int)),
  Chain p (mo.length+(njTo p mo k).1.length:Nat) (ZbZ p mo k) L->(∀ x∈(njTo p mo k).2,(fol (mo.length+(njTo p mo k).1.length:Nat) L x:Int)<=(mo.length:Int) - 1 - k)->(∀ q∈lowR mo ((mo.length:Int) - 1 - k),(fol (mo.length+(njTo p mo k).1.length:Nat) L q.1:Int)<=q.2) ->
  Chain p mo.length ((YaG mo.length).map fun (i:Nat)=>(i:Int)) ((njTo p mo k).1++L)/\(∀ T∈(njTo p mo k).1,2<=T.length/\T.Pairwise (·<=·))/\∀ i:Nat,i<mo.length->(fol mo.length ((njTo p mo k).1++L) i:Int)<=mo.getD i 0
 | 0,L,hc,_,hg=>by
  unfold ZbZ at hc;rw[show (mo.length:Int) - 1 - (0:Nat)=(mo.length:Int) - 1 by (clear hp;omega),ZeP hm] at hc hg;rw[Yb3] at hc;refine⟨hc,(fun T h=>nomatch h),fun i hi=>hg ((i:Int),mo.getD i 0) (YaK.mpr ⟨i,Ya8.mpr hi,rfl⟩)⟩
 | k+1,L,hc,hf,hg=>by
  obtain⟨new,i1,i2,i4,i5,i6⟩:=ZiT hp hm hc hf hg;obtain⟨j1,j2,j3⟩:=ZgY hp hm k (new++L) i4 i5 i6;rw[i1,Yav];refine⟨j1,fun T h=>?_,j3⟩;rcases Yam.mp h with h | h
  ·exact j2 T h
  ·exact i2 T h
theorem Zhj {p:Nat} (hp:1<=p) {mo:List Int} (hm:∀ n∈mo,n<=(mo.length:Int) - 1) (h1:1<=mo.length):∀ k,ZbZ p mo k≠[]
 | 0=>by
  unfold ZbZ;rw[show (mo.length:Int) - 1 - (0:Nat)=(mo.length:Int) - 1 by (clear h1 hp;omega),ZeP hm];intro z;have:=congrArg Ydl z;rw[Yaf,Yaa,Yaa,YbX,show (njTo p mo 0).2=[] from rfl] at this;simp only[YcB] at this
  (clear hp;omega)
 | k+1=>by
  intro z;unfold ZbZ at z;obtain⟨z1,z2⟩:=List.append_eq_nil_iff.mp z;refine Zhj hp hm h1 k ?_;have hlen:=ZgW (p:=p) mo k;rw[z1] at hlen;have h0:(njTo p mo k).2.length+(Zau mo ((mo.length:Int) - 1 - k)).length=0:=by
   unfold Zcq at hlen;split at hlen
   ·assumption
   ·simp at hlen
  have a:=YbH.mp (show (njTo p mo k).2.length=0 by (clear hlen h1 hp;omega));have b:=YbH.mp (show (Zau mo ((mo.length:Int) - 1 - k)).length=0 by (clear hlen h1 hp;omega));have c:=Zdy mo ((mo.length:Int) - 1 - k);rw[show (mo.length:Int) - 1 - k - 1=(mo.length:Int) - 1 - (k+1:Nat) by (clear h0 hlen h1 hp;omega),z2,b] at c;unfold ZbZ;rw[a,List.perm_nil.mp c];rfl
theorem Zme {p:Nat} (hp:2<=p) {ns:List Int} (h1:1<=ns.length) {L:List (List Int)} (h:nj p ns=some L):(∀ n∈ns,0<=n) /\
  Chain p ns.length ((YaG ns.length).map fun (i:Nat)=>(i:Int)) L/\(∀ T∈L,2<=T.length/\T.Pairwise (·<=·))/\∀ i:Nat,i<ns.length->(fol ns.length L i:Int)<=ns.getD i 0:=by
 unfold nj at h;split at h
 ·cases h
 rename_i hany;split at h
 ·rename_i hleft;cases h;have hn0:∀ n∈ns,0<=n:=fun n hn=>by
   by_cases z:n<0
   ·exact absurd (Yds.mpr ⟨n,hn,decide_eq_true z⟩) hany
   ·(clear hleft hany h1 hp;omega)
  have hcl:=ZbX ns;have hm:∀ n∈ZaE ns,n<=((ZaE ns).length:Int) - 1:=fun n hn=>by
   obtain⟨m,_,rfl⟩:=YaK.mp hn;rw[hcl]
   (clear hcl hleft hany h1 hp;omega)
  have hc0:∀ n∈ZaE ns,0<=n:=fun n hn=>by
   obtain⟨m,hm,rfl⟩:=YaK.mp hn;have:=hn0 m hm
   (clear hcl hleft hany hp;omega)
  have e0:((ZaE ns).length:Int) - 1 - (ns.length - 1:Nat)=0:=by (clear hleft hany hp;omega)
  have elow:(lowR (ZaE ns) 0).map (·.1)=Zau (ZaE ns) 0:=by
   unfold lowR Zau;rw[Yb3];refine congrArg _ (List.filter_congr fun i hi=>?_);have hi:=Ya8.mp hi;have:0<=(ZaE ns).getD i 0:=hc0 _ (by rw[Yai,Yad hi];exact Ybq hi);exact decide_eq_decide.mpr (by (clear hi e0 hcl hleft hany h1 hp;omega))
  have hall:ZbZ p (ZaE ns) (ns.length - 1)=(njTo p (ZaE ns) (ns.length - 1)).2++Zau (ZaE ns) 0:=by
   unfold ZbZ;rw[e0,elow]
  have hone:∃ x,ZbZ p (ZaE ns) (ns.length - 1)=[x]:=by
   rw[hall];refine Ydt.mp ?_;have hne:=Zhj (p:=p) (by (clear e0 hcl hleft hany h1;omega)) hm (by (clear e0 hleft hany hp;omega)) (ns.length - 1);rw[hall] at hne;have:=List.length_pos_iff.mpr hne
   (clear e0 hcl hany h1 hp;omega)
  obtain⟨x,hx⟩:=hone;have:=ZgY (p:=p) (by (clear e0 hcl hleft hany h1;omega)) hm (ns.length - 1) [] (by rw[hx];exact .one _ _) (fun y _=>by rw[e0];simp[fol]) (fun q hq=>by
   rw[e0] at hq;unfold lowR at hq;obtain⟨i,hi,rfl⟩:=YaK.mp hq;have:=Ya8.mp (Ycz.mp hi).1;have:0<=(ZaE ns).getD i 0:=hc0 _ (by rw[Yai,Yad this];exact Ybq this);simpa[fol] using this)
  rw[Ybb,hcl] at this;refine⟨hn0,this.1,this.2.1,fun i hi=>Ycc (this.2.2 i hi) ?_⟩;unfold ZaE;rw[Yai,Yai,Yat,Yad hi];show min _ _<=_;exact Int.min_le_left _ _
 ·cases h
end Lv
namespace Lv
open PySem L2
theorem ZdD (b:Int):∀ ls ns:List Int,dot (ls.map (·*b)) ns=dot ls ns*b
 | [],_=>by simp[dot]
 | _::_,[]=>by simp[dot]
 | l::ls,n::ns=>by rw[YaM,dot,dot,ZdD b ls ns,YbC,Int.mul_right_comm]
theorem ZkS {p:Nat} (hp:2<=p) {ls:List Int} (h1:1<=ls.length) (h0:∀ l∈ls,0<=l) {b:Int} (hb:0<=b):hf p (ls.map (·*b))=hf p ls*b:=by
 have h0':∀ l∈ls.map (·*b),0<=l:=fun l hl=>by
  obtain⟨x,hx,rfl⟩:=YaK.mp hl;exact YbY (h0 x hx) hb
 obtain⟨ns,a1,a2,a3⟩:=Zmr hp (ls:=ls) h1;obtain⟨ms,b1,b2,b3⟩:=Zmr hp (ls:=ls.map (·*b)) (by rw[Yaa];exact h1);have u1:=Zg9 hp (ls:=ls.map (·*b)) (ns:=ns) (by rw[Yaa];exact a1) h0' a2;have u2:=Zg9 hp (ls:=ls) (ns:=ms) (by rw[b1,Yaa]) h0 b2;rw[ZdD] at u1 b3;rw[a3] at u1;have:hf p ls*b<=dot ls ms*b:=YaE u2 hb
 (clear u2 b1 a3 a1 hb h1 hp;omega)
theorem leP.tr:∀ {a b c:List Int},leP a b->leP b c->leP a c
 | [],[],[],_,_=>trivial
 | [],[],_::_,_,h=>h.elim
 | [],_::_,_,h,_=>h.elim
 | _::_,[],_,h,_=>h.elim
 | _::_,_::_,[],_,h=>h.elim
 | _::_,_::_,_::_,h,g=>⟨Ycc h.1 g.1,leP.tr h.2 g.2⟩
theorem ZgA:∀ (n:Nat) (z:Int) (Z:List Int),(z::Z).Pairwise (·<=·)->n<=Z.length->leP ((z::Z).take n) (Z.take n)
 | 0,_,_,_,_=>trivial
 | n+1,z,[],_,h=>by simp at h
 | n+1,z,y::Z,hs,h=>by
  have h1:=Ya3.mp hs;exact⟨h1.1 y Yal,ZgA n y Z h1.2 (by simpa using h)⟩
theorem ZlD {A Z:List Int} (s:List.Sublist A Z):Z.Pairwise (·<=·)->leP (Z.take A.length) A:=by
 induction s with
 | slnil=>intro _;trivial
 | cons z s ih=>
  intro hs;exact leP.tr (ZgA _ z _ hs s.length_le) (ih (Ya3.mp hs).2)
 | cons_cons z s ih=>
  intro hs;exact⟨Ybd _,ih (Ya3.mp hs).2⟩
theorem Zjd (l:List Int):(isrt l).Pairwise (·<=·):=by
 refine (YbG (fun a b c h1 h2=>?_) (fun a b=>?_) l).imp fun h=>of_decide_eq_true h
 ·have:=of_decide_eq_true h1;have:=of_decide_eq_true h2;exact decide_eq_true (by omega)
 ·by_cases h:a<=b
  ·simp[h]
  ·simp;(clear h;omega)
theorem ZlG {A rest Z:List Int} (h:(A++rest).Perm Z) (hA:A.Pairwise (·<=·)):leP ((isrt Z).take A.length) A:=by
 have hs:List.Sublist A (isrt (A++rest)):=List.sublist_mergeSort (fun a b c h1 h2=>by
  have:=of_decide_eq_true h1;have:=of_decide_eq_true h2;exact decide_eq_true (by omega)) (fun a b=>by
  by_cases h:a<=b
  ·simp[h]
  ·simp;(clear h;omega)) (hA.imp fun h=>decide_eq_true h) (List.sublist_append_left A rest)
 have e:isrt (A++rest)=isrt Z:=Zje ((Ybv _ _).trans h) (Zjd _);rw[e] at hs;exact ZlD hs (Zjd Z)
theorem Zc9:∀ (a b:List Int),(Yb2 (·*·) a b).sum=dot b a
 | [],b=>by cases b <;> simp[dot]
 | _::_,[]=>by simp[dot]
 | x::a,y::b=>by rw[List.zipWith_cons_cons,Yas,Zc9 a b,dot,Ycb]
theorem Zhe:∀ (ls Z:List Int),dot ls (Z.take ls.length)=dot ls Z
 | [],Z=>by simp[dot]
 | _::_,[]=>by simp[dot]
 | l::ls,z::Z=>by rw[Yaz,Yfe,dot,dot,Zhe ls Z]
theorem Ziq (ls:List Int) (N:List (List Int)):rdF ls N=dot (Zcu ls) ((isrt N.flatten).take ls.length):=by
 unfold rdF;have:(Zcu ls).length=ls.length:=(Ybv _ _).length_eq;rw[Zc9,<- this,Zhe]
theorem Zgk:∀ {ls a b:List Int},leP a b->(∀ l∈ls,0<=l)->dot ls a<=dot ls b
 | [],a,b,_,_=>by simp[dot]
 | _::_,[],[],_,_=>by simp[dot]
 | _::_,[],_::_,h,_=>h.elim
 | _::_,_::_,[],h,_=>h.elim
 | l::ls,x::a,y::b,h,h0=>by
  have:=Zgk (ls:=ls) h.2 fun l hl=>h0 l (Yag _ hl);have:=YaX h.1 (h0 l Yal);rw[dot,dot];omega
theorem Zlu:∀ {a b:List Int},a.length=b.length->dot a.reverse b.reverse=dot a b
 | [],[],_=>rfl
 | [],_::_,h=>by simp at h
 | _::_,[],h=>by simp at h
 | x::a,y::b,h=>by
  have hl:a.length=b.length:=by simpa using h
  rw[YbW,YbW,Zgl (by rw[YbM,YbM,hl]),Zlu hl,dot];simp[dot]
  (clear hl h;omega)
theorem Zmv {a b:List Int} (h:b.length=a.length):dot a.reverse b=dot a b.reverse:=by
 have:=Zlu (a:=a) (b:=b.reverse) (by rw[YbM,h])
 rwa [List.reverse_reverse] at this
theorem ZgG {ls ns rest:List Int}{N:List (List Int)} (hl:ns.length=ls.length) (h0:∀ l∈ls,0<=l) (h:(ns++rest).Perm N.flatten):rdF ls N<=dot ls ns:=by
 have hpr:(Zcu ls).Perm ls:=Ybv _ _;have hup:(Zcu ls).reverse.Pairwise (·<=·):=by
  rw[Ydx];refine (YbG (fun a b c h1 h2=>?_) (fun a b=>?_) ls).imp fun h=>of_decide_eq_true h
  ·have:=of_decide_eq_true h1;have:=of_decide_eq_true h2;exact decide_eq_true (by (clear hl;omega))
  ·by_cases h:b<=a
   ·simp[h]
   ·simp;(clear h hl;omega)
 obtain⟨ks,k1,k2⟩:=ZeJ (((Ydg _).trans hpr).symm) hl;obtain⟨ms,m1,m2,m3⟩:=Zj8 (Zcu ls).reverse ks (by rw[(Ydg _).length_eq,hpr.length_eq,k1.length_eq,hl]) hup;have hms:(ms.reverse).Perm ns:=((Ydg _).trans m1).trans k1;have hms2:ms.reverse.Pairwise (·<=·):=by
  rw[Ydx];exact m2
 have hsel:=ZlG ((hms.append_right rest).trans h) hms2;rw[hms.length_eq,hl] at hsel;have e:dot (Zcu ls).reverse ms=dot (Zcu ls) ms.reverse:=by
  have hlen:ms.length=(Zcu ls).length:=by rw[m1.length_eq,k1.length_eq,hl,hpr.length_eq]
  exact Zmv hlen
 rw[Ziq];have:=Zgk hsel (ls:=Zcu ls) fun l hl=>h0 l (hpr.mem_iff.mp hl)
 (clear hl;omega)
theorem Zf3 {ls:List Int}{N:List (List Int)} (hf:ls.length<=N.flatten.length):∃ ns rest,ns.length=ls.length/\(ns++rest).Perm N.flatten/\rdF ls N=dot ls ns:=by
 have hpr:(Zcu ls).Perm ls:=Ybv _ _;have hpz:(isrt N.flatten).Perm N.flatten:=Ybv _ _;have hl:((isrt N.flatten).take ls.length).length=(Zcu ls).length:=by rw[Yay,hpz.length_eq,hpr.length_eq];omega
 obtain⟨ns,n1,n2⟩:=ZeJ hpr hl;refine⟨ns,(isrt N.flatten).drop ls.length,by rw[n1.length_eq,hl,hpr.length_eq],?_,by rw[Ziq,n2]⟩;refine (n1.append_right _).trans ?_;rw[YaH];exact hpz
theorem Zj9 {a b:List Int}{N:List (List Int)} (h:leP a b) (h0:∀ l∈a,0<=l) (hN:∀ n∈N.flatten,0<=n) (hf:b.length<=N.flatten.length):rdF a N<=rdF b N:=by
 obtain⟨ns,rest,n1,n2,n3⟩:=Zf3 hf;have hl:=h.len;have h1:=ZgG (ls:=a) (by rw[n1,hl]) h0 n2;have h2:=ZeW (ns:=ns) h (by rw[n1,hl]) fun n hn=>hN n (n2.mem_iff.mp (YaF _ hn))
 (clear hl n1 hf;omega)
theorem Zip {ls:List Int}{N:List (List Int)} (h0:∀ l∈ls,0<=l) {b:Int} (hb:0<=b) (hf:ls.length<=N.flatten.length):rdF (ls.map (·*b)) N=rdF ls N*b:=by
 have h0':∀ l∈ls.map (·*b),0<=l:=fun l hl=>by
  obtain⟨x,hx,rfl⟩:=YaK.mp hl;exact YbY (h0 x hx) hb
 obtain⟨ns,rest,n1,n2,n3⟩:=Zf3 hf;obtain⟨ms,rest',m1,m2,m3⟩:=Zf3 (ls:=ls.map (·*b)) (by rw[Yaa];exact hf);have u1:=ZgG (ls:=ls.map (·*b)) (by rw[n1,Yaa]) h0' n2;have u2:=ZgG (ls:=ls) (by rw[m1,Yaa]) h0 m2;rw[ZdD] at u1 m3;rw[n3] at u2 ⊢;have:dot ls ns*b<=dot ls ms*b:=YaE u2 hb
 (clear u2 m1 n3 n1 hf hb;omega)
theorem ZnB {c:Bool}{p:Nat} (i:Nat):∀ n∈(SS c p i).flatten,0<=n:=fun n hn=>by
 obtain⟨xs,hx,hx2⟩:=Ydq.mp hn;cases c
 ·exact (ZdI p i xs hx n hx2).1
 ·exact (Zba i xs n hx hx2).1
theorem BestT.scale {c:Bool}{p:Nat}{ls:List Int} (h0:∀ l∈ls,0<=l) {b:Int} (hb:1<=b) {R:Int}{n:Nat} (h:BestT c p ls (some (R,n))):BestT c p (ls.map (·*b)) (some (R*b,n)):=by
 obtain⟨m,h1,h2,h3,h4⟩:=h;have e:∀ j,fitF (ls.map (·*b)) (SS c p) j=(fitF ls (SS c p) j).map (·*b):=fun j=>by
  unfold fitF;rw[Yaa];by_cases hf:ls.length<=(SS c p j).flatten.length
  ·rw[if_pos hf,if_pos hf,Zip h0 (by (clear hf h2;omega)) hf];rfl
  ·rw[if_neg hf,if_neg hf];rfl
 refine⟨m,h1,h2,by rw[e,h3];rfl,fun j R' hj hR=>?_⟩;rw[e] at hR
 cases ej:fitF ls (SS c p) j with
 | none=>rw[ej] at hR;cases hR
 | some S=>
  rw[ej] at hR;cases hR;obtain⟨a1,a2⟩:=h4 j S hj ej;refine⟨YaE a1 (by (clear a2 a1 hj h2;omega)),fun hjn=>?_⟩;exact Int.mul_lt_mul_of_pos_right (a2 hjn) (by (clear hjn a2 a1 hj h2;omega))
theorem BestT.mono {c:Bool}{p:Nat}{a b:List Int} (h:leP a b) (h0:∀ l∈a,0<=l) {R R':Int}{n n':Nat} (ha:BestT c p a (some (R,n))) (hb:BestT c p b (some (R',n'))):R<=R':=by
 obtain⟨m,a1,a2,a3,a4⟩:=ha;obtain⟨m',b1,b2,b3,b4⟩:=hb;cases a1.one b1;have hl:=h.len;unfold fitF at b3;split at b3
 ·rename_i hf;cases b3;have:=Zj9 h h0 (ZnB n') hf;have:=(a4 n' (rdF a (SS c p n')) b2 (by unfold fitF;rw[if_pos (by (clear this b2 a2;omega))])).1
  (clear hf hl b2 a2;omega)
 ·cases b3
theorem BestT.le {c:Bool}{p:Nat} (hp:2<=p) {ls ns rest:List Int}{R:Int}{n k:Nat} (h:BestT c p ls (some (R,n))) (h0:∀ l∈ls,0<=l) (hl:ns.length=ls.length) (hs:(ns++rest).Perm (SS c p k).flatten) (hk:tlv c p k<=4000):R<=dot ls ns:=by
 obtain⟨m,a1,a2,a3,a4⟩:=h;have hkm:k<m:=by
  by_cases z:k<m
  ·exact z
  ·have:=Zdb (c:=c) hp (m:=m) (n:=k) (by (clear a2 hk hl hp;omega));have:=a1.2
   (clear z a2 hl hp;omega)
 have hf:ls.length<=(SS c p k).flatten.length:=by
  have:=hs.length_eq;rw[Yaf] at this
  (clear hkm a2 hk hp;omega)
 have:=(a4 k (rdF ls (SS c p k)) hkm (by unfold fitF;rw[if_pos hf])).1
 have:=ZgG hl h0 hs
 (clear hf hkm a2 hk hl hp;omega)
theorem KrOk.SS {c:Bool}{p:Nat} (hp:2<=p) (i:Nat):KrOk (p:Int) (SS c p i).flatten:=by
 cases c
 ·refine⟨i,fun y hy=>?_,Yeb (Zi8 hp i (Yak _))⟩;obtain⟨xs,hx,hy⟩:=Ydq.mp hy;have:=ZdI p i xs hx y hy
  (clear hp;omega)
 ·refine⟨i,fun y hy=>?_,Zlq hp i (Yak _)⟩;obtain⟨xs,hx,hy⟩:=Ydq.mp hy;exact Zba i xs y hx hy
theorem KrOk.sel {p:Int} (hp:2<=p) {a b c:List Int} (h:KrOk p c) (e:(a++b).Perm c):KrOk p a:=KrOk.sub hp (KrOk.perm h e.symm)
theorem Zlg:∀ (c:List Int) (s:Int),(∀ x∈c,0<=x)->∀ y∈pre s c,y<=s+c.sum
 | [],_,_,_,h=>by simp[pre] at h
 | x::c,s,h,y,hy=>by
  have h':∀ z∈c,0<=z:=fun z hz=>h z (Yag _ hz);have hn:0<=c.sum:=by
   clear hy h
   induction c with
   | nil=>simp
   | cons z c ih=>
    have:=ih fun w hw=>h' w (Yag _ hw);have:=h' z Yal;rw[Yas]
    (clear ih;omega)
  rw[pre] at hy;rw[Yas];rcases YaC.mp hy with rfl | hy
  ·omega
  ·have:=Zlg c (s+x) h' y hy
   (clear hn;omega)
theorem ZdW {t:Int}:∀ c:List Int,(∀ x∈c,x<=t)->c.sum<=c.length*t
 | [],_=>by simp
 | x::c,h=>by
  have:=ZdW c fun z hz=>h z (Yag _ hz);have:=h x Yal;rw[Yas,Yaz,Yej,YbC,YdJ];omega
theorem Zh6 {c:Bool}{p:Nat} (hp:2<=p) (h7:p<=7) (n:Nat):tlv c p (n+1)<=7*tlv c p n:=by
 cases c
 ·rw[Zbc,Zbc];have h1:=Zeq hp n;have h2:hd p n<=tot p n:=ZmR (ZbV p n).2;have h3:=Zfu hp n;have:((p - 1:Nat):Int)*hd p n<=6*hd p n:=YaE (by (clear h3 h2 h1 hp;omega)) (by (clear h2 h1 h7 hp;omega))
  (clear h3 h7 hp;omega)
 ·rw[Zbs (by (clear h7;omega)),Zbs (by (clear h7;omega))];have h1:=ZdW (t:=(casc p n).sum) (casc p (n+1)) fun x hx=>by
   have:=Zlg (casc p n) 0 (ZdG p n) x (YcV.mp hx)
   (clear h7 hp;omega)
  rw[Zdf (by (clear h1 h7;omega))] at h1;have h2:=(ZbW hp n).2
  have:(p:Int)*(casc p n).sum<=7*(casc p n).sum:=YaE (by (clear h2 h1 hp;omega)) (by (clear h1 h7 hp;omega))
  (clear h2 h7 hp;omega)
theorem Zgs:∀ n,casN 2 n=num 2 n
 | 0=>rfl
 | n+1=>by
  have hl:=ZbE (p:=2) (by decide) n;show ZaS (casN 2 n)=Zfm (num 2 n);rw[Zgs n]
  match num 2 n,hl with
  | [A,B],_=>rfl
theorem Zhh (n:Nat):casc 2 n=cnt 2 n:=by
 rw[<- Za9 (by decide),Zgs];exact ZbU 2 n
end Lv
namespace Lv
open PySem L2
structure Plcd (N:List (List Int)) (rows:List (List Int)) (ks:List (List Int)) (i:Nat) (D:List Rows):Prop where
 len:D.map Ydl=(N++[[]]).map Ydl
 free:∀ (r j:Nat) xs,N[r]?=some xs->j<xs.length->[(r:Int),(j:Int)] ∉ ks.take i->∃ row,D[r]?=some row/\row[j]?=some none
 all:(allT D).Perm (rows.take i).flatten
 pt:ptR gl (opr D) (N++[[]])=(Za6 N ((rows.take i).map fun r=>(r.length:Int)) (ks.take i)).sum
 srt:(∀ r∈rows,r.Pairwise (·<=·))->SrtD D
 has:1<=i->1<=rows.length->HasR D
end Lv
namespace Lv
open PySem L2
end Lv
namespace Lv
open PySem L2
end Lv
namespace Lv
open PySem L2
structure Bl (H:Hp) (l pl cl rl tg:Addr) (fs cs:List Int) (T:List Reel) (ts:List Int):Prop where
 hl:H l=some (.lst (fs.map V.int))
 hc:H cl=some (.lst (cs.map V.int))
 hr:H rl=some (.lst (refT T))
 ht:H tg=some (.lst (ts.map V.int))
 hN:NRL H T
 hA:∀ x∈adr T,x≠pl/\x≠rl/\x≠tg
structure Dst (l pl cl rl tg:Addr):Prop where
 lp:l≠pl
 lr:l≠rl
 lt:l≠tg
 cp:cl≠pl
 cr:cl≠rl
 ct:cl≠tg
 rp:rl≠pl
 rt:rl≠tg
 tp:tg≠pl
variable {H H':Hp}{l pl cl rl tg:Addr}{fs cs:List Int}{T:List Reel}{ts:List Int}
end Lv
namespace Lv
open PySem L2
section
variable {K:Yac}
end
end Lv
namespace Fw
open PySem L2
def val (ns:List Int) (p:Int):Int:=ns.getD p.toNat 0
def upto (n:Nat):List Int:=(YaG n).map fun (i:Nat)=>(i:Int)
def there (n:Nat) (r:Int) (w:List Int):List Int:=(upto (min n (w.length+r.toNat))).filter fun p=>!w.contains p
def fits (ns w:List Int) (p:Int):Bool:=w.isEmpty || decide (val ns (w.getLast?.getD 0)<=val ns p)
def cand (ns hs w:List Int):List Int:=if (hs.filter (fits ns w)).isEmpty then hs else hs.filter (fits ns w)
def pick (ns:List Int):List Int->Int
 | []=>0
 | b::c=>(b::c).foldl (fun b p=>if val ns p<val ns b then p else b) b
def writ (ns:List Int) (r:Int):Nat->List Int
 | 0=>[]
 | t+1=>writ ns r t++[pick ns (cand ns (there ns.length r (writ ns r t)) (writ ns r t))]
structure Good (n:Nat) (r:Int) (w:List Int):Prop where
 nd:w.Nodup
 lt:∀ q∈w,0<=q/\q<n/\q+1<w.length+r
def better (ns:List Int) (b p:Int):Int:=if val ns p<val ns b then p else b
end Fw
namespace Fw
open PySem L2
end Fw
namespace Fw
open PySem L2
abbrev Key2:=Nat × Int
def kle (a b:Key2):Prop:=a.1<b.1∨(a.1=b.1/\a.2<=b.2)
def nxtK (k:Option Key2) (v:Int):Key2:=match k with | none=>(0,v) | some (r,l)=>(if v<l then r+1 else r,v)
def Zg2:Option Key2->List Int->List Key2
 | _,[]=>[]
 | k,v::vs=>nxtK k v::Zg2 (some (nxtK k v)) vs
def wk (ns:List Int) (r:Int) (t:Nat):List Key2:=Zg2 none ((writ ns r t).map (val ns))
def lk (ns:List Int) (r:Int) (t:Nat):Option Key2:=(wk ns r t).getLast?
def pk (ns:List Int) (r:Int) (t:Nat):Int:=pick ns (cand ns (there ns.length r (writ ns r t)) (writ ns r t))
structure Holds (n:Nat) (r:Int) (v:List Int):Prop where
 nd:v.Nodup
 lt:∀ (i:Nat) p,v[i]?=some p->0<=p/\p<n/\p<i+r
end Fw
namespace Lv
open PySem L2 Fw
end Lv
namespace L2
open PySem PySem.Spec PyProof.Rows PySem.SeqAt
end L2
namespace Lv
open PySem L2 Fw
structure Rws3 (H0 H:Hp) (l:Addr) (rf:List Addr) (R:List (List Int)):Prop where
 top:H l=some (.lst (rf.map V.ref))
 rows:LLs H rf R
 own:∀ q∈rf,H0 q=none/\q≠l
 nd:rf.Nodup
end Lv
namespace L2
open PySem PySem.Spec PyProof.Rows PySem.SeqAt
section
variable {X:Cx}
end
end L2
namespace Lv
open PySem L2 Fw
structure HoldsP (n:Nat) (r:Int) (ws:List Int):Prop where
 len:ws.length=n
 nd:ws.Nodup
 rg:∀ p∈ws,0<=p/\p<(n:Int)
 bd:∀ (i:Nat) (p:Int),ws[i]?=some p->p<i+r
structure HoldsT (n:Nat) (r:Int) (ws:List Int) (t:Nat):Prop where
 nd:(ws.take t).Nodup
 rg:∀ p∈ws.take t,0<=p/\p<(n:Int)
 bd:∀ (i:Nat) (p:Int),(ws.take t)[i]?=some p->p<i+r
end Lv
namespace Lv
open PySem L2 Fw
end Lv
namespace Lv
open PySem L2 Fw
structure HI (n:Nat) (r:Int) (ly fs:List Int) (c:Nat):Prop where
 pm:(fs++ly).Perm (upto c)
 bd:∀ (i:Nat) (p:Int),fs[i]?=some p->p<i+r
 cn:c=min n (fs.length+r.toNat)
end Lv
namespace Lv
open PySem L2 Fw
end Lv
namespace Lv
open PySem L2 Fw
end Lv
namespace PySem
theorem arm_eval_Call_Subscript (e sl:Expr) (p:Pos) (args:List Expr) (keywords:List Keyword) (pos:Pos) (env:Env):eval (.Call (.Subscript e sl p) args keywords pos) env=(do
  callWith pos (<- eval (.Subscript e sl p) env) [] (backTo pos (starEach args env)) (backToKw pos (keywordEach keywords env))):=rfl
end PySem
namespace Lv
open PySem L2 PySem.W
def Zlb (f1 f2:Addr) (tf:TE) (ta:TA) (sp1 sp2:Sp):TE:=fun σ H Q=>tf σ H fun v H1=>(v=.ref f1/\ta σ H1 fun vs H2=>sp1 vs H2 Q E0)∨(v=.ref f2/\ta σ H1 fun vs H2=>sp2 vs H2 Q E0)
theorem ZgO {X:Cx}{k1 k2:Nat}{y1 y2:Str}{ps1 ps2:List Str}{sp1 sp2:Sp}{f1 f2:Addr}{fd1 fd2:FuncData}{o sl e:Expr}{es:List Expr}{tf:TE}{t:TA}{p pos:Pos} (C1:Cal X.prog X.w X.K X.mg X.base k1 y1 ps1 sp1 f1 fd1) (C2:Cal X.prog X.w X.K X.mg X.base k2 y2 ps2 sp2 f2 fd2) (hr1:Room k1 X.A) (hr2:Room k2 X.A) (hf:PE X (.Subscript o sl p) tf) (ha:PA X (e::es) t)
  (he:starEach (e::es) X.env=(false,eval e X.env)::starEach es X.env:=by rfl) (hpl:(backTo pos (starEach es X.env)).any (·.1)=false:=by rfl) :
  PE X (.Call (.Subscript o sl p) (e::es) [] pos) (Zlb f1 f2 tf t sp1 sp2):=by
 intro pins s σ H Q I h;rw[PySem.arm_eval_Call_Subscript];refine wpAny_bind ?_;refine thn (hf pins s σ H (fun v H1=>(v=.ref f1/\t σ H1 fun vs H2=>sp1 vs H2 Q E0)∨(v=.ref f2/\t σ H1 fun vs H2=>sp2 vs H2 Q E0)) I h) fun u s1 ⟨v,H1,I1,r,q⟩=>?_;rcases q with ⟨ev,q⟩ | ⟨ev,q⟩
 ·subst ev;obtain rfl:u=Ybt f1:=r;refine Yc0 (h₀:=X.base) I.ok.mod.kin C1.kp (thn (ha pos pins s1 σ H1 _ I1 q) fun us s2 ⟨vs,H2,I2,r2,q2⟩=>⟨I2.kIn,?_⟩) he hpl;exact ZgD C1.ok hr1 C1.bd .nil ZiB I2 r2 (by rwa [Ybb])
 ·subst ev;obtain rfl:u=Ybt f2:=r;refine Yc0 (h₀:=X.base) I.ok.mod.kin C2.kp (thn (ha pos pins s1 σ H1 _ I1 q) fun us s2 ⟨vs,H2,I2,r2,q2⟩=>⟨I2.kIn,?_⟩) he hpl;exact ZgD C2.ok hr2 C2.bd .nil ZiB I2 r2 (by rwa [Ybb])
end Lv
namespace Lv
open PySem L2
end Lv
namespace Lv
open PySem L2
def Zn4 (r:List (List Int)):List Int:=r.getLastD []
def wr (L:List (List (List Int))):List Int:=(L.map Zn4).flatten
theorem _root_.L2.LLs.off {H:Hp}{as:List Addr}{Rw:List (List Int)}{a:Addr}{o:HO} (h:LLs H as Rw) (hn:a ∉ as):LLs (upd H a o) as Rw :=
 ⟨h.1,fun j r xs ha hb=>by
  rw[Zag (fun z=>hn (by subst z;exact YaO ha))];exact h.2 j r xs ha hb⟩
end Lv
namespace Lv
open PySem L2
theorem ZkZ (xs:List V) (c:Nat):cutV xs none (some (c:Int))=xs.take c:=by
 unfold cutV;show (xs.drop 0).take (HT.sIx xs.length xs.length (some (c:Int)) - 0)=_;rw[HT.sIx_nat,Ydc,YdE];by_cases h:c<=xs.length
 ·rw[Yb0 h]
 ·rw[Yef (by omega),YaN,Ya2 (by omega)]
theorem Zk0 (xs:List V) (c:Nat):cutV xs (some (c:Int)) none=xs.drop c:=by
 unfold cutV;rw[HT.sIx_nat];show (xs.drop (min c xs.length)).take (xs.length - min c xs.length)=_;by_cases h:c<=xs.length
 ·rw[Yb0 h,Ya2 (by simp)]
 ·rw[Yef (by omega),YfF,List.drop_of_length_le (by omega)];simp
end Lv
namespace L2
open PySem PySem.Spec PyProof.Rows PySem.SeqAt
end L2
namespace L2
open PySem PySem.Spec PyProof.Rows PySem.SeqAt Lv
end L2
namespace L2
open PySem PySem.Spec PyProof.Rows PySem.W
end L2
namespace L2
open PySem PySem.Spec PyProof.Rows
end L2
namespace PySem.AutoSeq1
open PySem PySem.Spec PyProof.Rows
set_option maxRecDepth 8000 in
theorem list_extend_list_tupleS (l:Addr) (items:Array Value) (n:Nat) (b:Addr) (items2:Array Value) (n2:Nat) (sl:Array (Option Value)) (hs0:¬(!items.isEmpty && YbL (items.size+items2.size))=true) (hs1:items.size<=sizeLine) (hs2:items.size+items2.size<=sizeLine+1) :
  Meets (Builtin.«list.extend» ⟨[.ref l,.ref b],[]⟩) (fun _ R s=>s.heap.get? l=some { cls:=.type "list",dict:=none,data:=.seq items n,slots:=#[] }/\s.heap.get? b=some { cls:=.type "tuple",dict:=none,data:=.seq items2 n2,slots:=sl }/\R (.ok (.ret YbU)) { s with heap:=s.heap.update l (YbZ fun x=>x++items2),toks:=s.toks }) :=
 .of_wp fun prog w A R s h=>by
  obtain⟨hp,g,d,tk,os⟩:=s;obtain⟨hl,hb,h⟩:=h;have f1:=idx_int;have f2:=sub_tuple_tuple;have f3:=sub_list_list;have f4:=sub_tuple_list;have f5:=sub_list_tuple;have hz':(items++items2).size<=sizeLine+1:=by rw[Array.size_append];exact hs2
  wp_walk using (wpAny_updateSeq hl rfl (hz:=hs1) (_hz':=hz')),wpAny_loadPart' hl,wpAny_loadPart' hb;exact⟨_,rfl,h⟩
end PySem.AutoSeq1
namespace L2
open PySem PySem.Spec PyProof.Rows
section
variable {X:Cx}
def Zkc:V->List V->Hp->VK->Prop:=fun x vs H Q=>∃ l b xs zs,x=.ref l/\vs=[.ref b]/\H l=some (.lst xs)/\(H b=some (.lst zs)∨H b=some (.tup zs))/\xs.length+zs.length<=sizeLine/\Q .non (upd H l (.lst (xs++zs)))
theorem ZhK:MtM X "list.extend" Zkc:=by
 intro pins s σ H x vs v us Q I rx rv h;obtain⟨l,b,xs,zs,rfl,rfl,hH,hB | hB,hz,q⟩:=h
 ·exact ZiV pins s σ H _ _ v us Q I rx rv ⟨l,b,xs,zs,rfl,rfl,hH,hB,hz,q⟩
 cases rx;obtain⟨u,rfl,ru⟩:=rv.one;cases ru;obtain⟨z,its,n,r,hl,e⟩:=I.lstM hH;obtain⟨hl2,its2,r2,o2,e2,c2,d2,n2,k2⟩:=(show ObjOk X.prog X.w H s.heap b (.tup zs) from I.hok b _ hB)
 have l2:=r2.length;obtain⟨cls2,dict2,data2,sl2⟩:=o2;cases c2;cases d2;cases k2;have hsz:its.toArray.size+its2.toArray.size<=sizeLine:=by rw[Yah,Yah];(clear hl2 z;omega)
 have hlong:¬ (!its.toArray.isEmpty && YbL (its.toArray.size+its2.toArray.size))=true:=by
  rw[ZeO hsz,Bool.and_false];exact YaJ
 refine call_meets F.slot_list_extend ⟨_,e,rfl⟩ F.entry_list_extend (F.args_list_extend_2 _ _)
  (AutoSeq1.list_extend_list_tupleS l its.toArray n b its2.toArray n2 sl2 hlong (by rw[Yah];(clear hlong hsz l2 hl2 z;omega)) (by (clear hlong l2 hl2 hl z hz;omega))) ⟨e,e2,?_⟩
 refine⟨.non,_,I.lset (its':=its++its2) hH e (by simp) (r.append r2) ?_,rfl,q⟩;rw[Yaf]
 (clear hlong hsz l2 hl2 hl z;omega)
end
end L2
namespace L2
open PySem PySem.Spec PyProof.Rows
section
variable {own:List Str}{js:List Nat}{g:TG}{te:TE}{σ:St}{H1:Hp}{Q:VK}
end
end L2
namespace Lv
open PySem L2
end Lv
namespace Fj99
open PySem L2 Lv
def top (i:Nat):Stmt:=PySem.Challenge.pw_fewreels_k99_whole_ways_side_by_side.main.body.getD i (.Pass ⟨0,0,0,0⟩)
abbrev ZdZ:Stmt:=top 6
abbrev Zhz:Stmt:=top 11
abbrev Zd5:Stmt:=top 12
abbrev Zd6:Stmt:=top 13
abbrev Zf1:Stmt:=top 14
abbrev ZcH:Stmt:=top 15
abbrev Zd0:Stmt:=top 16
abbrev sTot:Stmt:=top 19
abbrev ZcD:Stmt:=top 20
abbrev ZcG:Stmt:=top 21
abbrev ZcY:Stmt:=top 22
abbrev ZcZ:Stmt:=top 23
abbrev Zd2:Stmt:=top 24
abbrev Zbn:Stmt:=top 25
abbrev Zf0:Stmt:=top 26
abbrev sLN:Stmt:=top 27
abbrev ZcF:Stmt:=top 28
abbrev Zb4:Stmt:=top 30
abbrev ZbP:Stmt:=top 31
abbrev ZcJ:Stmt:=top 32
abbrev sBPl:Stmt:=top 33
abbrev Zd3:Stmt:=top 36
abbrev ZcE:Stmt:=top 37
abbrev sChk:Stmt:=top 38
abbrev ZhC:Stmt:=top 39
abbrev ZhD:Stmt:=top 40
abbrev Zd4:Stmt:=top 41
abbrev ZhB:Stmt:=top 43
abbrev Zcl:Stmt:=top 44
abbrev ZhA:Stmt:=top 45
abbrev Zdp:Stmt:=top 46
abbrev sNJ:Stmt:=top 47
abbrev sPot:Stmt:=top 49
abbrev sNx:Stmt:=top 50
abbrev Zf2:Stmt:=top 51
abbrev ZcI:Stmt:=top 52
abbrev Zd1:Stmt:=top 53
abbrev ZeF:Stmt:=top 54
abbrev Zfg:Stmt:=top 55
abbrev sLaw:Stmt:=top 56
end Fj99
namespace Fj99
open PySem L2 Lv
section
variable {P:Program}{w:World}{K:Yac}{mg:Str->Option Value}{base:Heap}
theorem Zj7:FnScope ["p","way","n"] ["p","way","n"] (Zad ZcI):=⟨rfl,rfl,rfl,by decide +kernel,rfl,by decide +kernel,by decide +kernel⟩
def wyI:Bool->Int
 | true=>1
 | false=>0
def SC (c:Bool) (p n:Nat):List Int:=if c then casc p n else cnt p n
theorem Zly {c:Bool}{p n:Nat} (hp:1<=p):(SC c p n).sum=tlv c p n:=by
 cases c
 ·rw[Zbc];rfl
 ·rw[Zbs hp];rfl
theorem Zh7 {c:Bool}{p:Nat} (hp:2<=p):∀ n:Nat,(n:Int)+1<=tlv c p n:=by
  cases c
  · intro n;rw[Zbc]
    induction n with
    | zero => have : tot p 0 = 1 := by unfold tot cnt Zbz; simp
              (clear hp;omega)
    | succ n ih=>have:=Zh4 hp n;(clear hp;omega)
  · intro n;rw[Zbs (by omega)];exact (ZbW hp n).2
theorem ZjW {c:Bool}{p:Nat} (hp:2<=p):tlv c p 0=1:=by
 cases c
 ·rw[Zbc];unfold tot cnt Zbz;simp
 ·rw[Zbs (by omega)];unfold casc Zbz;simp
theorem ZdV {c:Bool}{f1 f2:Addr}{K:Yac}{ti:TE}{t:TA}{sp1 sp2:Sp}{σ:L2.St}{H:Hp}{Q:VK} (hi:∀ (H':Hp) (R:VK),R (.int (wyI c)) H'->ti σ H' R)
  (ht:∀ q,H q=none->t σ (upd H q (.lst [.ref f1,.ref f2])) fun vs H2=>(if c then sp2 else sp1) vs H2 Q E0):Zlb f1 f2 (tOp (rIxL K) (tLst (ZjX (tC (.ref f1)) (ZjX (tC (.ref f2)) tNil))) ti) t sp1 sp2 σ H Q:=by
 refine⟨(by show 2<=sizeLine;decide),fun q nq=>hi _ _ ?_⟩;cases c
 ·exact⟨q,_,_,.ref f1,rfl,rfl,SqL.of Zab,rfl,.inl ⟨rfl,ht q nq⟩⟩
 ·exact⟨q,_,_,.ref f2,rfl,rfl,SqL.of Zab,rfl,.inr ⟨rfl,ht q nq⟩⟩
theorem ZnM {c:Bool}{p n:Nat}{H:Hp}{Q:VK}{E:XK} (p2:2<=p) (p7:p<=7) (hn:n<=100) (ht:tlv c p n<=4000) (k:∀ l qs H',H l=none->H' l=some (.tup (qs.map V.ref))->TTs H' qs (SS c p n)->Same H H'->Q (.ref l) H'):(if c then Zfe else Zfc) [.int p,.int n] H Q E:=by
 cases c
 ·rw[Zbc] at ht;exact⟨p,n,rfl,p2,p7,by (clear ht p7 p2;omega),ht,k⟩
 ·rw[Zbs (by (clear ht hn p7;omega))] at ht;exact⟨p,n,rfl,p2,p7,hn,ht,k⟩
def Zez:Sp:=fun vs H Q _=>∃ (p n:Nat) (c:Bool),vs=[.int p,.int (wyI c),.int n]/\2<=p/\p<=7/\n<=100/\∀ l H',H l=none->H' l=some (.tup ((SC c p n).map V.int))->Same H H'->Q (.ref l) H'
theorem ZiN {f f1 f2:Addr}{fd d1 d2:FuncData} (F:Fun K "_law_counts" "_law_counts" ZcI f fd) (CL:Cal P w K mg base 3 "level_counts" ["p","n"] Zch f1 d1) (CC:Cal P w K mg base 4 "cascade_counts" ["p","n"] Zfd f2 d2):FnOk P w K mg base CX0 5 f fd ["p","way","n"] Zez:=by
 refine okW F Zj7 (fun vs H Q E h=>?_) (fun cdv A outer s H vs Q E hr h=>?_)
 ·obtain⟨p,n,c,rfl,_⟩:=h;rfl
 ·obtain⟨p,n,c,rfl,p2,p7,hn,k⟩:=h;have hr4:Room 4 _:=hr;have hr3:Room 3 _:=hr.mono (by decide);refine⟨_,(ZaI (ws (Zav (ZgO CL CC hr3 hr4 (Zaz ix_list (ZaM (Zaa (Zc2 CL rfl) (Zaa (Zc2 CC rfl) Zac))) (pv 1) (fun _ _=>rfl)) (Zaa (pv 0) (Zaa (pv 2) Zac)))))),?_⟩;refine ZdV (c:=c) (fun _ _ h=>⟨_,rfl,h⟩) fun q nq=>⟨_,rfl,_,rfl,?_⟩
  have s0:=Same.new (o:=.lst [V.ref f1,.ref f2]) nq;cases c
  ·exact⟨p,n,rfl,p2,p7,by (clear p7 p2;omega),fun l H' nl hl s=>k l H' (s0.free nl) hl (s0.trans s)⟩
  ·exact⟨p,n,rfl,p2,p7,hn,fun l H' nl hl s=>k l H' (s0.free nl) hl (s0.trans s)⟩
theorem scLain:FnScope ["pot","p","way","rows","n","left","reel"] ["pot","p","way","rows"] (Zad Zf2):=⟨rfl,rfl,rfl,by decide +kernel,rfl,by decide +kernel,by decide +kernel⟩
abbrev ZnA (pl:Addr) (p:Nat) (c:Bool) (rows:Nat) (H:Hp) (m:Nat) (σ:L2.St) (Hx:Hp):Prop:=∃ n:Nat,m=40 - n/\n<=39/\(∀ k,n=k+1->tlv c p k<(rows:Int))/\σ=[some (.ref pl),some (.int p),some (.int (wyI c)),some (.int rows),some (.int n),none,none]/\Same H Hx
def Zid:Sp:=fun vs H Q _=>∃ (pl:Addr) (p:Nat) (c:Bool) (rows:Nat),vs=[.ref pl,.int p,.int (wyI c),.int rows]/\2<=p/\p<=7/\Pool3 H pl/\1<=rows/\rows<=40/\∀ (l:Addr) (ns rest:List Int) (n:Nat) H',H l=none->H' l=some (.lst (ns.map V.int))->ns.length=rows->(ns++rest).Perm (SS c p n).flatten->tlv c p n<=4000->Pool3 H' pl->Sm pl H H'->Q (.ref l) H'
theorem Zl7 {f f1 f2 f3 f4:Addr}{fd d1 d2 d3 d4:FuncData} (F:Fun K "_law_lain" "_law_lain" Zf2 f fd) (T:Txt mg) (CK:Cal P w K mg base 5 "_law_counts" ["p","way","n"] Zez f1 d1) (CX:Cal P w K mg base 1 "_law_next" ["pot","many"] Zdl f2 d2) (CL:Cal P w K mg base 6 "level_numbers" ["p","n"] Zfc f3 d3) (CC:Cal P w K mg base 5 "cascade_numbers" ["p","n"] Zfe f4 d4):FnOk P w K mg base CX0 7 f fd ["pot","p","way","rows"] Zid:=by
 refine okW F scLain (fun vs H Q E h=>?_) (fun cdv A outer s H vs Q E hr h=>?_)
 ·obtain⟨pl,p,c,rows,rfl,_⟩:=h;rfl
 ·obtain⟨pl,p,c,rows,rfl,p2,p7,hP,r1,r40,k⟩:=h;have hr6:Room 6 _:=hr;have hr5:Room 5 _:=hr.mono (by decide);have hr1:Room 1 _:=hr.mono (by decide);refine⟨_,(Zah (ws (Zaq (i:=4) scLain.nd rfl (YaI rfl) Zae))
   (Zah (ws (Zdc Ya5 (ZaL Zkr (Zak (Zcy rfl) rfl T.sum Ze1 (Zaa (Zam CK hr5 rfl (Zaa (pv 1) (Zaa (pv 2) (Zaa (pv 4) Zac)))) Zac)) (pv 3) (ZaN _))
   (WSs.out (ZaI (ws (Zaq (i:=4) scLain.nd rfl (YaI rfl) (Zat ZaQ (pv 4) Zae)))))))
   (Zah (Zeo (ZaL Zdv (Zak (Zcy rfl) rfl T.sum Ze1 (Zaa (Zam CK hr5 rfl (Zaa (pv 1) (Zaa (pv 2) (Zaa (Zat ZaQ (pv 4) Zae) Zac)))) Zac)) Zae (ZaN _))
   (ZaI (ws (Zaq (i:=4) scLain.nd rfl (YaI rfl) (Zat ZaQ (pv 4) (Zam CX hr1 rfl (Zaa (pv 0) (Zaa Zae Zac)))))))
   Zbq)
   (Zah (ws (Zaq (i:=5) scLain.nd rfl (Yde rfl) (ZaM Zac)))
   (Zah (ws (Zbd Ya5 rfl (Zb6 (ZgO CL CC hr6 hr5 (Zaz ix_list (ZaM (Zaa (Zc2 CL rfl) (Zaa (Zc2 CC rfl) Zac))) (pv 2) (fun _ _=>rfl)) (Zaa (pv 1) (Zaa (pv 4) Zac)))) (Zaj (i:=6) scLain.nd rfl (YaI rfl))
   (WSs.out (ZaI (ws (ZaD (ZeM Ybm PySem.F.slot_list_extend PySem.F.type_list_extend ZhK (pv 5) (Zaa (pv 6) Zac))))))))
   (ZaI (ws (Zav (ZaG (own:=["turn"]) (js:=[0,5]) (CompOk.by (sc:=Zad Zf2) (N:=["pot","p","way","rows","n","left","reel"]) rfl rfl (by decide +kernel)) rfl (ZaR rfl T.range (Zaa (pv 3) Zac)) Zay (fun _ _ _ _ _=>(Zaj (i:=0) (by show (["turn","pot","left"]:List Str).Nodup;decide +kernel) rfl (YaI rfl) (.inr rfl))) (fun _ _ _ _ _=>ZaC) (fun _ _ _ _ _=>(Zm4 K Ybm PySem.F.slot_list_pop PySem.F.type_list_pop ZkJ (pv 2) (Zaa (Zam CX hr1 rfl (Zaa (pv 1) (Zaa (Zak (ZfF K) rfl T.len Ya1 (Zaa (pv 2) Zac)) Zac))) Zac)))))))))))),?_⟩
  have hz:20000<sizeLine:=by decide
  refine⟨ZnA pl p c rows H,⟨_,0,rfl,by (clear hz r40 r1 p7 p2;omega),fun k hk=>by (clear hz r40 r1 p7 p2;omega),rfl,Same.refl _⟩,?_⟩;rintro m σ Hx ⟨n,rfl,hn,hnk,rfl,sx⟩;refine⟨_,rfl,_,rfl,_,rfl,p,n,c,rfl,p2,p7,by (clear hz r40 r1 p7 p2;omega),fun l1 H1 nl1 hl1 s1=>⟨l1,_,rfl,SqT.of hl1,_,rfl,_,_,rfl,rfl,_,rfl,?_⟩⟩;rw[Zly (by (clear hn hz r40 r1 p7;omega))];have sx1:=sx.trans s1;have hgr:=Zh7 (c:=c) p2 n;refine ite2 (fun hgo=>?_) (fun hst=>?_)
  ·have hgo:tlv c p n<(rows:Int):=of_decide_eq_true hgo;refine⟨fun σ' H'=>∃ m',m'<40 - n/\ZnA pl p c rows H m' σ' H',fun _ _ h=>h,?_⟩;exact⟨_,rfl,_,_,rfl,rfl,40 - (n+1),by (clear hgo hgr hz r40 r1 p7 p2;omega),n+1,rfl,by (clear hn hz r1 p7 p2;omega),fun k hk=>by
    have:k=n:=by (clear hgo hgr hn hz r40 r1 p7 p2;omega)
    subst this;exact hgo,rfl,sx1⟩
  ·have hst:¬ tlv c p n<(rows:Int):=fun z=>hst (decide_eq_true z);have hb:tlv c p n<=400:=by
    match n,hnk with
    | 0,_=>have:=ZjW (c:=c) p2;(clear hst hgr hn hz r40 r1 p7 p2;omega)
    | k+1,hnk=>
     have:=Zh6 (c:=c) p2 p7 k;have:=hnk k rfl
     (clear hst hgr hn hz r1 p7 p2;omega)
   dsimp only;refine cut1 (a:=tIfS _ _ _) (fun σ' H'=>∃ n':Nat,σ'=[some (.ref pl),some (.int p),some (.int (wyI c)),some (.int rows),some (.int n'),none,none]/\n'<=40/\(rows:Int)<=tlv c p n'/\tlv c p n'<=400/\Pool3 H' pl/\Sm pl H H') (fun R' hR=>?_) ?_
   ·refine⟨_,rfl,_,rfl,_,rfl,_,_,rfl,rfl,p,n+1,c,rfl,p2,p7,by (clear hb hst hgr hz r40 r1 p7 p2;omega),fun l2 H2 nl2 hl2 s2=>⟨l2,_,rfl,SqT.of hl2,_,_,rfl,rfl,_,rfl,?_⟩⟩;rw[Zly (by (clear hb hst hgr hn hz r40 r1 p7;omega))];have sx2:=sx1.trans s2;refine ite2 (fun hle=>?_) (fun _=>?_)
    ·have hle:tlv c p (n+1)<=400:=of_decide_eq_true hle;refine⟨_,rfl,_,rfl,pl,2,rfl,hP.same sx2,by decide,by decide,fun d H3 d0 d1 hP3 sm3=>⟨_,_,rfl,rfl,hR _ _ ⟨n+d.toNat,?_,by (clear d0 hle hb hst hgr hz r40 r1 p7 p2;omega),?_,?_,hP3,(Sm.of sx2).trans sm3⟩⟩⟩
     ·have:((n+d.toNat:Nat):Int)=(n:Int)+d:=by (clear d1 hle hb hst hgr hn hz r40 r1 p7 p2;omega)
      rw[this];rfl
     ·have:=Zdb (c:=c) p2 (m:=n) (n:=n+d.toNat) (by (clear d1 d0 hle hb hst hgr hn hz r40 r1 p7 p2;omega))
      (clear d1 d0 hle hb hgr hn hz r40 r1 p7 p2;omega)
     ·have:=Zdb (c:=c) p2 (m:=n+d.toNat) (n:=n+1) (by (clear d0 hle hb hst hgr hn hz r40 r1 p7 p2;omega))
      (clear d1 d0 hb hst hgr hn hz r40 r1 p7 p2;omega)
    ·exact hR _ _ ⟨n,rfl,by (clear hb hst hgr hz r40 r1 p7 p2;omega),by (clear hb hgr hn hz r40 r1 p7 p2;omega),hb,hP.same sx2,Sm.of sx2⟩
   clear hnk hgr hst hb sx1 hl1 s1 sx;rintro σ H4 ⟨n,rfl,hn,hrn,hb,hP4,sm4⟩;refine⟨YaY _,fun nl nnl=>?_⟩;have s5:Same H4 (upd H4 nl (.lst [])):=Same.new nnl;have e5:upd H4 nl (.lst []) nl=some (.lst (([]:List Int).map V.int)):=Zab;have hP5:=hP4.same s5;have nlp:nl≠pl:=hP4.ne nnl;generalize upd H4 nl (.lst [])=H5 at s5 e5 hP5 ⊢;refine ZdV (c:=c) (fun _ _ h=>⟨_,rfl,h⟩) fun q nq=>⟨_,rfl,_,rfl,?_⟩
   have s6:=Same.new (o:=.lst [V.ref f3,.ref f4]) nq;generalize upd H5 q (.lst [V.ref f3,.ref f4])=H6 at s6 ⊢;refine ZnM (c:=c) p2 p7 (by (clear nlp hb hrn hst hz r40 r1 p7 p2;omega)) (by (clear nlp hrn hn hst hz r40 r1 p7 p2;omega)) fun lt rs H7 nlt hlt hTT s7=>⟨lt,false,rfl,⟨_,SqT.of hlt⟩,?_⟩
   have s57:=s6.trans s7;have hrl:rs.length=p:=by rw[hTT.1];exact ZnC p2 n
   refine Zhb (b:=false) (K:=K) (a:=lt) (xs:=rs.map V.ref) (fun i σ Hy=>∃ o6:Option V,σ=[some (.ref pl),some (.int p),some (.int (wyI c)),some (.int rows),some (.int n),some (.ref nl),o6]/\Hy nl=some (.lst (((SS c p n).take i).flatten.map V.int))/\Same H4 Hy/\Hy lt=some (.tup (rs.map V.ref))/\TTs Hy rs (SS c p n)) ⟨none,rfl,s57 _ _ e5,s5.trans s57,hlt,hTT⟩ (fun i σ Hy _ ⟨_,_,_,_,h,_⟩=>SqT.of h) ?_ ?_
   ·rintro i x σ Hy hx ⟨o6,rfl,hnl,sy,hlty,hTTy⟩;obtain⟨r,hr,rfl⟩:=Zbf hx;have hi:i<(SS c p n).length:=by rw[<- hTTy.1];exact (Yab.mp hr).1
    have hrN:=hTTy.2 i r _ hr (Yad hi);have hfl:((SS c p n).flatten.length:Int)=tlv c p n:=rfl;have e2:((SS c p n).take (i+1)).flatten=((SS c p n).take i).flatten++(SS c p n)[i]:=by
     rw[YaW hi,YbB];simp
    have hle:(((SS c p n).take (i+1)).flatten).length<=(SS c p n).flatten.length:=by
     have:(SS c p n).flatten=((SS c p n).take (i+1)).flatten++((SS c p n).drop (i+1)).flatten:=by rw[<- YbB,YaH]
     rw[this,Yaf]
     (clear hfl hrl nlp hb hrn hn hst hz r40 r1 p7 p2;omega)
    rw[e2,Yaf] at hle;refine⟨_,rfl,.inl ⟨rfl,_,SqL.of hnl⟩,_,rfl,nl,r,_,_,rfl,rfl,hnl,.inr hrN,by rw[sizeLine_eq,Yaa,Yaa];(clear hrl nlp hrn hn hst hz r40 r1 p7 p2;omega),?_⟩;have nelt:lt≠nl:=fun e=>by rw[e,hnl] at hlty;cases hlty
    refine⟨_,rfl,by rw[Zab,e2,Yau],sy.put nnl,by rw[Zag nelt];exact hlty,TTs.offJ hTTy hnl⟩
   rintro σ H8 ⟨o6,rfl,hnl,s48,_,_⟩;rw[Yaa,hTT.1,YaN] at hnl;have hP8:=hP4.same s48;have sm8:=sm4.trans (Sm.of (p:=pl) s48);have nl0:H nl=none:=sm4.free nlp nnl;refine⟨_,rfl,_,rfl,by show -(2 ^ 62)<=(rows:Int);(clear hrl nlp hb hrn hn hst hz r40 r1 p7 p2;omega),by show (rows:Int)<2 ^ 62;(clear hrl nlp hb hrn hn hst hz r1 p7 p2;omega),?_⟩;rw[YaS];have hfl:((SS c p n).flatten.length:Int)=tlv c p n:=rfl;refine ZcW (fun acc i Hx=>∃ (res ls:List Int),res.length=i/\ls.length+i=(SS c p n).flatten.length/\(res++ls).Perm (SS c p n).flatten/\Hx acc=some (.lst (res.map V.int))/\Hx nl=some (.lst (ls.map V.int))/\Pool3 Hx pl/\Sm pl H Hx)
    (fun acc h0=>⟨[],(SS c p n).flatten,rfl,by simp,Yb8 _,Zab,(Same.new h0) nl _ hnl,hP8.put h0,sm8.trans (Sm.new h0)⟩) ?_ ?_
   ·rintro acc i Hx h0 hi ⟨res,ls,hrl,hll,hpm,hacc,hlx,hPx,smx⟩;have hap:acc≠pl:=hP8.ne h0;have ha0:H acc=none:=sm8.free hap h0;have ha3:acc≠nl:=Ybl (Zaf hnl h0);refine⟨_,rfl,.inl ⟨rfl,_,SqL.of hlx⟩,?_⟩;refine⟨_,rfl,_,rfl,nl,_,rfl,.inl (SqL.of hlx),pl,_,rfl,hPx,?_,?_,fun d H5 d0 d1 hP5 sm5=>?_⟩
    ·rw[Yaa];(clear ha3 hap hrl nlp hb hn hst hz r40 r1 p7 p2;omega)
    ·rw[Yaa];exact ZaX (by (clear ha3 hap hll hrl hi hfl nlp hb hrn hn hst hz r40 r1 p7 p2;omega)) (by (clear ha3 hap hrl hi nlp hrn hn hst hz r40 r1 p7 p2;omega))
    rw[Yaa] at d1;have hl5:=sm5 nl _ hlx nlp;have hacc5:=sm5 acc _ hacc hap;refine⟨nl,_,d,d.toNat,.int (ls.getD d.toNat 0),rfl,rfl,hl5,by (clear d1 ha3 hap hll hrl hi hfl nlp hb hrn hn hst hz r40 r1 p7 p2;omega),by (clear d0 ha3 hap hrl hi nlp hrn hn hst hz r40 r1 p7 p2;omega),?_,?_,?_⟩
    ·exact seqIndex_of d0 (by rw[Yaa];(clear d0 ha3 hap hll hrl hi hfl nlp hb hrn hn hst hz r40 r1 p7 p2;omega))
    ·rw[Yat,Yai,Yad (by (clear d0 ha3 hap hrl nlp hb hn hst hz r40 r1 p7 p2;omega))];rfl
    ·rw[ZiX];refine⟨_,by rw[Zag ha3];exact hacc5,ZaF (by simp;(clear d1 d0 ha3 hap hll hfl nlp hb hrn hn hst hz r1 p7 p2;omega)),hi,res++[ls.getD d.toNat 0],ls.eraseIdx d.toNat,by simp[hrl],?_,Zix (by (clear d0 ha3 hap hrl nlp hb hn hst hz r40 r1 p7 p2;omega)) hpm,?_,?_,?_,?_⟩
     ·rw[List.length_eraseIdx_of_lt (by (clear d0 ha3 hap hrl nlp hb hn hst hz r40 r1 p7 p2;omega))]
      (clear d1 d0 ha3 hap hrl nlp hb hn hst hz r40 r1 p7 p2;omega)
     ·rw[Zab];simp
     ·rw[Zag (Ybl ha3),Zab]
     ·obtain⟨u,v,w,e⟩:=hP5;exact⟨u,v,w,by rw[Zag (Ybl hap),Zag (Ybl nlp)];exact e⟩
     ·exact ((smx.trans sm5).putP nl0).putP ha0
   ·rintro acc Hx h0 ⟨res,ls,hrl,hll,hpm,hacc,hlx,hPx,smx⟩;have hap:acc≠pl:=hP8.ne h0;exact k acc res ls n Hx (sm8.free hap h0) hacc hrl hpm (by (clear hap hll hrl hfl nlp hrn hn hst hz r40 r1 p7 p2;omega)) hPx smx
end
end Fj99
namespace Fj99
open PySem L2 Lv
section
variable {P:Program}{w:World}{K:Yac}{mg:Str->Option Value}{base:Heap}
theorem ZmU:FnScope ["p","rows"] ["p","rows"] (Zad ZhB):=⟨rfl,rfl,rfl,by decide +kernel,rfl,by decide +kernel,by decide +kernel⟩
def Zih:Sp:=fun vs H Q _=>∃ (p n:Int),vs=[.int p,.int n]/\2<=p/\Q (.int ((n - 2) % (p - 1)+2)) H
theorem Zma {f:Addr}{fd:FuncData} (F:Fun K "first_many" "first_many" ZhB f fd) :FnOk P w K mg base CX0 1 f fd ["p","rows"] Zih:=by
 refine F.ok ZmU (fun vs H Q E h=>?_) (fun cdv A outer s H vs Q E hr h=>?_)
 ·obtain⟨p,n,rfl,_⟩:=h;rfl
 ·obtain⟨p,n,rfl,hp,k⟩:=h;refine⟨_,(Zan (Zav (Zat ZaQ (Zat Zdu (Zat Zc3 (pv 1) Zae) (Zat Zc3 (pv 0) Zae)) Zae))),?_⟩;exact⟨_,rfl,_,_,rfl,rfl,_,rfl,_,_,rfl,rfl,_,_,rfl,rfl,by show (0:Int)<p - 1;omega,_,_,rfl,rfl,k⟩
theorem scLJoin:FnScope ["p","lengths","there","many","reading","log","taken","made"] ["p","lengths"] (Zad Zcl):=⟨rfl,rfl,rfl,by decide +kernel,rfl,by decide +kernel,by decide +kernel⟩
theorem ZlV (ls:List Int):(prK ls).map (fun k=>k.getD 0 0)=ls:=Zli ls
theorem Zk9 {H:Hp}{ps:List Addr}{ks:List (List Int)} (h:TuM H ps ks):∀ p∈ps,kf H p≠[]/\H p=some (.tup ((kf H p).map V.int)):=by
 intro p hp;obtain⟨k',hk,e⟩:=h.1 p hp;rw[Zfr e];exact⟨hk,e⟩
theorem SqB.sameJ {b:Bool}{H H':Hp}{a:Addr}{xs:List V} (e:Same H H') (h:SqB b K H a xs):SqB b K H' a xs:=by
 cases b
 ·exact e.tup h
 ·exact e.seq h
theorem SqB.orJ {b:Bool}{H:Hp}{a:Addr}{xs:List V} (h:SqB b K H a xs):SqL K H a xs∨SqT K H a xs:=by
 cases b
 ·exact .inr h
 ·exact .inl h
theorem ZjS {H:Hp}{qs:List Addr}{ks:List (List Int)} (h:TuM H qs ks) (m:Nat):TuM H (qs.take m) (ks.take m):=⟨fun p hp=>h.1 p (Ybk hp),by rw[<- h.2,YcA]⟩
theorem ZjT {H:Hp}{qs:List Addr}{ks:List (List Int)} (h:TuM H qs ks) (m:Nat):TuM H (qs.drop m) (ks.drop m):=⟨fun p hp=>h.1 p (Yba hp),by rw[<- h.2,YdL]⟩
theorem ZlZ {H:Hp}{qs:List Addr}{ks:List (List Int)} (h:TuM H qs ks) (h2:∀ k∈ks,k.length=2) {j:Nat}{x y:V} (hx:(qs.map V.ref)[j]?=some x) (hy:((ks.map fun k=>k.getD 0 0).map V.int)[j]?=some y):∃ z a b,H z=some (.tup [.int a,.int b])/\x=.ref z/\y=.int a:=by
 obtain⟨z,hz,rfl⟩:=Zbf hx;obtain⟨k,hk,e⟩:=h.at hz;obtain⟨y',hy',rfl⟩:=ZaJ hy;rw[Yat,hk] at hy';cases hy'
 match k,h2 k (YaO hk),e with
 | [a,b],_,e=>exact⟨z,a,b,e,rfl,rfl⟩
theorem Zkp {H:Hp}{qs:List Addr}{ks:List (List Int)} (h:TuM H qs ks) (h2:∀ k∈ks,k.length=2) {j:Nat}{x y:V} (hx:(qs.map V.ref)[j]?=some x) (hy:((ks.map fun k=>k.getD 1 0).map V.int)[j]?=some y):∃ z a b,H z=some (.tup [.int a,.int b])/\x=.ref z/\y=.int b:=by
 obtain⟨z,hz,rfl⟩:=Zbf hx;obtain⟨k,hk,e⟩:=h.at hz;obtain⟨y',hy',rfl⟩:=ZaJ hy;rw[Yat,hk] at hy';cases hy'
 match k,h2 k (YaO hk),e with
 | [a,b],_,e=>exact⟨z,a,b,e,rfl,rfl⟩
def Zex (K:Yac):Sp:=fun vs H Q _=>∃ (p:Nat) (ll:Addr) (b:Bool) (ls:List Int),vs=[.int p,.ref ll]/\2<=p/\p<=7/\SqB b K H ll (ls.map V.int)/\ls.length<=500/\∀ (t lg:Addr) (rs:List Addr) (r:Int) (L:List (List Int)) H',H t=none->H lg=none->H' t=some (.tup [.int r,.ref lg])->H' lg=some (.lst (rs.map V.ref))->TTs H' rs L->Joined p ls r L->Same H H'->Q (.ref t) H'
theorem ZiJ {f f1 f2:Addr}{fd d1 d2:FuncData} (F:Fun K "least_join" "least_join" Zcl f fd) (T:Txt mg) (Te:mg "enumerate"=none) (CW:Cal P w K mg base 2 "check_ways" ["p"] Zcf f1 d1) (CM:Cal P w K mg base 1 "first_many" ["p","rows"] Zih f2 d2):FnOk P w K mg base CX0 3 f fd ["p","lengths"] (Zex K):=by
 refine okW F scLJoin (fun vs H Q E h=>?_) (fun cdv A outer s H vs Q E hr h=>?_)
 ·obtain⟨p,ll,b,ls,rfl,_⟩:=h;rfl
 ·obtain⟨p,ll,b,ls,rfl,p2,p7,hL,hl5,k⟩:=h;have hr1:Room 1 _:=hr.mono (by decide);have hr2:Room 2 _:=hr.mono (by decide);refine⟨_,(Zah (ws (ZaD (Zam CW hr2 rfl (Zaa (pv 0) Zac))))
   (Zah (ws (Zaq (i:=2) scLJoin.nd rfl (YaI rfl) (Zak Zbx rfl T.sorted ZbY (Zaa (ZaG (own:=["number","length"]) (js:=[]) (CompOk.by (sc:=Zad Zcl) (N:=["p","lengths","there","many","reading","log","taken","made"]) rfl rfl (by decide +kernel)) rfl (Zcn rfl Te (Zaa (pv 1) Zac)) (Zbg (i:=0) (k:=1) (K:=K)) (fun _ _ _ _ _=>(Zbe K rfl (Zar (Zaj (i:=0) (by show (["number","length"]:List Str).Nodup;decide +kernel) rfl (YaI rfl) (.inr rfl)) (Zar (Zaj (i:=1) (by show (["number","length"]:List Str).Nodup;decide +kernel) rfl (YaI rfl) (.inr rfl)) ZaO)))) (fun _ _ _ _ _=>ZaC) (fun _ _ _ _ _=>(Zbi (Zaa (pv 1) (Zaa (pv 0) Zac))))) Zac))))
   (Zah (ws (Zaq (i:=3) scLJoin.nd rfl (YaI rfl) (Zam CM hr1 rfl (Zaa (pv 0) (Zaa (Zak Zap rfl T.len Ya1 (Zaa (pv 1) Zac)) Zac)))))
   (Zah (ws (Zaq (i:=4) scLJoin.nd rfl (YaI rfl) Zae))
   (Zah (ws (Zaq (i:=5) scLJoin.nd rfl (YaI rfl) (ZaM Zac)))
   (Zah (ws (Zdc Ya5 (ZaL ZhI (Zak Zap rfl T.len Ya1 (Zaa (pv 2) Zac)) Zae (ZaN _))
   (WSs.out (Zah (ws (Zaq (i:=6) scLJoin.nd rfl (YaI rfl) (Za7 Zdo (pv 2) ZbD (Za3 (pv 3)))))
    (Zah (ws (Zaq (i:=7) scLJoin.nd rfl (YaI rfl) (Zak (ZbL rfl) rfl T.sum Ze1 (Zaa (ZaG (own:=["length","number"]) (js:=[]) (CompOk.by (sc:=Zad Zcl) (N:=["p","lengths","there","many","reading","log","taken","made"]) rfl rfl (by decide +kernel)) rfl (Zb6 (pv 6)) (Zbg (i:=0) (k:=1) (K:=K)) (fun _ _ _ _ _=>(Zbe K rfl (Zar (Zaj (i:=0) (by show (["length","number"]:List Str).Nodup;decide +kernel) rfl (YaI rfl) (.inr rfl)) (Zar (Zaj (i:=1) (by show (["length","number"]:List Str).Nodup;decide +kernel) rfl (YaI rfl) (.inr rfl)) ZaO)))) (fun _ _ _ _ _=>ZaC) (fun _ _ _ _ _=>(pv 0))) Zac))))
    (Zah (ws (Zaq (i:=2) scLJoin.nd rfl (YaI rfl) (Zak Zbx rfl T.sorted ZbY (Zaa (Zat Zc5 (Za7 Zdo (pv 2) (Za3 (pv 3)) ZbD) (ZaM (Zaa (Zbi (Zaa (pv 7) (Zaa (Zat ZaQ (Zak Zap rfl T.len Ya1 (Zaa (pv 1) Zac)) (Zak Zap rfl T.len Ya1 (Zaa (pv 5) Zac))) Zac))) Zac))) Zac))))
    (Zah (ws (Zm0 (i:=4) scLJoin.nd rfl (YaI rfl) (pv 7) Zls))
    (Zah (ws (ZaD (ZeM Ybm YbA Ybz ZaZ (pv 5) (Zaa (ZaP Zax rfl T.tuple Zbl (Zaa (Zak Zel rfl T.sorted ZbY (Zaa (ZaG (own:=["length","number"]) (js:=[]) (CompOk.by (sc:=Zad Zcl) (N:=["p","lengths","there","many","reading","log","taken","made"]) rfl rfl (by decide +kernel)) rfl (Zb6 (pv 6)) (Zbg (i:=0) (k:=1) (K:=K)) (fun _ _ _ _ _=>(Zbe K rfl (Zar (Zaj (i:=0) (by show (["length","number"]:List Str).Nodup;decide +kernel) rfl (YaI rfl) (.inr rfl)) (Zar (Zaj (i:=1) (by show (["length","number"]:List Str).Nodup;decide +kernel) rfl (YaI rfl) (.inr rfl)) ZaO)))) (fun _ _ _ _ _=>ZaC) (fun _ _ _ _ _=>(pv 1))) Zac)) Zac)) Zac))))
    (ZaI (ws (Zaq (i:=3) scLJoin.nd rfl (YaI rfl) (pv 0))))))))))))
   (ZaI (ws (Zav (Zbi (Zaa (pv 4) (Zaa (pv 5) Zac)))))))))))),?_⟩
  have hz:20000<sizeLine:=by decide
  refine⟨_,rfl,p,rfl,by (clear hz hl5 p7;omega),by (clear hz hl5 p2;omega),?_⟩;refine⟨_,rfl,ll,b,rfl,⟨_,hL⟩,?_⟩;refine Zek (xs:=ls.map V.int) (fun acc i H2=>Same H H2/\∃ ps,H2 acc=some (.lst (ps.map V.ref))/\(∀ p∈ps,p≠acc)/\TuM H2 ps (prK (ls.take i))) (fun acc h0=>⟨Same.new h0,[],Zab,(fun p hp=>nomatch hp),TuM.nil⟩) (fun acc i H2 h0 _ p=>SqB.sameJ p.1 hL) ?_ ?_
  ·rintro acc i x q H2 h0 hx ⟨s2,ps,hacc,hne,hpr⟩ hq;obtain⟨l,hl,rfl⟩:=ZaJ hx;have hi:=(Yab.mp hl).1
   have s3:Same H2 (upd H2 q (.tup [.int i,.int l])):=Same.new hq;have hq3:upd H2 q (.tup [.int i,.int l]) q=some (.tup [.int i,.int l]):=Zab;generalize upd H2 q (.tup [.int i,.int l])=H3 at s3 hq3 ⊢;have hpl:ps.length=i:=by rw[hpr.len,ZeI,Yay];(clear hz hl5 p7 p2;omega)
   refine⟨q,_,rfl,SqT.of hq3,rfl,_,_,rfl,_,_,rfl,rfl,?_⟩;refine⟨_,rfl,_,rfl,(by show 2<=sizeLine;decide),fun t ht=>?_⟩;have hacc3:=s3 _ _ hacc;have hta:t≠acc:=Ybl (Zaf hacc3 ht);have s45:Same H3 (upd H3 t (.tup [.int l,.int i])):=Same.new ht;have ht5:upd H3 t (.tup [.int l,.int i]) t=some (.tup (([l,(i:Int)]:List Int).map V.int)):=Zab;generalize upd H3 t (.tup [.int l,.int i])=H5 at s45 ht5 ⊢;refine⟨_,s45 _ _ hacc3,by rw[Yaa];(clear hta p7 p2;omega),by rw[Yaa];exact hi,(s2.trans (s3.trans s45)).put h0,ps++[t],by rw[Zab,Yau];rfl,fun p hp=>?_,?_⟩
   ·rcases Yam.mp hp with hp | hp
    ·exact hne p hp
    ·rw[YaD.mp hp];exact hta
   ·have:=(hpr.same (s3.trans s45)).snoc ht5 (by simp);rw[<- Zkk hl] at this;refine this.keep fun p hp=>Zag ?_;rcases Yam.mp hp with hp | hp
    ·exact hne p hp
    ·rw[YaD.mp hp];exact hta
  rintro acc H2 h0 ⟨s2,ps,hacc,hne,hpr⟩;rw[Yaa,YaN] at hpr;refine⟨acc,ps,kf H2,rfl,SqL.of hacc,Zk9 hpr,fun fl fs nfl pm up=>?_⟩;have s23:Same H2 (upd H2 fl (.lst (fs.map V.ref))):=Same.new nfl;have hfl:upd H2 fl (.lst (fs.map V.ref)) fl=some (.lst (fs.map V.ref)):=Zab;have hlf2:TuM H2 fs (fs.map (kf H2)):=⟨fun p hp=>hpr.1 p (pm.mem_iff.mp hp),rfl⟩
  have lfp:(fs.map (kf H2)).Perm (prK ls):=by rw[<- hpr.2];exact pm.map _
  have lfu:(fs.map (kf H2)).Pairwise (fun p q=>lxB q p=false):=Ybf.mpr up;have hlf3:=hlf2.same s23;generalize upd H2 fl (.lst (fs.map V.ref))=H3 at s23 hfl hlf3 ⊢;generalize fs.map (kf H2)=ks at hlf3 lfp lfu;have sH3:=s2.trans s23;refine⟨_,rfl,_,rfl,ll,_,rfl,SqB.orJ (SqB.sameJ sH3 hL),p,_,rfl,by (clear hz hl5 p7;omega),?_⟩;rw[Yaa,Zoc (p:=(p:Int)) (by (clear hz hl5 p7;omega))];refine⟨YaY _,fun lg nlg=>?_⟩;have x4:upd H3 lg (.lst []) lg=some (.lst (([]:List Addr).map V.ref)):=Zab;have u4:Same H3 (upd H3 lg (.lst [])):=Same.new nlg;have flg:fl≠lg:=Zaf hfl nlg;have nlgH:H lg=none:=sH3.free nlg;generalize upd H3 lg (.lst [])=H4 at x4 u4 ⊢;have hk2:∀ k∈ks,k.length=2:=fun k hk=>by
   obtain⟨j,hj⟩:=YcX (lfp.subset hk);unfold prK at hj;rw[Yco] at hj
   cases e:ls[j]? with
   | none=>rw[e] at hj;cases hj
   | some l=>rw[e] at hj;cases hj;rfl
  have hfs:(ks.map fun k=>k.getD 0 0).Perm ls:=by
   have:=lfp.map fun k:List Int=>k.getD 0 0
   rwa [ZlV] at this
  have hksl:ks.length=ls.length:=by rw[lfp.length_eq,ZeI]
  have jgo:∀ r' L',JRun p (fmJ p ls.length) ((ls.length+([]:List Addr).length:Nat):Int) ks r' L'->Joined p ls (0+r') ([]++L'):=fun r' L' j=>⟨ks,lfp,lfu,by rw[Yck];exact j⟩
  refine⟨fun m σ Hx=>∃ (l:Addr) (qs:List Addr) (ks:List (List Int)) (rs:List Addr) (L:List (List Int)) (mm:Nat) (R:Int) (o6 o7:Option V),m=ks.length/\σ=[some (.int p),some (.ref ll),some (.ref l),some (.int mm),some (.int R),some (.ref lg),o6,o7]/\Hx l=some (.lst (qs.map V.ref))/\l≠lg/\TuM Hx qs ks/\(∀ k∈ks,k.length=2)/\ks.Pairwise (fun p q=>lxB q p=false)/\(∀ r' L',JRun p mm ((ls.length+rs.length:Nat):Int) ks r' L'->Joined p ls (R+r') (L++L'))/\(2<=ks.length->mm=fmJ p ks.length)/\Hx lg=some (.lst (rs.map V.ref))/\TTs Hx rs L/\rs.length+ks.length<=ls.length/\Same H Hx,
   ⟨ks.length,fl,fs,ks,[],[],_,0,_,_,rfl,rfl,u4 _ _ hfl,flg,hlf3.same u4,hk2,lfu,jgo,fun h=>by rw[hksl],x4,⟨rfl,fun j r xs a=>(nomatch a)⟩,by simp;(clear flg hz hl5 p7 p2;omega),sH3.trans u4⟩,?_⟩
  rintro m σ Hx ⟨l,qs,ks,rs,L,mm,R,o6,o7,rfl,rfl,hl,llg,hTu,hk2,hup,hJ,hmm,hlg,hLT,hrs,sx⟩;clear jgo x4 u4 flg hfs hksl lfp lfu hlf3 hlf2 hfl s23 pm up;have hql:qs.length=ks.length:=hTu.len;refine⟨_,rfl,l,_,rfl,.inl (SqL.of hl),_,_,rfl,rfl,_,rfl,?_⟩;rw[Yaa,hql];refine ite2 (fun hgt=>?_) (fun hle=>?_)
  ·have hgt:((ks.length:Nat):Int) > 1:=of_decide_eq_true hgt;have h2:2<=ks.length:=by (clear hql hrs hmm llg hz hl5 p7 p2;omega)
   have hmf:=hmm h2;subst hmf;obtain⟨f1,f2,f3,q,hq,f4⟩:=Zbv (p:=(p:Int)) (by (clear hmm h2 hgt hql hrs llg hz hl5 p7;omega)) h2;have hnx:=Zgg (p:=(p:Int)) (by (clear f4 hq f3 f2 f1 hmm h2 hgt hql hrs llg hz hl5 p7;omega)) h2;generalize fmJ p ks.length=F at *;refine⟨fun σ' H'=>∃ (m:Nat) (l:Addr) (qs:List Addr) (ks':List (List Int)) (rs:List Addr) (L:List (List Int)) (mm:Nat) (R:Int) (o6 o7:Option V),m=ks'.length/\m<ks.length/\σ'=[some (.int p),some (.ref ll),some (.ref l),some (.int mm),some (.int R),some (.ref lg),o6,o7]/\H' l=some (.lst (qs.map V.ref))/\l≠lg/\TuM H' qs ks'/\(∀ k∈ks',k.length=2)/\ks'.Pairwise (fun p q=>lxB q p=false)/\(∀ r' L',JRun p mm ((ls.length+rs.length:Nat):Int) ks' r' L'->Joined p ls (R+r') (L++L'))/\(2<=ks'.length->mm=fmJ p ks'.length)/\H' lg=some (.lst (rs.map V.ref))/\TTs H' rs L/\rs.length+ks'.length<=ls.length/\Same H H',fun σ' H' ⟨m,l,qs,ks',rs,L,mm,R,o6,o7,e1,e2,r⟩=>⟨m,e2,l,qs,ks',rs,L,mm,R,o6,o7,e1,r⟩,?_⟩;refine⟨_,rfl,_,rfl,_,rfl,l,_,rfl,SqL.of hl,fun tk ntk=>?_⟩;rw[ZkZ];have s1:Same Hx (upd Hx tk (.lst ((qs.map V.ref).take F))):=Same.new ntk;have e1:upd Hx tk (.lst ((qs.map V.ref).take F)) tk=some (.lst ((qs.take F).map V.ref)):=by rw[Zab,YcA]
   generalize upd Hx tk (.lst ((qs.map V.ref).take F))=G1 at s1 e1 ⊢;have hTk:TuM G1 (qs.take F) (ks.take F):=ZjS (hTu.same s1) F;refine⟨_,rfl,tk,true,rfl,⟨_,SqL.of e1⟩,?_⟩;refine ZbJ ((((ks.take F).map fun k=>k.getD 0 0)).map V.int) (show SqB true K G1 tk ((qs.take F).map V.ref) from SqL.of e1) (by rw[Yaa,Yaa,Yaa,Yay,Yay,hql]) (by rw[Yaa,Yay];(clear hnx f4 f3 f2 f1 hmm hq h2 hgt llg hz p7 p2;omega)) (fun j x y hx hy Hc sc' Rr hRr=>?_) fun ac G2 nac s2 hac=>?_
   ·obtain⟨z,a,b,hz,rfl,rfl⟩:=ZlZ hTk (fun k hk=>hk2 k (Ybk hk)) hx hy;exact⟨z,_,rfl,SqT.of (sc' _ _ hz),rfl,_,_,rfl,_,_,rfl,rfl,_,rfl,hRr Hc (Same.refl _)⟩
   refine⟨ac,_,rfl,SqL.of hac,?_⟩;have hl2:=s2 _ _ (s1 _ _ hl);have hTu2:=(hTu.same s1).same s2;have hlg2:=s2 _ _ (s1 _ _ hlg);have hLT2:=TTs.sameJ (TTs.sameJ hLT s1) s2;have sx2:=(sx.trans s1).trans s2;have htk2:=s2 _ _ e1;have hTk2:=hTk.same s2;generalize hmd:((ks.take F).map fun k=>k.getD 0 0).sum=made;refine⟨_,rfl,_,rfl,_,rfl,l,_,rfl,SqL.of hl2,fun u1 nu1=>?_⟩;rw[Zk0];have s3:Same G2 (upd G2 u1 (.lst ((qs.map V.ref).drop F))):=Same.new nu1;have e3:upd G2 u1 (.lst ((qs.map V.ref).drop F)) u1=some (.lst ((qs.drop F).map V.ref)):=by rw[Zab,YdL]
   generalize upd G2 u1 (.lst ((qs.map V.ref).drop F))=G3 at s3 e3 ⊢;refine⟨_,rfl,_,rfl,ll,_,rfl,SqB.orJ (SqB.sameJ (sx2.trans s3) hL),_,rfl,lg,_,rfl,.inl (SqL.of (s3 _ _ hlg2)),_,_,rfl,rfl,(by show 2<=sizeLine;decide),fun t nt=>?_⟩;have s4:Same G3 (upd G3 t (.tup [.int made,.int (((ls.map V.int).length:Int)+((rs.map V.ref).length:Int))])):=Same.new nt;have e4:upd G3 t (.tup [.int made,.int (((ls.map V.int).length:Int)+((rs.map V.ref).length:Int))]) t=some (.tup (([made,((ls.map V.int).length:Int)+((rs.map V.ref).length:Int)]:List Int).map V.int)):=Zab;generalize upd G3 t (.tup [.int made,.int (((ls.map V.int).length:Int)+((rs.map V.ref).length:Int))])=G4 at s4 e4 ⊢;have hid9:((ls.map V.int).length:Int)+((rs.map V.ref).length:Int)=((ls.length+rs.length:Nat):Int):=by rw[Yaa,Yaa];(clear hmd hnx f4 f3 f2 f1 hmm hq h2 hgt hql hrs llg hz hl5 p7 p2;omega)
   generalize ((ls.map V.int).length:Int)+((rs.map V.ref).length:Int)=id9 at e4 hid9;refine⟨(by show 1<=sizeLine;decide),fun u2 nu2=>?_⟩;have s5:Same G4 (upd G4 u2 (.lst [.ref t])):=Same.new nu2;have e5:upd G4 u2 (.lst [.ref t]) u2=some (.lst (([t]:List Addr).map V.ref)):=Zab;generalize upd G4 u2 (.lst [.ref t])=G5 at s5 e5 ⊢;refine⟨u1,u2,_,_,rfl,rfl,s5 _ _ (s4 _ _ e3),e5,by rw[sizeLine_eq,Yaa,Yaa,Ybg];simp;(clear hid9 hmd hnx f4 f3 f2 f1 hmm hq h2 hgt llg hz p7 p2;omega),fun u3 nu3=>?_⟩;rw[<- Yau];have s6:Same G5 (upd G5 u3 (.lst ((qs.drop F++[t]).map V.ref))):=Same.new nu3;have e6:upd G5 u3 (.lst ((qs.drop F++[t]).map V.ref)) u3=some (.lst ((qs.drop F++[t]).map V.ref)):=Zab;generalize upd G5 u3 (.lst ((qs.drop F++[t]).map V.ref))=G6 at s6 e6 ⊢;have s26:=(s3.trans s4).trans (s5.trans s6);have hT6:TuM G6 (qs.drop F++[t]) (ks.drop F++[[made,id9]]):=((ZjT hTu2 F).same s26).snoc (s6 _ _ (s5 _ _ e4)) (by simp);refine⟨u3,_,kf G6,rfl,SqL.of e6,Zk9 hT6,fun fl2 fs2 nfl2 pm2 up2=>?_⟩;have s7:Same G6 (upd G6 fl2 (.lst (fs2.map V.ref))):=Same.new nfl2;have e7:upd G6 fl2 (.lst (fs2.map V.ref)) fl2=some (.lst (fs2.map V.ref)):=Zab;have hT7:TuM G6 fs2 (fs2.map (kf G6)):=⟨fun p hp=>hT6.1 p (pm2.mem_iff.mp hp),rfl⟩
   have pk:(fs2.map (kf G6)).Perm (ks.drop F++[[made,id9]]):=by rw[<- hT6.2];exact pm2.map _
   have uk:(fs2.map (kf G6)).Pairwise (fun p q=>lxB q p=false):=Ybf.mpr up2;have hT7':=hT7.same s7;have nfl2lg:fl2≠lg:=(Zaf (s26 _ _ hlg2) nfl2).symm;generalize upd G6 fl2 (.lst (fs2.map V.ref))=G7 at s7 e7 hT7' ⊢;generalize fs2.map (kf G6)=ks2 at hT7' pk uk;have s27:=s26.trans s7;have hlg7:=s27 _ _ hlg2;have htk7:=s27 _ _ htk2;have hTk7:=hTk2.same s27;have sx7:=sx2.trans s27;refine⟨_,rfl,_,rfl,R,made,rfl,rfl,?_⟩;refine⟨_,rfl,.inl ⟨rfl,_,SqL.of hlg7⟩,_,rfl,tk,true,rfl,⟨_,SqL.of htk7⟩,?_⟩;refine ZbJ ((((ks.take F).map fun k=>k.getD 1 0)).map V.int) (show SqB true K G7 tk ((qs.take F).map V.ref) from SqL.of htk7) (by rw[Yaa,Yaa,Yaa,Yay,Yay,hql]) (by rw[Yaa,Yay];(clear nfl2lg hid9 hmd hnx f4 f3 f2 f1 hmm hq h2 hgt llg hz p7 p2;omega)) (fun j x y hx hy Hc sc' Rr hRr=>?_) fun ac8 G8 nac8 s8 hac8=>?_
   ·obtain⟨z,a,b,hz,rfl,rfl⟩:=Zkp hTk7 (fun k hk=>hk2 k (Ybk hk)) hx hy;exact⟨z,_,rfl,SqT.of (sc' _ _ hz),rfl,_,_,rfl,_,_,rfl,rfl,_,rfl,hRr Hc (Same.refl _)⟩
   refine⟨ac8,_,rfl,SqL.of hac8,fun l9 ms nl9 hpm hup9=>?_⟩;have s9:Same G8 (upd G8 l9 (.lst (ms.map V.int))):=Same.new nl9;have e9:upd G8 l9 (.lst (ms.map V.int)) l9=some (.lst (ms.map V.int)):=Zab;generalize upd G8 l9 (.lst (ms.map V.int))=G9 at s9 e9 ⊢;refine⟨l9,_,rfl,.inl ⟨SqL.of e9,fun tt ntt=>?_⟩⟩;have s10:Same G9 (upd G9 tt (.tup (ms.map V.int))):=Same.new ntt;have e10:upd G9 tt (.tup (ms.map V.int)) tt=some (.tup (ms.map V.int)):=Zab;generalize upd G9 tt (.tup (ms.map V.int))=G10 at s10 e10 ⊢;have s710:=(s8.trans s9).trans s10;have hlg10:=s710 _ _ hlg7;have hks2l:ks2.length=ks.length - F+1:=by rw[pk.length_eq,Yaf,Ybg];rfl
   refine⟨lg,_,_,rfl,rfl,hlg10,by rw[Yaa];(clear hks2l nfl2lg hid9 hmd hnx f4 f3 f2 f1 hmm hq h2 hgt hql llg p7 p2;omega),?_⟩;have hk22:∀ k∈ks2,k.length=2:=fun k hk=>by
    rcases Yam.mp (pk.subset hk) with z | z
    ·exact hk2 k (Yba z)
    ·rw[YaD.mp z];rfl
   have hJn:∀ r' L',JRun p p ((ls.length+(rs++[tt]).length:Nat):Int) ks2 r' L'->Joined p ls (R+made+r') ((L++[ms])++L'):=fun r' L' j=>by
    have:=hJ (made+r') (ms::L') (by
     rw[<- hmd];refine JRun.step _ _ ks ks2 r' ms L' h2 hpm hup9 ?_ uk ?_
     ·have:=pk;rw[hid9,<- hmd] at this;exact this
     ·rw[show ((ls.length+rs.length:Nat):Int)+1=((ls.length+(rs++[tt]).length:Nat):Int) by rw[Yaf];simp;(clear hks2l nfl2lg hid9 hmd hnx f4 f3 f2 f1 hmm hq h2 hgt hql hrs llg hz hl5 p7 p2;omega)];exact j)
    rwa [List.append_cons,<- YeT] at this
   refine⟨_,rfl,ks2.length,fl2,fs2,ks2,rs++[tt],L++[ms],p,R+made,_,_,rfl,by (clear nfl2lg hid9 hmd hnx f4 f3 f2 hmm hq h2 hql hrs llg hz hl5 p7 p2;omega),rfl,?_,nfl2lg,?_,hk22,uk,hJn,fun h=>?_,by rw[Zab,Yau];rfl,TTs.offJ (TTs.snocJ (TTs.sameJ hLT2 (s27.trans s710)) e10) hlg10,by rw[Yaf,hks2l];simp;(clear hks2l nfl2lg hid9 hmd hnx f4 f3 f2 hmm hq h2 hql llg hz hl5 p7 p2;omega),(sx7.trans s710).put nlgH⟩
   ·rw[Zag nfl2lg];exact s710 _ _ e7
   ·refine (hT7'.same s710).keep fun z hz=>Zag fun e=>?_;obtain⟨k',_,hk'⟩:=(hT7'.same s710).1 z hz;rw[e,hlg10] at hk';cases hk'
   ·rw[hks2l] at h ⊢;have:=hnx h
    (clear this hks2l nfl2lg hid9 hmd f4 f3 f2 f1 hmm hq h2 hgt hql hrs llg hz hl5 p7 p2;omega)
  ·have hle:¬ ((ks.length:Nat):Int) > 1:=fun z=>hle (decide_eq_true z);refine⟨_,rfl,_,rfl,(by show 2<=sizeLine;decide),fun t nt=>?_⟩;have hj:=hJ 0 [] (.done _ _ _ (by (clear hql hrs hmm llg hz hl5 p7 p2;omega)));rw[YdD,Ybb] at hj;have s9:=Same.new (o:=.tup [V.int R,.ref lg]) nt;exact k t lg rs R L _ (sx.free nt) nlgH Zab (s9 _ _ hlg) (TTs.sameJ hLT s9) hj (sx.trans s9)
end
end Fj99
namespace Fj99
open PySem L2 Lv
section
variable {P:Program}{w:World}{K:Yac}{mg:Str->Option Value}{base:Heap}
theorem ZlJ:FnScope ["there","p"] ["there","p"] (Zad Zdp):=⟨rfl,rfl,rfl,by decide +kernel,rfl,by decide +kernel,by decide +kernel⟩
def ZfW:Sp:=fun vs H Q _=>∃ (a:Addr) (xs:List Int) (p:Nat),vs=[.ref a,.int p]/\H a=some (.lst (xs.map V.int))/\2<=p/\p<=7/\xs.length<=1000/\∀ l as H',H l=none->(∀ x∈as,H x=none)->H' l=some (.lst (as.map V.ref))->LLs H' as (Zbu p xs)->Same H H'->Q (.ref l) H'
theorem ZiH {f:Addr}{fd:FuncData} (F:Fun K "parts_of" "parts_of" Zdp f fd) (T:Txt mg):FnOk P w K mg base CX0 1 f fd ["there","p"] ZfW:=by
 refine okW F ZlJ (fun vs H Q E h=>?_) (fun cdv A outer s H vs Q E hr h=>?_)
 ·obtain⟨a,xs,p,rfl,_⟩:=h;rfl
 ·obtain⟨a,xs,p,rfl,hA,p2,p7,hx,k⟩:=h;refine⟨_,(ZaI (ws (Zav (ZaG (own:=["start"]) (js:=[0,1]) (CompOk.by (sc:=Zad Zdp) (N:=["there","p"]) rfl rfl (by decide +kernel)) rfl (Zfl rfl T.range (Zaa Zae (Zaa (Zak Zap rfl T.len Ya1 (Zaa (pv 0) Zac)) (Zaa (pv 1) Zac)))) Zay (fun _ _ _ _ _=>(Zaj (i:=0) (by show (["start","there","p"]:List Str).Nodup;decide +kernel) rfl (YaI rfl) (.inr rfl))) (fun _ _ _ _ _=>ZaC) (fun _ _ _ _ _=>(Za7 (Zj3 K) (pv 1) (Za3 (pv 0)) (Za3 (Zat ZaQ (pv 0) (pv 2))))))))),?_⟩;have hz:20000<sizeLine:=by decide
  have hn:((Zcq p xs.length:Nat):Int)=Yb1 0 ((xs.map V.int).length) p:=by
   rw[Yaa];unfold Yb1 Zcq;rw[if_pos (show (p:Int) > 0 by (clear hz hx p7;omega))];by_cases h0:xs.length=0
   ·rw[if_pos h0,if_neg (by (clear hz hx p7 p2;omega))];rfl
   ·rw[if_neg h0,if_pos (by (clear hz hx p7 p2;omega))];rw[show ((xs.length:Nat):Int) - 0 - 1=((xs.length - 1:Nat):Int) by (clear hz hx p7 p2;omega),<- Int.natCast_ediv]
    (clear h0 hz hx p7 p2;omega)
  have hnl:Zcq p xs.length<=1001:=by
   unfold Zcq;split
   ·(clear hn hz hx p7 p2;omega)
   ·have:=Nat.div_le_self (xs.length - 1) p
    (clear hn hz p7 p2;omega)
  refine⟨_,rfl,a,_,rfl,.inl (SqL.of hA),_,rfl,0,_,p,Zcq p xs.length,rfl,by (clear hnl hn hz hx p7;omega),by (clear hnl hn hz hx p7 p2;omega),by rw[Yaa];(clear hnl hn hz p7 p2;omega),by (clear hnl hn hz hx p2;omega),hn,by (clear hn hz hx p7 p2;omega),?_⟩;refine Zgp (fun acc i Hc=>∃ as:List Addr,Hc acc=some (.lst (as.map V.ref))/\LLs Hc as ((Zbu p xs).take i)/\acc ∉ as/\(∀ x∈as,H x=none)/\Same H Hc) (fun acc h0=>⟨[],Zab,⟨rfl,fun j r ys b=>(nomatch b)⟩,by simp,by simp,Same.new h0⟩) ?_ ?_
  ·rintro acc i Hc h0 hi ⟨as,hacc,hLL,hna,hfr,sc⟩;unfold Zhs;simp only[if_true];refine⟨_,rfl,_,rfl,_,rfl,_,rfl,_,rfl,_,_,rfl,rfl,_,rfl,a,_,rfl,SqL.of (sc _ _ hA),fun l nl=>?_⟩;have hc1:cutV (xs.map V.int) (some (0+(i:Int)*(p:Int))) (some (0+(i:Int)*(p:Int)+p))=((xs.drop (i*p)).take p).map V.int:=by
    rw[show (0:Int)+(i:Int)*(p:Int)=((i*p:Nat):Int) by rw[Yck,Int.natCast_mul],Zmz,YcA,YdL]
   have el:(Zbu p xs)[i]?=some ((xs.drop (i*p)).take p):=by
    unfold Zbu;rw[Yat,Yc3 hi];rfl
   rw[hc1];generalize (xs.drop (i*p)).take p=T9 at el;have s1:Same Hc (upd Hc l (.lst (T9.map V.int))):=Same.new nl;have e1:upd Hc l (.lst (T9.map V.int)) l=some (.lst (T9.map V.int)):=Zab;have nla:acc≠l:=Zaf hacc nl;generalize upd Hc l (.lst (T9.map V.int))=G at s1 e1 ⊢;have hna2:acc ∉ as++[l]:=fun z=>by
    rcases Yam.mp z with z | z
    ·exact hna z
    ·exact nla (YaD.mp z)
   have hal:as.length<=i:=by rw[hLL.1,Yay];(clear hna2 nla hna hi hnl hn hz hx p7 p2;omega)
   refine⟨_,s1 _ _ hacc,by rw[Yaa];(clear hna2 nla hna hn hx p7 p2;omega),hi,as++[l],by rw[Zab,Yau];rfl,?_,hna2,fun x hx=>?_,(sc.trans s1).put h0⟩
   rotate_left
   ·rcases Yam.mp hx with z | z
    ·exact hfr x z
    ·rw[YaD.mp z];exact sc.free nl
   rw[Ybj,el,Yby];exact LLs.off (LLs.snocJ (LLs.sameJ hLL s1) e1) hna2
  ·rintro acc Hc h0 ⟨as,hacc,hLL,hna,hfr,sc⟩;rw[Ya2 (by unfold Zbu;rw[Yaa,YbX];exact Yak _)] at hLL;exact k acc as Hc h0 hfr hacc hLL sc
theorem scNJ:FnScope ["p","numbers","rows","most","log","there","times","parts","part","left"] ["p","numbers"] (Zad sNJ):=⟨rfl,rfl,rfl,by decide +kernel,rfl,by decide +kernel,by decide +kernel⟩
theorem Znz:bootBuiltins "any"=some (.builtin "any"):=by decide +kernel
def spNJ (K:Yac):Sp:=fun vs H Q _=>∃ (p:Nat) (nl:Addr) (b:Bool) (ns:List Int),vs=[.int p,.ref nl]/\2<=p/\p<=7/\SqB b K H nl (ns.map V.int)/\1<=ns.length/\ns.length<=500 /\
 ((∀ (lg:Addr) (qs:List Addr) (L:List (List Int)) H',nj p ns=some L->H lg=none->H' lg=some (.lst (qs.map V.ref))->TTs H' qs L->Same H H'->Q (.ref lg) H')/\∀ H',nj p ns=none->Same H H'->Q .non H')
theorem ZnZ {f f1 f2:Addr}{fd d1 d2:FuncData} (F:Fun K "numbers_join" "numbers_join" sNJ f fd) (T:Txt mg) (Ta:mg "any"=none) (CW:Cal P w K mg base 2 "check_ways" ["p"] Zcf f1 d1) (CP:Cal P w K mg base 1 "parts_of" ["there","p"] ZfW f2 d2):FnOk P w K mg base CX0 3 f fd ["p","numbers"] (spNJ K):=by
 refine okW F scNJ (fun vs H Q E h=>?_) (fun cdv A outer s H vs Q E hr h=>?_)
 ·obtain⟨p,nl,b,ns,rfl,_⟩:=h;rfl
 ·obtain⟨p,nl,b,ns,rfl,p2,p7,hN,hn1,hn5,k⟩:=h;have hr1:Room 1 _:=hr.mono (by decide);have hr2:Room 2 _:=hr.mono (by decide);refine⟨_,(Zah (ws (ZaD (Zam CW hr2 rfl (Zaa (pv 0) Zac))))
   (Zah (ws (Zaq (i:=2) scNJ.nd rfl (Yde rfl) (Zak Zap rfl T.len Ya1 (Zaa (pv 1) Zac))))
   (Zah (Zeo (Zd9 (Zak (Zhi rfl) rfl Ta Znz (Zaa (ZaG (own:=["number"]) (js:=[]) (CompOk.by (sc:=Zad sNJ) (N:=["p","numbers","rows","most","log","there","times","parts","part","left"]) rfl rfl (by decide +kernel)) rfl (Zb6 (pv 1)) Zay (fun _ _ _ _ _=>(Zaj (i:=0) (by show (["number"]:List Str).Nodup;decide +kernel) rfl (YaI rfl) (.inr rfl))) (fun _ _ _ _ _=>ZaC) (fun _ _ _ _ _=>(ZcN Zkr (pv 0) Zae (ZaN _)))) Zac)))
   (ZaI (ws (Zav ZgN)))
   Zbq)
   (Zah (ws (Zaq (i:=3) scNJ.nd rfl (Yde rfl) (ZaG (own:=["number"]) (js:=[2]) (CompOk.by (sc:=Zad sNJ) (N:=["p","numbers","rows","most","log","there","times","parts","part","left"]) rfl rfl (by decide +kernel)) rfl (Zb6 (pv 1)) Zay (fun _ _ _ _ _=>(Zaj (i:=0) (by show (["number","rows"]:List Str).Nodup;decide +kernel) rfl (YaI rfl) (.inr rfl))) (fun _ _ _ _ _=>ZaC) (fun _ _ _ _ _=>(Zak (ZfC rfl) rfl T.min Znv (Zaa (pv 0) (Zaa (Zat Zc3 (pv 1) Zae) Zac)))))))
   (Zah (ws (Zaq (i:=4) scNJ.nd rfl (YaI rfl) (ZaM Zac)))
   (Zah (ws (Zaq (i:=5) scNJ.nd rfl (YaI rfl) (ZaM Zac)))
   (Zah (ws (Zbd Ya5 rfl (Zfl rfl T.range (Zaa (Zat Zc3 (pv 2) Zae) (Zaa Zae (Zaa (Zf6 Zdh Zae) Zac)))) (Zaj (i:=6) scNJ.nd rfl (Yde rfl))
   (WSs.out (Zah (ws (Zaq (i:=7) scNJ.nd rfl (YaI rfl) (Zam CP hr1 rfl (Zaa (Zat Zc5 (pv 5) (ZaG (own:=["row"]) (js:=[3,6]) (CompOk.by (sc:=Zad sNJ) (N:=["p","numbers","rows","most","log","there","times","parts","part","left"]) rfl rfl (by decide +kernel)) rfl (ZaR rfl T.range (Zaa (pv 2) Zac)) Zay (fun _ _ _ _ _=>(Zaj (i:=0) (by show (["row","most","times"]:List Str).Nodup;decide +kernel) rfl (YaI rfl) (.inr rfl))) (fun _ _ _ _ _=>(Zit (ZaL Zm8 (Zaz (Zg5 K) (pv 1) (pv 0) (fun _ _=>rfl)) (pv 2) (ZaN _)))) (fun _ _ _ _ _=>(pv 0)))) (Zaa (pv 0) Zac)))))
    (Zah (ws (Zaq (i:=5) scNJ.nd rfl (YaI rfl) (ZaM Zac)))
    (ZaI (ws (Zbd Ya5 rfl (Zb6 (pv 7)) (Zaj (i:=8) scNJ.nd rfl (YaI rfl))
    (WSs.out (Zah (Zeo (ZaL ZhI (Zak Zap rfl T.len Ya1 (Zaa (pv 8) Zac)) Zae (ZaN _))
     (ZaI (ws (ZaD (ZeM Ybm YbA Ybz ZaZ (pv 4) (Zaa (ZaP Zax rfl T.tuple Zbl (Zaa (Zak Zel rfl T.sorted ZbY (Zaa (pv 8) Zac)) Zac)) Zac)))))
     Zbq)
     (ZaI (ws (ZaD (ZeM Ybm YbA Ybz ZaZ (pv 5) (Zaa (ZeK (ZaL ZhI (Zak Zap rfl T.len Ya1 (Zaa (pv 8) Zac)) Zae (ZaN _)) (Zat Zc3 (Zat ZaQ (pv 2) (Zak Zap rfl T.len Ya1 (Zaa (pv 4) Zac))) Zae) (Zaz ix_list (pv 8) Zae (fun _ _=>rfl))) Zac)))))))))))))))
   (Zah (ws (Zaq (i:=9) scNJ.nd rfl (YaI rfl) (Zat Zc5 (pv 5) (ZaG (own:=["row"]) (js:=[3]) (CompOk.by (sc:=Zad sNJ) (N:=["p","numbers","rows","most","log","there","times","parts","part","left"]) rfl rfl (by decide +kernel)) rfl (ZaR rfl T.range (Zaa (pv 2) Zac)) Zay (fun _ _ _ _ _=>(Zaj (i:=0) (by show (["row","most"]:List Str).Nodup;decide +kernel) rfl (YaI rfl) (.inr rfl))) (fun _ _ _ _ _=>(Zit (ZaL Zm8 (Zaz (Zg5 K) (pv 1) (pv 0) (fun _ _=>rfl)) Zae (ZaN _)))) (fun _ _ _ _ _=>(pv 0))))))
   (ZaI (ws (Zav (ZeK (ZaL Zdv (Zak Zap rfl T.len Ya1 (Zaa (pv 9) Zac)) Zae (ZaN _)) (pv 4) ZgN)))))))))))),?_⟩
  have hz:20000<sizeLine:=by decide
  refine⟨_,rfl,p,rfl,by (clear hz k hn5 hn1 p7;omega),by (clear hz k hn5 hn1 p2;omega),?_⟩;refine⟨_,rfl,nl,_,rfl,SqB.orJ hN,?_⟩;rw[Yaa];refine⟨_,rfl,nl,b,rfl,⟨_,hN⟩,?_⟩;refine ZbJ (ns.map fun n=>V.bl (decide (n<0))) hN (by rw[Yaa,Yaa]) (by rw[Yaa];(clear hz k hn1 p7 p2;omega)) (fun i x y hx hy Hc sc Rr hRr=>?_) fun acc G n1 s1 hacc=>?_
  ·obtain⟨z,hz,rfl,rfl⟩:=ZkM hx hy;exact⟨_,rfl,_,_,rfl,rfl,hRr Hc (Same.refl _)⟩
  refine⟨acc,ns.map fun n=>decide (n<0),rfl,SqL.of (by rw[hacc,Yb3];rfl),_,rfl,?_⟩;have ea:(ns.map fun n=>decide (n<0)).any id=ns.any fun n=>decide (n<0):=by rw[List.any_map];rfl
  rw[ea];by_cases hneg:(ns.any fun n=>decide (n<0))=true
  ·rw[hneg];refine iteT ?_;exact k.2 G (by unfold nj;rw[if_pos hneg]) s1
  rw[Bool.not_eq_true] at hneg;rw[hneg];refine iteF ?_;refine⟨_,rfl,nl,b,rfl,⟨_,Same.sqB s1 hN⟩,?_⟩;refine ZbJ ((ZaE ns).map V.int) (Same.sqB s1 hN) (by rw[Yaa,Yaa,ZbX]) (by rw[Yaa];(clear hz k hn1 p7 p2;omega)) (fun i x y hx hy Hc sc Rr hRr=>?_) fun ma G2 n2 s2 hma=>?_
  ·obtain⟨z,hz,rfl⟩:=ZaJ hx;unfold ZaE at hy;rw[Yat,Yat,hz] at hy;cases hy;refine⟨_,rfl,_,rfl,_,_,rfl,rfl,z,_,rfl,?_⟩;have:=hRr Hc (Same.refl _);dsimp only at this
   rwa [show min z ((ns.length:Int) - 1)=if (ns.length:Int) - 1<z then (ns.length:Int) - 1 else z by split <;> (clear k hn5 hn1 p7 p2;omega)] at this
  have s02:=s1.trans s2;have nmaH:H ma=none:=s1.free n2;have hcl:=ZbX ns;generalize hmo:ZaE ns=mo at *;refine⟨YaY _,fun lg nlg=>?_⟩;have s3:Same G2 (upd G2 lg (.lst [])):=Same.new nlg;have e3:upd G2 lg (.lst []) lg=some (.lst (([]:List Addr).map V.ref)):=Zab;have hma3:=s3 _ _ hma;have nmalg:ma≠lg:=Zaf hma nlg;generalize upd G2 lg (.lst [])=G3 at s3 e3 hma3 ⊢;refine⟨YaY _,fun th nth=>?_⟩;have s4:Same G3 (upd G3 th (.lst [])):=Same.new nth;have e4:upd G3 th (.lst []) th=some (.lst (([]:List Int).map V.int)):=Zab;have hma4:=s4 _ _ hma3;have hlg4:=s4 _ _ e3;have nmath:ma≠th:=Zaf hma3 nth;have nlgth:lg≠th:=Zaf e3 nth;have s24:=s3.trans s4;have s04:=s02.trans s24;have nlgH:H lg=none:=s02.free nlg;have nthH:H th=none:=(s02.trans s3).free nth;generalize upd G3 th (.lst [])=G4 at s4 e4 hma4 hlg4 s24 s04 ⊢;have hrs:((ns.length - 1:Nat):Int)=Yb1 ((ns.length:Int) - 1) 0 (-1):=by
   unfold Yb1;rw[if_neg (by decide)];split
   ·rw[show (- -1:Int)=1 by decide,Yfb];(clear nlgth nmath nmalg hcl hz k hn5 hn1 p7 p2;omega)
   ·(clear nlgth nmath nmalg hcl hz k hn5 hn1 p7 p2;omega)
  refine⟨_,rfl,_,_,rfl,rfl,_,rfl,_,0,-1,ns.length - 1,rfl,by decide,by (clear hrs nlgth nmath nmalg hcl hz k hn1 p7 p2;omega),by decide,by decide,hrs,by (clear hrs nlgth nmath nmalg hcl hz k hn1 p7 p2;omega),?_⟩;refine ZhQ (fun i σ Hx=>∃ (th:Addr) (qs:List Addr) (o6 o7 o8 o9:Option V),σ=[some (.int p),some (.ref nl),some (.int (ns.length:Int)),some (.ref ma),some (.ref lg),some (.ref th),o6,o7,o8,o9]/\Hx ma=some (.lst (mo.map V.int))/\Hx lg=some (.lst (qs.map V.ref))/\TTs Hx qs (njTo p mo i).1/\Hx th=some (.lst ((njTo p mo i).2.map V.int))/\Same H Hx)
   ⟨th,[],_,_,_,_,rfl,hma4,hlg4,⟨rfl,fun j r xs a=>(nomatch a)⟩,e4,s04⟩ ?_ ?_
  ·rintro i σ Hx hi ⟨th,qs,o6,o7,o8,o9,rfl,hma,hlg,hTT,hth,sx⟩;have hmo':(mo.length:Int)=ns.length:=by (clear hi hrs nlgth nmath nmalg hz k hn5 hn1 p7 p2;omega)
   have hle:=ZiS (p:=p) (by (clear hmo' hi hrs nlgth nmath nmalg hcl hz k hn5 hn1 p7;omega)) mo i;rw[show ((ns.length:Int) - 1+(i:Int)*(-1))=(mo.length:Int) - 1 - i by (clear hle hmo' hi hrs nlgth nmath nmalg hz k hn5 hn1 p7 p2;omega)];generalize ht:(mo.length:Int) - 1 - i=t9;generalize hst:njTo p mo i=st at hTT hth hle;refine⟨_,rfl,_,rfl,_,rfl,by (clear hle ht hmo' hi hrs nlgth nmath nmalg hcl hz k hn5 hn1 p7 p2;omega),by (clear hle ht hmo' hi hrs nlgth nmath nmalg hcl hz k hn1 p7 p2;omega),?_⟩;rw[YaS];refine Zfz (fun j=>if mo.getD j 0=t9 then some (V.int (j:Int)) else none) (by (clear hle ht hmo' hi hrs nlgth nmath nmalg hcl hz k hn1 p7 p2;omega)) (fun j hj Hc sc A9 B9 hAB=>?_) fun ac G5 nac s5 hac=>?_
   ·have hat:atI (mo.map V.int) ((0:Int)+(j:Int))=some (.int (mo.getD j 0)):=by rw[Yck];exact ZdK (by (clear hj hle ht hmo' hi hrs nlgth nmath nmalg hcl hz k hn5 hn1 p7 p2;omega)) (by (clear hle ht hmo' hi hrs nlgth nmath nmalg hz k hn5 hn1 p7 p2;omega))
    refine⟨_,rfl,_,rfl,ma,_,_,_,rfl,rfl,SqL.of (sc _ _ hma),hat,_,rfl,rfl,_,rfl,?_⟩;rw[Zgo];by_cases h:mo.getD j 0=t9
    ·rw[if_pos h] at hAB;rw[show (mo.getD j 0 == t9)=true by rw[h];exact beq_self_eq_true _];refine iteT ⟨_,rfl,?_⟩;rw[Yck];exact hAB Hc (Same.refl _)
    ·rw[if_neg h] at hAB;rw[show (mo.getD j 0 == t9)=false from beq_eq_false_iff_ne.mpr h];exact iteF (hAB Hc (Same.refl _))
   rw[<- hcl,ZgE] at hac;have hrl:=Zd7 mo t9;refine⟨th,ac,_,_,rfl,rfl,s5 _ _ hth,hac,by rw[Yaa,Yaa];(clear ht hmo' hi hrs nlgth nmath nmalg k hn1 p7 p2;omega),fun u nu=>?_⟩;rw[<- Yau];have s6:Same G5 (upd G5 u (.lst ((st.2++Zau mo t9).map V.int))):=Same.new nu;have e6:upd G5 u (.lst ((st.2++Zau mo t9).map V.int)) u=some (.lst ((st.2++Zau mo t9).map V.int)):=Zab;generalize upd G5 u (.lst ((st.2++Zau mo t9).map V.int))=G6 at s6 e6 ⊢;have s56:=s5.trans s6;have hn9:(njTo p mo (i+1))=(Zbu p (st.2++Zau mo t9)).foldl (ZaA mo.length) (st.1,[]):=by rw[njTo,hst,ht];rfl
   refine⟨_,rfl,u,_,p,rfl,e6,p2,p7,by rw[Yaf];(clear ht hmo' hi hrs nlgth nmath nmalg hz k hn1 p7 p2;omega),fun pa as G7 npa hfr hpa hLL s7=>?_⟩;have s57:=s56.trans s7;have hPok:∀ T∈Zbu p (st.2++Zau mo t9),1<=T.length/\T.length<=p:=fun T hT=>Zde (by (clear hrl hle ht hmo' hi hrs nlgth nmath nmalg hcl hz k hn5 hn1 p7;omega)) hT;have hPl:as.length<=1000:=by
    rw[hLL.1];unfold Zbu;rw[Yaa,YbX];unfold Zcq;rw[Yaf];split
    ·(clear hrl hle ht hmo' hi hrs nlgth nmath nmalg hcl hz k hn5 hn1 p7 p2;omega)
    ·have:=Nat.div_le_self (st.2.length+(Zau mo t9).length - 1) p
     (clear ht hmo' hi hrs nlgth nmath nmalg hz k hn1 p7 p2;omega)
   have hPf:(Zbu p (st.2++Zau mo t9)).flatten.length=st.2.length+(Zau mo t9).length:=by rw[ZbR (by (clear hPl hrl hle ht hmo' hi hrs nlgth nmath nmalg hcl hz k hn5 hn1 p7;omega)),Yaf]
   generalize Zbu p (st.2++Zau mo t9)=Ps at hn9 hLL hPok hPf;refine⟨YaY _,fun t2 nt2=>?_⟩;have s8:Same G7 (upd G7 t2 (.lst [])):=Same.new nt2;have e8:upd G7 t2 (.lst []) t2=some (.lst (([]:List Int).map V.int)):=Zab;have hpa8:=s8 _ _ hpa;have nt2as:t2 ∉ as:=fun z=>by
    obtain⟨j,hj⟩:=YcX z;have hjl:=(Yab.mp hj).1
    have:=hLL.2 j t2 _ hj (Yad (by rw[<- hLL.1];exact hjl));rw[nt2] at this;cases this
   have hlg7:=s57 _ _ hlg;have hma7:=s57 _ _ hma;have nt2lg:t2≠lg:=fun z=>by rw[z,hlg7] at nt2;cases nt2
   have nt2ma:t2≠ma:=fun z=>by rw[z,hma7] at nt2;cases nt2
   have nt2pa:t2≠pa:=fun z=>by rw[z,hpa] at nt2;cases nt2
   have nlgas:lg ∉ as:=fun z=>by have:=hfr lg z;rw[s56 _ _ hlg] at this;cases this
   have nlgpa:lg≠pa:=fun z=>by rw[z] at hlg;have:=s56 _ _ hlg;rw[npa] at this;cases this
   generalize upd G7 t2 (.lst [])=G8 at s8 e8 hpa8 ⊢;have s58:=s57.trans s8;have sx8:=sx.trans s58;have nt2H:H t2=none:=(sx.trans s57).free nt2;have hLL8:=LLs.sameJ hLL s8;refine⟨_,rfl,pa,true,rfl,⟨_,SqL.of hpa8⟩,?_⟩;refine Zhb (b:=true) (K:=K) (a:=pa) (xs:=as.map V.ref) (fun j σ Hy=>∃ (qs:List Addr) (o8:Option V),σ=[some (.int p),some (.ref nl),some (.int (ns.length:Int)),some (.ref ma),some (.ref lg),some (.ref t2),some (.int t9),some (.ref pa),o8,o9]/\Hy ma=some (.lst (mo.map V.int))/\Hy lg=some (.lst (qs.map V.ref))/\TTs Hy qs ((Ps.take j).foldl (ZaA mo.length) (st.1,[])).1/\Hy t2=some (.lst (((Ps.take j).foldl (ZaA mo.length) (st.1,[])).2.map V.int))/\Hy pa=some (.lst (as.map V.ref))/\LLs Hy as Ps/\Same H Hy)
    ⟨qs,_,rfl,s58 _ _ hma,s58 _ _ hlg,TTs.sameJ hTT s58,e8,hpa8,hLL8,sx8⟩ (fun j σ Hy _ ⟨_,_,_,_,_,_,_,h,_⟩=>SqL.of h) ?_ ?_
   ·rintro j x σ Hy hx ⟨qs,o8,rfl,hma,hlg,hTT,ht2,hpa,hLL,sy⟩;obtain⟨q,hq,rfl⟩:=Zbf hx;have hj:=(Yab.mp hq).1
    have hjP:j<Ps.length:=by rw[<- hLL.1];exact hj
    have eT:=Yad hjP;have hqT:=hLL.2 j q _ hq eT;have hTok:=hPok _ (Ybq hjP);have eft:=Zjo (f:=ZaA mo.length) (b:=(st.1,([]:List Int))) eT;have hbnd:=ZcQ mo.length (Ps.take j) (st.1,[]) fun T hT=>(hPok T (Ybk hT)).1
    have hbn2:(Ps.take j).flatten.length<=Ps.flatten.length:=by
     conv=>rhs;rw[<- YaH j Ps]
     rw[YbB,Yaf]
     (clear hbnd hTok hj nlgpa nlgas nt2pa nt2ma nt2lg nt2as hPf hPl hrl hle ht hmo' hi hrs nlgth nmath nmalg hcl hz k hn5 hn1 p7 p2;omega)
    generalize hst2:(Ps.take j).foldl (ZaA mo.length) (st.1,[])=sj at hTT ht2 hbnd eft;simp only[YcB] at hbnd;generalize Ps[j]=T9 at eT hqT hTok eft;have hqas:q∈as:=YaO hq;have nqlg:q≠lg:=fun z=>nlgas (by rw[<- z];exact hqas);refine⟨_,rfl,q,_,rfl,.inl (SqL.of hqT),_,_,rfl,rfl,_,rfl,?_⟩;rw[Yaa];refine ite2 (fun hgt=>?_) (fun hle2=>?_)
    ·have hgt2:((T9.length:Nat):Int) > 1:=of_decide_eq_true hgt;refine⟨_,rfl,.inl ⟨rfl,_,SqL.of hlg⟩,_,rfl,q,_,rfl,SqL.of hqT,fun l9 ms nl9 hpm hup9=>?_⟩;have ems:=Zia hpm hup9;have s9:Same Hy (upd Hy l9 (.lst (ms.map V.int))):=Same.new nl9;have e9:upd Hy l9 (.lst (ms.map V.int)) l9=some (.lst (ms.map V.int)):=Zab;generalize upd Hy l9 (.lst (ms.map V.int))=G9 at s9 e9 ⊢;refine⟨l9,_,rfl,.inl ⟨SqL.of e9,fun tt ntt=>?_⟩⟩;have s10:Same G9 (upd G9 tt (.tup (ms.map V.int))):=Same.new ntt;have e10:upd G9 tt (.tup (ms.map V.int)) tt=some (.tup (ms.map V.int)):=Zab;generalize upd G9 tt (.tup (ms.map V.int))=G10 at s10 e10 ⊢;have s9t:=s9.trans s10;have hlg10:=s9t _ _ hlg;refine⟨lg,_,_,rfl,rfl,hlg10,by rw[Yaa,hTT.1];(clear hgt2 nqlg hTok hjP hj nlgpa nlgas nt2pa nt2ma nt2lg nt2as hPl ht hmo' hi hrs nlgth nmath nmalg k hn1 p7 p2;omega),?_⟩;have hTT11:=TTs.offJ (o:=.lst (qs.map V.ref++[V.ref tt])) (TTs.snocJ (TTs.sameJ hTT s9t) e10) hlg10;have e11:upd G10 lg (.lst (qs.map V.ref++[V.ref tt])) lg=some (.lst ((qs++[tt]).map V.ref)):=by rw[Zab,Yau];rfl
     have hma11:upd G10 lg (.lst (qs.map V.ref++[V.ref tt])) ma=some (.lst (mo.map V.int)):=by rw[Zag nmalg];exact s9t _ _ hma
     have ht11:upd G10 lg (.lst (qs.map V.ref++[V.ref tt])) t2=some (.lst (sj.2.map V.int)):=by rw[Zag nt2lg];exact s9t _ _ ht2
     have hpa11:upd G10 lg (.lst (qs.map V.ref++[V.ref tt])) pa=some (.lst (as.map V.ref)):=by rw[Zag (Ybl nlgpa)];exact s9t _ _ hpa
     have hLL11:LLs (upd G10 lg (.lst (qs.map V.ref++[V.ref tt]))) as Ps:=LLs.off (LLs.sameJ hLL s9t) nlgas;have hq11:upd G10 lg (.lst (qs.map V.ref++[V.ref tt])) q=some (.lst (T9.map V.int)):=by rw[Zag nqlg];exact s9t _ _ hqT
     have sy11:Same H (upd G10 lg (.lst (qs.map V.ref++[V.ref tt]))):=(sy.trans s9t).put nlgH;generalize upd G10 lg (.lst (qs.map V.ref++[V.ref tt]))=G11 at hTT11 e11 hma11 ht11 hpa11 hLL11 hq11 sy11 ⊢;refine⟨_,rfl,.inl ⟨rfl,_,SqL.of ht11⟩,_,rfl,q,_,rfl,.inl (SqL.of hq11),_,_,rfl,rfl,_,rfl,?_⟩;rw[Yaa,show decide ((1:Int)<((T9.length:Nat):Int))=true from hgt];refine iteT ?_;refine⟨_,rfl,_,rfl,lg,_,rfl,.inl (SqL.of e11),_,_,rfl,rfl,_,_,rfl,rfl,t2,_,_,rfl,rfl,ht11,by rw[Yaa];(clear hgt2 nqlg hTok hjP hj nlgpa nlgas nt2pa nt2ma nt2lg nt2as hPl ht hmo' hi hrs nlgth nmath nmalg k hn1 p7 p2;omega),?_⟩;have eft2:(Ps.take (j+1)).foldl (ZaA mo.length) (st.1,[])=(sj.1++[srt T9],sj.2++[((mo.length+sj.1.length:Nat):Int)]):=by rw[eft];unfold ZaA;rw[if_pos (by (clear nqlg hTok hbnd hbn2 hjP hj nlgpa nlgas nt2pa nt2ma nt2lg nt2as hPf hPl hrl hle ht hmo' hi hrs nlgth nmath nmalg hcl hz k hn5 hn1 p7 p2;omega))]
     have hval:(ns.length:Int)+(((qs++[tt]).map V.ref).length:Nat) - 1=((mo.length+sj.1.length:Nat):Int):=by
      rw[Yaa,Yaf,hTT.1];simp
      (clear hgt2 nqlg hTok hbnd hbn2 hjP hj nlgpa nlgas nt2pa nt2ma nt2lg nt2as hPf hPl hrl hle ht hmo' hi hrs nlgth nmath nmalg hz k hn5 hn1 p7 p2;omega)
     refine⟨qs++[tt],_,rfl,by rw[Zag (Ybl nt2ma)];exact hma11,by rw[Zag (Ybl nt2lg)];exact e11,?_,?_,by rw[Zag (Ybl nt2pa)];exact hpa11,LLs.off hLL11 nt2as,sy11.put nt2H⟩
     ·rw[eft2,<- ems];exact TTs.offJ hTT11 ht11
     ·rw[Zab,eft2];show some (HO.lst (sj.2.map V.int++[V.int ((ns.length:Int)+(((qs++[tt]).map V.ref).length:Nat) - 1)]))=some (HO.lst ((sj.2++[((mo.length+sj.1.length:Nat):Int)]).map V.int));rw[hval,Yau];rfl
    ·have hle3:¬ ((T9.length:Nat):Int) > 1:=fun z=>hle2 (decide_eq_true z);refine⟨_,rfl,.inl ⟨rfl,_,SqL.of ht2⟩,_,rfl,q,_,rfl,.inl (SqL.of hqT),_,_,rfl,rfl,_,rfl,?_⟩;rw[Yaa,show decide ((1:Int)<((T9.length:Nat):Int))=false from decide_eq_false hle3];refine iteF ?_;have hat:atI (T9.map V.int) 0=some (.int (T9.getD 0 0)):=ZdK (by (clear hle3 hle2 nqlg hTok hbnd hbn2 hjP hj nlgpa nlgas nt2pa nt2ma nt2lg nt2as hPf hPl hrl hle ht hmo' hi hrs nlgth nmath nmalg hcl hz k hn5 hn1 p7 p2;omega)) (by (clear hle3 hle2 nqlg hbnd hbn2 hjP hj nlgpa nlgas nt2pa nt2ma nt2lg nt2as hPf hPl hrl hle ht hmo' hi hrs nlgth nmath nmalg hcl hz k hn5 hn1 p7 p2;omega));refine⟨_,rfl,q,_,_,_,rfl,rfl,SqL.of hqT,hat,t2,_,_,rfl,rfl,ht2,by rw[Yaa];(clear hle3 hle2 nqlg hTok hjP hj nlgpa nlgas nt2pa nt2ma nt2lg nt2as hPl ht hmo' hi hrs nlgth nmath nmalg k hn1 p7 p2;omega),?_⟩;have eft2:(Ps.take (j+1)).foldl (ZaA mo.length) (st.1,[])=(sj.1,sj.2++[T9.getD 0 0]):=by rw[eft];unfold ZaA;rw[if_neg (by (clear hle2 nqlg hTok hbnd hbn2 hjP hj nlgpa nlgas nt2pa nt2ma nt2lg nt2as hPf hPl hrl hle ht hmo' hi hrs nlgth nmath nmalg hcl hz k hn5 hn1 p7 p2;omega))]
     refine⟨qs,_,rfl,by rw[Zag (Ybl nt2ma)];exact hma,by rw[Zag (Ybl nt2lg)];exact hlg,?_,?_,by rw[Zag (Ybl nt2pa)];exact hpa,LLs.off hLL nt2as,sy.put nt2H⟩
     ·rw[eft2];exact TTs.offJ hTT ht2
     ·rw[Zab,eft2,Yau];rfl
   ·rintro σ Hy ⟨qs,o8,rfl,hma,hlg,hTT,ht2,hpa,hLL,sy⟩;rw[Yaa,hLL.1,YaN,<- hn9] at hTT ht2;exact⟨t2,qs,_,_,_,_,rfl,hma,hlg,hTT,ht2,sy⟩
  ·rintro σ Hx ⟨th,qs,o6,o7,o8,o9,rfl,hma,hlg,hTT,hth,sx⟩;have hle:=ZiS (p:=p) (by (clear hrs nlgth nmath nmalg hcl hz k hn5 hn1 p7;omega)) mo (ns.length - 1);have hnj:nj p ns=if ((njTo p mo (ns.length - 1)).2++Zau mo 0).length<=1 then some (njTo p mo (ns.length - 1)).1 else none:=by
    unfold nj;rw[if_neg (by rw[hneg];exact YaJ),hmo]
   generalize njTo p mo (ns.length - 1)=st at hTT hth hle hnj;refine⟨_,rfl,_,rfl,_,rfl,by (clear hle hrs nlgth nmath nmalg hcl hz k hn5 hn1 p7 p2;omega),by (clear hle hrs nlgth nmath nmalg hcl hz k hn1 p7 p2;omega),?_⟩;rw[YaS];refine Zfz (fun j=>if mo.getD j 0=0 then some (V.int (j:Int)) else none) (by (clear hle hrs nlgth nmath nmalg hcl hz k hn1 p7 p2;omega)) (fun j hj Hc sc A9 B9 hAB=>?_) fun ac G5 nac s5 hac=>?_
   ·have hat:atI (mo.map V.int) ((0:Int)+(j:Int))=some (.int (mo.getD j 0)):=by rw[Yck];exact ZdK (by (clear hj hle hrs nlgth nmath nmalg hcl hz k hn5 hn1 p7 p2;omega)) (by (clear hle hrs nlgth nmath nmalg hz k hn5 hn1 p7 p2;omega))
    refine⟨_,rfl,_,rfl,ma,_,_,_,rfl,rfl,SqL.of (sc _ _ hma),hat,rfl,_,rfl,?_⟩;rw[Zgo];by_cases h:mo.getD j 0=0
    ·rw[if_pos h] at hAB;rw[show (mo.getD j 0 == 0)=true by rw[h];rfl];refine iteT ⟨_,rfl,?_⟩;rw[Yck];exact hAB Hc (Same.refl _)
    ·rw[if_neg h] at hAB;rw[show (mo.getD j 0 == 0)=false from beq_eq_false_iff_ne.mpr h];exact iteF (hAB Hc (Same.refl _))
   rw[<- hcl,ZgE] at hac;have hrl:=Zd7 mo 0;refine⟨th,ac,_,_,rfl,rfl,s5 _ _ hth,hac,by rw[Yaa,Yaa];(clear hrs nlgth nmath nmalg k hn1 p7 p2;omega),fun u nu=>?_⟩;rw[<- Yau];have s6:Same G5 (upd G5 u (.lst ((st.2++Zau mo 0).map V.int))):=Same.new nu;have e6:upd G5 u (.lst ((st.2++Zau mo 0).map V.int)) u=some (.lst ((st.2++Zau mo 0).map V.int)):=Zab;generalize upd G5 u (.lst ((st.2++Zau mo 0).map V.int))=G6 at s6 e6 ⊢;have s56:=s5.trans s6;refine⟨_,rfl,u,_,rfl,.inl (SqL.of e6),_,_,rfl,rfl,_,rfl,?_⟩;rw[Yaa];refine ite2 (fun hgt=>?_) (fun hle2=>?_)
   ·have h1:(((st.2++Zau mo 0).length:Nat):Int)<=1:=of_decide_eq_true hgt;rw[if_pos (by (clear hrl hle hrs nlgth nmath nmalg hcl hz k hn5 hn1 p7 p2;omega))] at hnj;exact⟨_,rfl,k.1 lg qs _ _ hnj nlgH (s56 _ _ hlg) (TTs.sameJ hTT s56) (sx.trans s56)⟩
   ·have h1:¬ (((st.2++Zau mo 0).length:Nat):Int)<=1:=fun z=>hle2 (decide_eq_true z);rw[if_neg (by (clear hle2 hrl hle hrs nlgth nmath nmalg hcl hz k hn5 hn1 p7 p2;omega))] at hnj;exact k.2 _ hnj (sx.trans s56)
end
end Fj99
namespace Fj99
open PySem L2 Lv
section
variable {P:Program}{w:World}{K:Yac}{mg:Str->Option Value}{base:Heap}
theorem scRds99:FnScope ["p","lengths","reading","level","placing"] ["p","lengths"] (Zad Zd1):=⟨rfl,rfl,rfl,by decide +kernel,rfl,by decide +kernel,by decide +kernel⟩
theorem ZmC:bootBuiltins "any"=some (.builtin "any"):=by decide +kernel
theorem ZjU {p:Nat}{ls:List Int}{R:Int}{n m:Nat} (a:BestOf ls (Zb3 p m) m (some (R,n))) (b:∀ i,i<m->tot p i<=4000) (c:4000<tot p m):BestT false p ls (some (R,n)) :=
 ⟨m,⟨fun i hi=>by rw[Zbc];exact b i hi,by rw[Zbc];exact c⟩,BestG.of a⟩
theorem ZjV {p:Nat} (hp:2<=p) {ls:List Int}{R:Int}{n m:Nat} (a:BestOf ls (Zb2 p m) m (some (R,n))) (b:∀ i,i<m->(casN p i).flatten.length<=4000) (c:4000<(casN p m).flatten.length):BestT true p ls (some (R,n)) :=
 ⟨m,⟨fun i hi=>by have:=b i hi;show ((casN p i).flatten.length:Int)<=4000;(clear hi c hp;omega),by show 4000<((casN p m).flatten.length:Int);(clear hp;omega)⟩,BestG.of a⟩
def Zeu (K:Yac):Sp:=fun vs H Q _=>∃ (p:Nat) (ll:Addr) (ls:List Int),vs=[.int p,.ref ll]/\2<=p/\p<=7/\H ll=some (.lst (ls.map V.int))/\1<=ls.length/\ls.length<=60/\(∀ l∈ls,YaT l<=8000) /\
 ∀ (l t1 t2:Addr) (R1:Int) (n1:Nat) (R2:Int) (n2:Nat) H',H l=none->H' l=some (.lst [.int (hf p ls),.ref t1,.ref t2])->H' t1=some (.tup [.int R1,.int n1])->H' t2=some (.tup [.int R2,.int n2])->BestT false p ls (some (R1,n1))->BestT true p ls (some (R2,n2))->Same H H'->Q (.ref l) H'
theorem Zky {f f1 f2 f3:Addr}{fd d1 d2 d3:FuncData} (F:Fun K "_law_readings" "_law_readings" Zd1 f fd) (T:Txt mg) (CB:Cal P w K mg base 4 "best_placing" ["p","lengths"] (ZlF K) f1 d1) (CJ:Cal P w K mg base 3 "least_join" ["p","lengths"] (Zex K) f2 d2) (CC:Cal P w K mg base 4 "long_cascade" ["p","lengths"] (ZfX K) f3 d3):FnOk P w K mg base CX0 5 f fd ["p","lengths"] (Zeu K):=by
 refine okW F scRds99 (fun vs H Q E h=>?_) (fun cdv A outer s H vs Q E hr h=>?_)
 ·obtain⟨p,ll,ls,rfl,_⟩:=h;rfl
 ·obtain⟨p,ll,ls,rfl,p2,p7,hL,h1,h40,hb,k⟩:=h;have hr4:Room 4 _:=hr;have hr3:Room 3 _:=hr.mono (by decide);refine⟨_,(Zah (ws (Zeb (Zam CB hr4 rfl (Zaa (pv 0) (Zaa (pv 1) Zac))) (Zdt rfl (Zar (Zaj (i:=2) scRds99.nd rfl (YaI rfl)) (Zar (Zaj (i:=3) scRds99.nd rfl (YaI rfl)) (Zar (Zaj (i:=4) scRds99.nd rfl (YaI rfl)) ZaO))))))
   (ZaI (ZmF (ZhU (Zbr rfl (Zaz Za4 (Zam CJ hr3 rfl (Zaa (pv 0) (Zaa (pv 1) Zac))) Zae (fun _ _=>rfl)) (Zbr rfl (Zbi (Zaa (pv 2) (Zaa (pv 3) Zac))) (Zbr rfl (Zam CC hr4 rfl (Zaa (pv 0) (Zaa (pv 1) Zac))) ZhV))))))),?_⟩
  refine⟨_,rfl,_,rfl,p,ll,true,ls,rfl,p2,p7,SqL.of hL,by (clear h1 p7 p2;omega),hb,fun tb plb qsb ksb lfb lpb nb mb H1 _ htb hplb hTub hst hinb hfit htotb hnm hbest hm9 hm4 s1=>?_⟩;refine⟨tb,_,rfl,SqT.of htb,rfl,_,_,rfl,_,_,rfl,_,_,rfl,rfl,?_⟩;have hL1:=s1 _ _ hL;refine⟨_,rfl,_,rfl,p,ll,true,ls,rfl,p2,p7,SqL.of hL1,by (clear hm4 hnm htotb h1 p7 p2;omega),fun t lg rs r L H2 nt nlg ht hlg hTT hJ s2=>⟨t,_,0,.int r,rfl,rfl,SqT.of ht,rfl,_,rfl,_,rfl,(by show 2<=sizeLine;decide),fun t1 nt1=>?_⟩⟩;have s3:=Same.new (o:=.tup [V.int (Za6 (num p nb) ls ksb).sum,.int (nb:Int)]) nt1;have e3:upd H2 t1 (.tup [V.int (Za6 (num p nb) ls ksb).sum,.int (nb:Int)]) t1=some (.tup [V.int (Za6 (num p nb) ls ksb).sum,.int (nb:Int)]):=Zab;generalize upd H2 t1 (.tup [V.int (Za6 (num p nb) ls ksb).sum,.int (nb:Int)])=H3 at s3 e3 ⊢;have s13:=(s1.trans s2).trans s3;refine⟨_,rfl,_,rfl,p,ll,true,ls,rfl,p2,p7,SqL.of (s13 _ _ hL),by (clear hm4 hnm htotb h1 p7 p2;omega),hb,fun t4 R4 n4 m4 H4 nt4 ht4 hbest4 hm49 hm44 s4=>⟨(by show 3<=sizeLine;decide),fun l nl=>?_⟩⟩;have s5:=Same.new (o:=.lst [V.int r,.ref t1,.ref t4]) nl;have er:r=hf p ls:=(hJ.spec p2 h1).1
  subst er;refine k l t1 t4 _ nb R4 n4 _ ((s13.trans s4).free nl) Zab (s5 _ _ (s4 _ _ e3)) (s5 _ _ ht4) (ZjU hbest hm9 hm4) (ZjV p2 hbest4 hm49 hm44) ((s13.trans s4).trans s5)
theorem scLR99:FnScope ["pot","p","way","lengths","readings","numbers","log","often","reading","joined"] ["pot","p","way","lengths","readings"] (Zad ZeF):=⟨rfl,rfl,rfl,by decide +kernel,rfl,by decide +kernel,by decide +kernel⟩
theorem Zgr {p:Nat}{m:Int}{th:List Int}{L:List (List Int)} (h:Chain p m th L):(∀ T∈L,2<=T.length)->L.length+1<=th.length:=by
 induction h with
 | one m x=>intro _;simp
 | step m th T rest L h1 h2 h3 h ih=>
  intro hT;have:=ih fun S hS=>hT S (Yag _ hS);have t2:=hT T Yal;have:=h1.length_eq;simp only[Yaf,Yaz,YcB] at *
  (clear ih h3;omega)
theorem ZeQ:∀ {a b:List Int},a.length=b.length->(∀ (i:Nat) x y,a[i]?=some x->b[i]?=some y->x<=y)->leP a b
 | [],[],_,_=>trivial
 | [],_::_,h,_=>by simp at h
 | _::_,[],h,_=>by simp at h
 | x::a,y::b,h,g=>⟨g 0 x y rfl rfl,ZeQ (by simpa using h) fun i u v hu hv=>g (i+1) u v hu hv⟩
theorem leP.get99:∀ {a b:List Int},leP a b->∀ {i:Nat}{x y:Int},a[i]?=some x->b[i]?=some y->x<=y
 | _::_,_::_,h,0,x,y,hx,hy=>by cases hx;cases hy;exact h.1
 | _::_,_::_,h,i+1,x,y,hx,hy=>leP.get99 h.2 (i:=i) hx hy
 | [],_,_,i,x,y,hx,_=>by simp at hx
 | _,[],_,i,x,y,_,hy=>by simp at hy
theorem Zoe {c:Bool}{p:Nat} (i:Nat):∀ n∈(SS c p i).flatten,n<=(i:Int):=fun n hn=>by
 obtain⟨xs,hx,hx2⟩:=Ydq.mp hn;cases c
 ·have:=(ZdI p i xs hx n hx2).2;omega
 ·exact (Zba i xs n hx hx2).2
def Zie (K:Yac):Sp:=fun vs H Q _=>∃ (pl:Addr) (p:Nat) (c:Bool) (ll rl t1 t2:Addr) (ls:List Int) (R1:Int) (n1:Nat) (R2:Int) (n2:Nat),vs=[.ref pl,.int p,.int (wyI c),.ref ll,.ref rl]/\2<=p/\p<=7/\Pool3 H pl/\H ll=some (.lst (ls.map V.int))/\ll≠pl/\H rl=some (.lst [.int (hf p ls),.ref t1,.ref t2])/\rl≠pl/\H t1=some (.tup [.int R1,.int n1])/\H t2=some (.tup [.int R2,.int n2])/\BestT false p ls (some (R1,n1))/\BestT true p ls (some (R2,n2))/\1<=ls.length/\ls.length<=40/\(∀ l∈ls,0<=l/\l<2 ^ 63)/\∀ H',Pool3 H' pl->Sm pl H H'->Q (.bl true) H'
theorem Zl6 {f f1 f2 f3:Addr}{fd d1 d2 d3:FuncData} (F:Fun K "_law_laying_right" "_law_laying_right" ZeF f fd) (T:Txt mg) (Ta:mg "any"=none) (CL:Cal P w K mg base 7 "_law_lain" ["pot","p","way","rows"] Zid f1 d1) (CN:Cal P w K mg base 3 "numbers_join" ["p","numbers"] (spNJ K) f2 d2) (CJ:Cal P w K mg base 3 "join_numbers" ["p","rows","log"] (Zif K) f3 d3):FnOk P w K mg base CX0 8 f fd ["pot","p","way","lengths","readings"] (Zie K):=by
 refine okW F scLR99 (fun vs H Q E h=>?_) (fun cdv A outer s H vs Q E hr h=>?_)
 ·obtain⟨pl,p,c,ll,rl,t1,t2,ls,R1,n1,R2,n2,rfl,_⟩:=h;rfl
 ·obtain⟨pl,p,c,ll,rl,t1,t2,ls,R1,n1,R2,n2,rfl,p2,p7,hP,hL,hlp,hR,hrp,ht1,ht2,hB1,hB2,h1,h40,hls,k⟩:=h;have hr7:Room 7 _:=hr;have hr3:Room 3 _:=hr.mono (by decide);refine⟨_,(Zah (ws (Zaq (i:=5) scLR99.nd rfl (YaI rfl) (Zam CL hr7 rfl (Zaa (pv 0) (Zaa (pv 1) (Zaa (pv 2) (Zaa (Zak Zap rfl T.len Ya1 (Zaa (pv 3) Zac)) Zac)))))))
   (Zah (ws (Zaq (i:=6) scLR99.nd rfl (YaI rfl) (Zam CN hr3 rfl (Zaa (pv 1) (Zaa (pv 5) Zac)))))
   (Zah (Zeo (Zlf (Zll (pv 6)))
   (wss ZaY)
   Zbq)
   (Zah (ws (Zaq (i:=7) scLR99.nd rfl (YaI rfl) (Zam CJ hr3 rfl (Zaa (pv 1) (Zaa (Zak Zap rfl T.len Ya1 (Zaa (pv 3) Zac)) (Zaa (pv 6) Zac))))))
   (Zah (Zeo (Zd9 (Zak (Zhi rfl) rfl Ta ZmC (Zaa (ZaG (own:=["one","other"]) (js:=[]) (CompOk.by (sc:=Zad ZeF) (N:=["pot","p","way","lengths","readings","numbers","log","often","reading","joined"]) rfl rfl (by decide +kernel)) rfl (Zds rfl T.zip (Zaa (pv 7) (Zaa (pv 5) Zac))) (Zbg (i:=0) (k:=1) (K:=K)) (fun _ _ _ _ _=>(Zbe K rfl (Zar (Zaj (i:=0) (by show (["one","other"]:List Str).Nodup;decide +kernel) rfl (YaI rfl) (.inr rfl)) (Zar (Zaj (i:=1) (by show (["one","other"]:List Str).Nodup;decide +kernel) rfl (YaI rfl) (.inr rfl)) ZaO)))) (fun _ _ _ _ _=>ZaC) (fun _ _ _ _ _=>(ZcN ZhI (pv 0) (pv 1) (ZaN _)))) Zac)))
   (wss ZaY)
   Zbq)
   (Zah (ws (Zaq (i:=8) scLR99.nd rfl (YaI rfl) (Zak (ZbL rfl) rfl T.sum Ze1 (Zaa (ZaG (own:=["number","length"]) (js:=[]) (CompOk.by (sc:=Zad ZeF) (N:=["pot","p","way","lengths","readings","numbers","log","often","reading","joined"]) rfl rfl (by decide +kernel)) rfl (Zds rfl T.zip (Zaa (pv 5) (Zaa (pv 3) Zac))) (Zbg (i:=0) (k:=1) (K:=K)) (fun _ _ _ _ _=>(Zbe K rfl (Zar (Zaj (i:=0) (by show (["number","length"]:List Str).Nodup;decide +kernel) rfl (YaI rfl) (.inr rfl)) (Zar (Zaj (i:=1) (by show (["number","length"]:List Str).Nodup;decide +kernel) rfl (YaI rfl) (.inr rfl)) ZaO)))) (fun _ _ _ _ _=>ZaC) (fun _ _ _ _ _=>(Zat Zc4 (pv 0) (pv 1)))) Zac))))
   (Zah (ws (Zaq (i:=9) scLR99.nd rfl (YaI rfl) (Zak (ZbL rfl) rfl T.sum Ze1 (Zaa (ZaG (own:=["number","length"]) (js:=[]) (CompOk.by (sc:=Zad ZeF) (N:=["pot","p","way","lengths","readings","numbers","log","often","reading","joined"]) rfl rfl (by decide +kernel)) rfl (Zds rfl T.zip (Zaa (pv 7) (Zaa (pv 3) Zac))) (Zbg (i:=0) (k:=1) (K:=K)) (fun _ _ _ _ _=>(Zbe K rfl (Zar (Zaj (i:=0) (by show (["number","length"]:List Str).Nodup;decide +kernel) rfl (YaI rfl) (.inr rfl)) (Zar (Zaj (i:=1) (by show (["number","length"]:List Str).Nodup;decide +kernel) rfl (YaI rfl) (.inr rfl)) ZaO)))) (fun _ _ _ _ _=>ZaC) (fun _ _ _ _ _=>(Zat Zc4 (pv 0) (pv 1)))) Zac))))
   (ZaI (ws (Zav (ZgP (Zko Zdv Zdv (Zaz ix_list (pv 4) Zae (fun _ _=>rfl)) (pv 9) (pv 8)) (Ziy (ZcN Zdv (Zaz Za4 (Zaz ix_list (pv 4) (Zat ZaQ Zae (pv 2)) (fun _ _=>rfl)) Zae (fun _ _=>rfl)) (pv 8) (ZaN _)))))))))))))),?_⟩
  refine⟨_,rfl,_,rfl,_,rfl,_,rfl,ll,_,rfl,.inl (SqL.of hL),pl,p,c,ls.length,by rw[Yaa];rfl,p2,p7,hP,h1,h40,fun nl ns rest n H1 nnl hnl hns hpm htl hP1 sm1=>?_⟩;have hk:KrOk (p:Int) ns:=KrOk.sel (by (clear htl hns h40 h1 hrp hlp p7;omega)) (KrOk.SS p2 n) hpm;have hn60:n<=60:=ZmI p2 p7 htl;have hnb:∀ x∈ns,0<=x/\x<=60:=fun x hx=>by
   have hx2:x∈(SS c p n).flatten:=hpm.mem_iff.mp (YaF _ hx);have h0:=ZnB (c:=c) (p:=p) n x hx2;have h2:=Zoe (c:=c) (p:=p) n x hx2
   (clear htl hns h40 h1 hrp hlp p7 p2;omega)
  have hL1:=sm1 _ _ hL hlp;have hR1:=sm1 _ _ hR hrp;have np:∀ {t:Addr}{xs:List V},H t=some (.tup xs)->t≠pl:=fun {t xs} ht e=>by
   obtain⟨a,b,d,e2⟩:=hP;rw[e,e2] at ht;cases ht
  have ht11:=sm1 _ _ ht1 (np ht1);have ht21:=sm1 _ _ ht2 (np ht2);refine⟨_,rfl,_,rfl,p,nl,true,ns,rfl,p2,p7,SqL.of hnl,by (clear hn60 htl h40 hrp hlp p7 p2;omega),by (clear hn60 htl h1 hrp hlp p7 p2;omega),fun lg qs L H2 hnj nlg hlg hTT s2=>?_,fun H2 hnone s2=>?_⟩
  rotate_left
  ·obtain⟨L,hL'⟩:=Zmf p2 (ns:=ns) (by (clear hn60 htl h40 hrp hlp p7 p2;omega)) hk;rw[hL'] at hnone;cases hnone
  obtain⟨n0,hc,h2,hle⟩:=Zme p2 (ns:=ns) (by (clear hn60 htl h40 hrp hlp p7 p2;omega)) hnj;have hwf:Wf ns.length L:=fun i T hT x hx=>by
   have:=hc.wf (r:=0) (fun x hx=>by
    obtain⟨j,hj,rfl⟩:=YaK.mp hx;have:=Ya8.mp hj
    (clear hn60 htl hns h40 h1 hrp hlp p7 p2;omega)) (by (clear hn60 htl hns h40 h1 hrp hlp p7 p2;omega)) i T hT x hx
   (clear hn60 htl hns h40 h1 hrp hlp p7 p2;omega)
  have hLl:L.length<=60:=by have:=Zgr hc (fun T hT=>(h2 T hT).1);rw[Yaa,YbX] at this;(clear hn60 htl h1 hrp hlp p7 p2;omega)
  refine⟨_,rfl,_,rfl,?_⟩;rw[decide_eq_false (show ¬ V.ref lg=V.non from fun z=>nomatch z)];refine iteF ?_;have hL2:=s2 _ _ hL1;refine⟨_,rfl,_,rfl,ll,_,rfl,.inl (SqL.of hL2),_,rfl,p,ls.length,lg,true,qs,L,by rw[Yaa];rfl,p2,p7,h1,by (clear hLl hn60 htl hns h1 hrp hlp p7 p2;omega),SqL.of hlg,hTT,by rw[<- hns];exact hwf,hLl,fun ol H3 nol hol s3=>?_⟩;rw[<- hns] at hol;have s13:=s2.trans s3;have hdl:(dep ns.length L).length=ns.length:=Zgm _ _;have hdle:leP (dep ns.length L) ns:=ZeQ hdl fun i x y hx hy=>by
   have hi:=(Yab.mp hy).1
   rw[Zgn hi] at hx;cases hx;have:=hle i hi;rw[Yai,hy] at this;exact this
  refine⟨_,rfl,_,rfl,true,true,ol,nl,rfl,⟨_,SqL.of hol⟩,⟨_,SqL.of (s13 _ _ hnl)⟩,?_⟩;refine ZdF ((Yaj ns.length false).map V.bl) (show SqB true K H3 ol ((dep ns.length L).map V.int) from SqL.of hol) (show SqB true K H3 nl (ns.map V.int) from SqL.of (s13 _ _ hnl)) (by rw[Yaa,Yaa,hdl];(clear hdl hLl hn60 htl hns h40 h1 hrp hlp p7 p2;omega)) (by rw[Yaa,YbQ,Yaa]) (by rw[Yaa];(clear hdl hLl hn60 htl h1 hrp hlp p7 p2;omega)) (fun i x y z hx hy hz pp Hc sc hp Rr hRr=>?_) fun acc H4 n4 s4 hacc=>?_
  ·obtain⟨x',hx',rfl⟩:=ZaJ hx;obtain⟨y',hy',rfl⟩:=ZaJ hy;have hi:=(Yab.mp hy').1
   rw[Yat,YcC,if_pos hi] at hz;cases hz;have:=leP.get99 hdle hx' hy';refine⟨pp,_,rfl,SqT.of hp,rfl,_,_,rfl,_,_,rfl,rfl,_,rfl,_,rfl,_,_,rfl,rfl,?_⟩;dsimp only;rw[decide_eq_false (show ¬ y'<x' by (clear hi hdl hLl hn60 htl hns h40 h1 hrp hlp p7 p2;omega))];exact hRr Hc (Same.refl _)
  refine⟨acc,Yaj ns.length false,rfl,SqL.of hacc,?_⟩;rw[show (Yaj ns.length false).any id=false by rw[Yfx];intro b hb;rw[(Yc8.mp hb).2];exact YaJ];refine⟨_,rfl,iteF ?_⟩;have s14:=s13.trans s4;have hnl4:=s14 _ _ hnl;have hol4:=s4 _ _ hol;have hL4:=s14 _ _ hL1;have mulz:∀ (as:List Int) (al:Addr) (Hx:Hp),as.length=ls.length->True:=fun _ _ _ _=>trivial;refine⟨_,rfl,_,rfl,true,true,nl,ll,rfl,⟨_,SqL.of hnl4⟩,⟨_,SqL.of hL4⟩,?_⟩;refine ZdF ((Yb2 (·*·) ns ls).map V.int) (show SqB true K H4 nl (ns.map V.int) from SqL.of hnl4) (show SqB true K H4 ll (ls.map V.int) from SqL.of hL4) (by rw[Yaa,Yaa];(clear hdl hLl hn60 htl h40 h1 hrp hlp p7 p2;omega)) (by rw[Yaa,Yaa,YdF];(clear hdl hLl hn60 htl h40 h1 hrp hlp p7 p2;omega)) (by rw[Yaa];(clear hdl hLl hn60 htl hns h1 hrp hlp p7 p2;omega)) (fun i x y z hx hy hz pp Hc sc hp Rr hRr=>?_) fun acc5 H5 n5 s5 hacc5=>?_
  ·obtain⟨x',hx',rfl⟩:=ZaJ hx;obtain⟨y',hy',rfl⟩:=ZaJ hy;rw[Yat,YdA,hx',hy'] at hz;cases hz;have:=hnb x' (YaO hx');exact⟨pp,_,rfl,SqT.of hp,rfl,_,_,rfl,_,_,rfl,rfl,_,rfl,_,rfl,_,_,rfl,rfl,.inl ⟨by (clear hdl hLl hn60 htl hns h40 h1 hrp hlp p7 p2;omega),by (clear hdl hLl hn60 htl hns h40 h1 hrp hlp p7 p2;omega)⟩,hRr Hc (Same.refl _)⟩
  refine⟨acc5,_,rfl,SqL.of hacc5,?_⟩;have s15:=s14.trans s5;have hol5:=s5 _ _ hol4;have hL5:=s5 _ _ hL4;refine⟨_,rfl,_,rfl,true,true,ol,ll,rfl,⟨_,SqL.of hol5⟩,⟨_,SqL.of hL5⟩,?_⟩;refine ZdF ((Yb2 (·*·) (dep ns.length L) ls).map V.int) (show SqB true K H5 ol ((dep ns.length L).map V.int) from SqL.of hol5) (show SqB true K H5 ll (ls.map V.int) from SqL.of hL5) (by rw[Yaa,Yaa];(clear hLl hn60 htl h40 h1 hrp hlp p7 p2;omega)) (by rw[Yaa,Yaa,YdF];(clear hLl hn60 htl h40 h1 hrp hlp p7 p2;omega)) (by rw[Yaa];(clear hdl hLl hn60 htl hns h1 hrp hlp p7 p2;omega)) (fun i x y z hx hy hz pp Hc sc hp Rr hRr=>?_) fun acc6 H6 n6 s6 hacc6=>?_
  ·obtain⟨x',hx',rfl⟩:=ZaJ hx;obtain⟨y',hy',rfl⟩:=ZaJ hy;rw[Yat,YdA,hx',hy'] at hz;cases hz;have hi:i<ns.length:=by have:=(Yab.mp hx').1;(clear hLl hn60 htl hns h40 h1 hrp hlp p7 p2;omega)
   have h3:=leP.get99 hdle hx' (Yad hi);have h4:=hnb _ (Ybq hi);have h5:0<=x':=by rw[Zgn hi] at hx';cases hx';(clear h3 h4 hi hdl hLl hn60 htl hns h40 h1 hrp hlp p7 p2;omega)
   exact⟨pp,_,rfl,SqT.of hp,rfl,_,_,rfl,_,_,rfl,rfl,_,rfl,_,rfl,_,_,rfl,rfl,.inl ⟨by (clear h4 h3 hi hdl hLl hn60 htl hns h40 h1 hrp hlp p7 p2;omega),by (clear h5 hdl hLl hn60 htl hns h40 h1 hrp hlp p7 p2;omega)⟩,hRr Hc (Same.refl _)⟩
  refine⟨acc6,_,rfl,SqL.of hacc6,?_⟩;have s16:=s15.trans s6;have hR6:=s16 _ _ hR1;have ht16:=s16 _ _ ht11;have ht26:=s16 _ _ ht21;have h0:∀ l∈ls,0<=l:=fun l hl=>(hls l hl).1
  rw[Zc9,Zc9];have i1:hf p ls<=dot ls (dep ns.length L):=Zg9 p2 (by (clear hLl hn60 htl h40 h1 hrp hlp p7 p2;omega)) h0 (Zlv (by (clear hdl hLl hn60 htl h40 hrp hlp p7 p2;omega)) hc);have i2:dot ls (dep ns.length L)<=dot ls ns:=Zgk hdle h0;have hP6:=hP1.same s16;have sm6:=sm1.trans (Sm.of (p:=pl) s16);refine⟨_,rfl,rl,_,0,_,rfl,rfl,SqL.of hR6,rfl,_,rfl,_,_,rfl,rfl,true,by dsimp only;rw[decide_eq_true i1],iteT ⟨_,rfl,_,_,rfl,rfl,true,by dsimp only;rw[decide_eq_true i2],iteT ?_⟩⟩;cases c
  ·have i3:=hB1.le p2 h0 hns hpm htl;refine⟨_,rfl,_,rfl,_,_,rfl,rfl,rl,_,1,_,rfl,rfl,SqL.of hR6,rfl,t1,_,0,_,rfl,rfl,SqT.of ht16,rfl,_,rfl,_,_,rfl,rfl,?_⟩;dsimp only;rw[decide_eq_true i3];exact k H6 hP6 sm6
  ·have i3:=hB2.le p2 h0 hns hpm htl;refine⟨_,rfl,_,rfl,_,_,rfl,rfl,rl,_,2,_,rfl,rfl,SqL.of hR6,rfl,t2,_,0,_,rfl,rfl,SqT.of ht26,rfl,_,rfl,_,_,rfl,rfl,?_⟩;dsimp only;rw[decide_eq_true i3];exact k H6 hP6 sm6
end
end Fj99
namespace Fj99
open PySem L2 Lv
section
variable {P:Program}{w:World}{K:Yac}{mg:Str->Option Value}{base:Heap}
theorem scGR99:FnScope ["pot","p","lengths","readings","by","great","due","longer","more"] ["pot","p","lengths","readings"] (Zad Zfg):=⟨rfl,rfl,rfl,by decide +kernel,rfl,by decide +kernel,by decide +kernel⟩
def Zig (K:Yac):Sp:=fun vs H Q _=>∃ (pl:Addr) (p:Nat) (ll rl t1 t2:Addr) (ls:List Int) (R1:Int) (n1:Nat) (R2:Int) (n2:Nat),vs=[.ref pl,.int p,.ref ll,.ref rl]/\2<=p/\p<=7/\Pool3 H pl/\H ll=some (.lst (ls.map V.int))/\ll≠pl/\H rl=some (.lst [.int (hf p ls),.ref t1,.ref t2])/\rl≠pl/\H t1=some (.tup [.int R1,.int n1])/\H t2=some (.tup [.int R2,.int n2])/\BestT false p ls (some (R1,n1))/\BestT true p ls (some (R2,n2))/\1<=ls.length/\ls.length<=40/\(∀ l∈ls,0<=l/\l<=100000000000)/\∀ H',Pool3 H' pl->Sm pl H H'->Q (.bl true) H'
theorem Zl9 {f f1 f2:Addr}{fd d1 d2:FuncData} (F:Fun K "_law_great_right" "_law_great_right" Zfg f fd) (T:Txt mg) (CX:Cal P w K mg base 1 "_law_next" ["pot","many"] Zdl f1 d1) (CR:Cal P w K mg base 5 "_law_readings" ["p","lengths"] (Zeu K) f2 d2):FnOk P w K mg base CX0 6 f fd ["pot","p","lengths","readings"] (Zig K):=by
 refine okW F scGR99 (fun vs H Q E h=>?_) (fun cdv A outer s H vs Q E hr h=>?_)
 ·obtain⟨pl,p,ll,rl,t1,t2,ls,R1,n1,R2,n2,rfl,_⟩:=h;rfl
 ·obtain⟨pl,p,ll,rl,t1,t2,ls,R1,n1,R2,n2,rfl,p2,p7,hP,hL,hlp,hR,hrp,ht1,ht2,hB1,hB2,h1,h40,hls,k⟩:=h;have hr5:Room 5 _:=hr;have hr1:Room 1 _:=hr.mono (by decide);have hu12:(A.deeper (Ydk "_law_great_right" (Zad Zfg) s.heap.objs.size f cdv)).units+12<cLine:=by have:=hr.un;(clear h40 h1 hrp hlp p7 p2;omega)
  refine⟨_,(Zah (ws (Zaq (i:=4) scGR99.nd rfl (Yde rfl) (Zat ZaQ Zae (Zam CX hr1 rfl (Zaa (pv 0) (Zaa Zae Zac))))))
   (Zah (ws (Zaq (i:=5) scGR99.nd rfl (YaI rfl) (Zam CR hr5 rfl (Zaa (pv 1) (Zaa (ZaG (own:=["length"]) (js:=[4]) (CompOk.by (sc:=Zad Zfg) (N:=["pot","p","lengths","readings","by","great","due","longer","more"]) rfl rfl (by decide +kernel)) rfl (Zb6 (pv 2)) Zay (fun _ _ _ _ _=>(Zaj (i:=0) (by show (["length","by"]:List Str).Nodup;decide +kernel) rfl (YaI rfl) (.inr rfl))) (fun _ _ _ _ _=>ZaC) (fun _ _ _ _ _=>(Zat Zc4 (pv 0) (pv 1)))) Zac)))))
   (Zah (Zk8 (i:=6) scGR99.nd rfl (YaI rfl) (ZhU (Zbr rfl (Zat Zc4 (Zaz ix_list (pv 3) Zae (fun _ _=>rfl)) (pv 4)) (Zbr rfl (Zbi (Zaa (Zat Zc4 (Zaz Za4 (Zaz ix_list (pv 3) Zae (fun _ _=>rfl)) Zae (fun _ _=>rfl)) (pv 4)) (Zaa (Zaz Za4 (Zaz ix_list (pv 3) Zae (fun _ _=>rfl)) Zae (fun _ _=>rfl)) Zac))) (Zbr rfl (Zbi (Zaa (Zat Zc4 (Zaz Za4 (Zaz ix_list (pv 3) Zae (fun _ _=>rfl)) Zae (fun _ _=>rfl)) (pv 4)) (Zaa (Zaz Za4 (Zaz ix_list (pv 3) Zae (fun _ _=>rfl)) Zae (fun _ _=>rfl)) Zac))) ZhV)))))
   (Zah (Zeo (ZaL (Zm7 hu12) (pv 5) (pv 6) (ZaN _))
   (wss ZaY)
   Zbq)
   (Zah (ws (Zaq (i:=7) scGR99.nd rfl (YaI rfl) (ZaP ZfE rfl T.list Znx (Zaa (pv 2) Zac))))
   (Zah (ws (ZlT (pv 7) (Zam CX hr1 rfl (Zaa (pv 0) (Zaa (Zak Zap rfl T.len Ya1 (Zaa (pv 7) Zac)) Zac))) ZkU (Zat ZaQ Zae (Zam CX hr1 rfl (Zaa (pv 0) (Zaa Zae Zac)))) Zls Zck))
   (Zah (ws (Zaq (i:=8) scGR99.nd rfl (YaI rfl) (Zam CR hr5 rfl (Zaa (pv 1) (Zaa (pv 7) Zac)))))
   (ZaI (ws (Zav (ZgP (ZcN Zks (Zaz ix_list (pv 8) Zae (fun _ _=>rfl)) (Zaz ix_list (pv 3) Zae (fun _ _=>rfl)) (ZaN _)) (ZgP (ZcN Zks (Zaz Za4 (Zaz ix_list (pv 8) Zae (fun _ _=>rfl)) Zae (fun _ _=>rfl)) (Zaz Za4 (Zaz ix_list (pv 3) Zae (fun _ _=>rfl)) Zae (fun _ _=>rfl)) (ZaN _)) (Ziy (ZcN Zks (Zaz Za4 (Zaz ix_list (pv 8) Zae (fun _ _=>rfl)) Zae (fun _ _=>rfl)) (Zaz Za4 (Zaz ix_list (pv 3) Zae (fun _ _=>rfl)) Zae (fun _ _=>rfl)) (ZaN _))))))))))))))),?_⟩
  have hz:20000<sizeLine:=by decide
  have np:∀ {t:Addr}{xs:List V},H t=some (.tup xs)->t≠pl:=fun {t xs} ht e=>by
   obtain⟨a,b,d,e2⟩:=hP;rw[e,e2] at ht;cases ht
  have h0:∀ l∈ls,0<=l:=fun l hl=>(hls l hl).1
  refine⟨_,rfl,pl,9,rfl,hP,by decide,by decide,fun d H1 d0 d9 hP1 sm1=>⟨_,_,rfl,rfl,?_⟩⟩;have hL1:=sm1 _ _ hL hlp;have hR1:=sm1 _ _ hR hrp;have ht11:=sm1 _ _ ht1 (np ht1);have ht21:=sm1 _ _ ht2 (np ht2);dsimp only;generalize hB:(2:Int)+d=B;have hb2:2<=B:=by (clear d9 hz hu12 h40 h1 hrp hlp p7 p2;omega)
  have hb10:B<=10:=by (clear hb2 d0 hz hu12 h40 h1 hrp hlp p7 p2;omega)
  refine⟨_,rfl,_,rfl,ll,true,rfl,⟨_,SqL.of hL1⟩,?_⟩;refine ZbJ (b:=true) (K:=K) (a:=ll) (xs:=ls.map V.int) ((ls.map (·*B)).map V.int) (SqL.of hL1) (by simp) (by rw[Yaa];(clear hb10 hb2 hB d9 d0 hz hu12 h1 hrp hlp p7 p2;omega)) (fun i x y hx hy Hc sc Rr hRr=>?_) fun al H2 nal s2 hal=>?_
  ·obtain⟨x',hx',rfl⟩:=ZaJ hx;rw[Yat,Yat,hx'] at hy;cases hy;exact⟨_,rfl,_,rfl,_,_,rfl,rfl,.inr ⟨by (clear hb10 hb2 d9 hz hu12 h40 h1 hrp hlp p7 p2;omega),by (clear hb10 hb2 d0 hz hu12 h40 h1 hrp hlp p7 p2;omega)⟩,hRr Hc (Same.refl _)⟩
  have hlsB:∀ l∈ls.map (·*B),0<=l/\l<=1000000000000:=fun l hl=>by
   obtain⟨x,hx,rfl⟩:=YaK.mp hl;have:=hls x hx;have u1:=YbY this.1 (show 0<=B by (clear this hb10 hb2 d9 hz hu12 h40 h1 hrp hlp p7 p2;omega));have u2:=Int.mul_le_mul this.2 hb10 (by (clear u1 this hb10 hb2 d9 hz hu12 h40 h1 hrp hlp p7 p2;omega)) (by (clear u1 this hb10 hb2 hB d9 d0 hz hu12 h40 h1 hrp hlp p7 p2;omega):(0:Int)<=100000000000);exact⟨u1,Ycc u2 (by decide)⟩
  refine⟨p,al,ls.map (·*B),rfl,p2,p7,hal,by rw[Yaa];(clear hb10 hb2 hB d9 d0 hz hu12 h40 hrp hlp p7 p2;omega),by rw[Yaa];(clear hb10 hb2 hB d9 d0 hz hu12 h1 hrp hlp p7 p2;omega),fun l hl=>ZaX (hlsB l hl).1 (by have:=(hlsB l hl).2;(clear hb10 hb2 hB d9 d0 hz hu12 h40 h1 hrp hlp p7 p2;omega)),fun gl g1 g2 S1 m1 S2 m2 H3 ngl hgl hg1 hg2 hD1 hD2 s3=>?_⟩;rw[ZkS p2 h1 h0 (by (clear hb10 hb2 d9 hz hu12 h40 h1 hrp hlp p7 p2;omega))] at hgl;cases BestT.uniq hD1 (hB1.scale h0 (by (clear hb10 hb2 d9 hz hu12 h40 h1 hrp hlp p7 p2;omega):1<=B));cases BestT.uniq hD2 (hB2.scale h0 (by (clear hb10 hb2 d9 hz hu12 h40 h1 hrp hlp p7 p2;omega):1<=B));have s13:=s2.trans s3;have hR3:=s13 _ _ hR1;have ht13:=s13 _ _ ht11;have ht23:=s13 _ _ ht21;refine⟨_,rfl,rl,_,0,_,rfl,rfl,SqL.of hR3,rfl,_,rfl,_,_,rfl,rfl,.inr ⟨by (clear hb10 hb2 d9 hz hu12 h40 h1 hrp hlp p7 p2;omega),by (clear hb10 hb2 d0 hz hu12 h40 h1 hrp hlp p7 p2;omega)⟩,_,rfl,rl,_,1,_,rfl,rfl,SqL.of hR3,rfl,t1,_,0,_,rfl,rfl,SqT.of ht13,rfl,_,rfl,_,_,rfl,rfl,.inr ⟨by (clear hb10 hb2 d9 hz hu12 h40 h1 hrp hlp p7 p2;omega),by (clear hb10 hb2 d0 hz hu12 h40 h1 hrp hlp p7 p2;omega)⟩,_,rfl,rl,_,1,_,rfl,rfl,SqL.of hR3,rfl,t1,_,1,_,rfl,rfl,SqT.of ht13,rfl,(by show 2<=sizeLine;decide),fun u1 nu1=>?_⟩;have s4:=Same.new (o:=.tup [V.int (R1*B),.int (n1:Int)]) nu1;refine⟨_,rfl,rl,_,2,_,rfl,rfl,SqL.of (s4 _ _ hR3),rfl,t2,_,0,_,rfl,rfl,SqT.of (s4 _ _ ht23),rfl,_,rfl,_,_,rfl,rfl,.inr ⟨by (clear hb10 hb2 d9 hz hu12 h40 h1 hrp hlp p7 p2;omega),by (clear hb10 hb2 d0 hz hu12 h40 h1 hrp hlp p7 p2;omega)⟩,_,rfl,rl,_,2,_,rfl,rfl,SqL.of (s4 _ _ hR3),rfl,t2,_,1,_,rfl,rfl,SqT.of (s4 _ _ ht23),rfl,(by show 2<=sizeLine;decide),fun u2 nu2=>⟨(by show 3<=sizeLine;decide),fun dl ndl=>?_⟩⟩;have e4:upd H3 u1 (.tup [V.int (R1*B),.int (n1:Int)]) u1=some (.tup [V.int (R1*B),.int (n1:Int)]):=Zab;dsimp only at nu2 ndl ⊢;generalize upd H3 u1 (.tup [V.int (R1*B),.int (n1:Int)])=H4 at s4 e4 nu2 ndl ⊢;have s5:=Same.new (o:=.tup [V.int (R2*B),.int (n2:Int)]) nu2;have e5:upd H4 u2 (.tup [V.int (R2*B),.int (n2:Int)]) u2=some (.tup [V.int (R2*B),.int (n2:Int)]):=Zab;generalize upd H4 u2 (.tup [V.int (R2*B),.int (n2:Int)])=H5 at s5 e5 ndl ⊢;have s6:=Same.new (o:=.lst [V.int (hf p ls*B),.ref u1,.ref u2]) ndl;have e6:upd H5 dl (.lst [V.int (hf p ls*B),.ref u1,.ref u2]) dl=some (.lst [V.int (hf p ls*B),.ref u1,.ref u2]):=Zab;generalize upd H5 dl (.lst [V.int (hf p ls*B),.ref u1,.ref u2])=H6 at s6 e6 ⊢;have s36:=(s4.trans s5).trans s6;have rd2:∀ {Hx:Hp}{t:Addr}{x y:Int},Hx t=some (.tup [V.int x,.int y])->RdN Hx (.ref t) (.tuple [.int x,.int y]):=fun h=>.tup h (.cons (.int _) (.cons (.int _) .nil));have ra:RdN H6 (.ref gl) (.list [.int (hf p ls*B),.tuple [.int (R1*B),.int (n1:Int)],.tuple [.int (R2*B),.int (n2:Int)]]):=.lst (s36 _ _ hgl) (.cons (.int _) (.cons (rd2 (s36 _ _ hg1)) (.cons (rd2 (s36 _ _ hg2)) .nil)));have rb:RdN H6 (.ref dl) (.list [.int (hf p ls*B),.tuple [.int (R1*B),.int (n1:Int)],.tuple [.int (R2*B),.int (n2:Int)]]):=.lst e6 (.cons (.int _) (.cons (rd2 (s6 _ _ (s5 _ _ e4))) (.cons (rd2 (s6 _ _ e5)) .nil)));refine⟨_,rfl,_,rfl,gl,dl,_,rfl,rfl,ra,rb,by simp[PyData.depth,YbN],_,rfl,iteF ?_⟩;have s16:=s13.trans s36;have hL6:=s16 _ _ hL1;have hR6:=s16 _ _ hR1;have ht16:=s16 _ _ ht11;have ht26:=s16 _ _ ht21;have hP6:=hP1.same s16;have sm6:=sm1.trans (Sm.of (p:=pl) s16);clear ra rb e4 e5 e6 s4 s5 s6 hgl hg1 hg2 hD1 hD2 s36 s13 s2 s3 hal;refine⟨_,rfl,ll,_,rfl,.inl (SqL.of hL6),fun lg nlg=>?_⟩;have s7:=Same.new (o:=.lst (ls.map V.int)) nlg;have e7:upd H6 lg (.lst (ls.map V.int)) lg=some (.lst (ls.map V.int)):=Zab;have hP7:=hP6.same s7;have lgp:lg≠pl:=hP6.ne nlg;have lg0:H lg=none:=sm6.free lgp nlg;have hR7:=s7 _ _ hR6;have ht17:=s7 _ _ ht16;have ht27:=s7 _ _ ht26;have sm7:=sm6.trans (Sm.of (p:=pl) s7);generalize upd H6 lg (.lst (ls.map V.int))=H7 at s7 e7 hP7 hR7 ht17 ht27 sm7 ⊢;refine⟨_,rfl,_,rfl,_,rfl,lg,_,rfl,.inl (SqL.of e7),pl,_,rfl,hP7,by rw[Yaa];(clear lgp hb10 hb2 hB d9 d0 hz hu12 h40 hrp hlp p7 p2;omega),by rw[Yaa];exact ZaX (by (clear lgp hb10 hb2 hB d9 d0 hz hu12 h40 h1 hrp hlp p7 p2;omega)) (by (clear lgp hb10 hb2 hB d9 d0 hz hu12 h1 hrp hlp p7 p2;omega)),fun j H8 j0 j1 hP8 sm8=>?_⟩;rw[Yaa] at j1;obtain⟨j,rfl⟩:∃ i:Nat,j=(i:Int):=⟨j.toNat,by (clear j1 lgp hb10 hb2 hB d9 d0 hz hu12 h40 h1 hrp hlp p7 p2;omega)⟩
  have e8:=sm8 _ _ e7 lgp;have hjl:j<ls.length:=by (clear j0 lgp hb10 hb2 hB d9 d0 hz hu12 h40 h1 hrp hlp p7 p2;omega)
  refine⟨lg,_,_,.int (ls.getD j 0),rfl,rfl,SqL.of e8,by (clear hjl j1 j0 lgp hb10 hb2 hB d9 d0 hz hu12 h40 h1 hrp hlp p7 p2;omega),by rw[YaS,Yat,Yai,Yad hjl];rfl,?_⟩;refine⟨_,rfl,pl,99,rfl,hP8,by decide,by decide,fun a H9 a0 a1 hP9 sm9=>⟨_,_,rfl,rfl,_,_,rfl,rfl,?_⟩⟩;have e9:=sm9 _ _ e8 lgp;refine⟨lg,_,_,j,rfl,rfl,e9,by rw[Yaa];exact Zg3 (by (clear a1 a0 hjl j1 j0 lgp hb10 hb2 hB d9 d0 hz hu12 h40 h1 hrp hlp p7 p2;omega)) (by (clear a1 a0 hjl j0 lgp hb10 hb2 hB d9 d0 hz hu12 h40 h1 hrp hlp p7 p2;omega)),?_⟩;have tup9:∀ {t:Addr}{xs:List V},H7 t=some (.tup xs)->H9 t=some (.tup xs):=fun {t xs} ht=>by
   have hne:t≠pl:=fun e=>by
    obtain⟨a,b,d,e2⟩:=hP7;rw[e,e2] at ht;cases ht
   exact sm9 _ _ (sm8 _ _ ht hne) hne
  have ht19:=tup9 ht17;have ht29:=tup9 ht27;have hR9:=sm9 _ _ (sm8 _ _ hR7 hrp) hrp;have sm09:=(sm7.trans sm8).trans sm9;have hnl:∀ {t:Addr}{o:HO},H t=some o->t≠lg:=fun {t o} ht e=>by rw[e,lg0] at ht;cases ht
  have hrl:=hnl hR;have ntl:∀ {t:Addr}{xs:List V},H9 t=some (.tup xs)->t≠lg:=fun {t xs} ht e=>by rw[e,e9] at ht;cases ht
  rw[show ((ls.map V.int).set j (V.int (ls.getD j 0+(1+a))))=(ls.set j (ls.getD j 0+(1+a))).map V.int by rw[List.map_set]];generalize hls':ls.set j (ls.getD j 0+(1+a))=ls';have hlen':ls'.length=ls.length:=by rw[<- hls',Yen]
  have hgj:ls.getD j 0=ls[j]:=by rw[Yai,Yad hjl];rfl
  have hle':leP ls ls':=ZeQ hlen'.symm fun i x y hx hy=>by
   rw[<- hls',List.getElem?_set] at hy;split at hy
   ·rename_i e;subst e;cases hy;rw[Yad hjl] at hx;cases hx;rw[hgj];(clear hgj hlen' hrl a1 j1 j0 lgp hb10 hb2 hB d9 d0 hz hu12 h40 h1 hrp hlp p7 p2;omega)
   ·rw[hx] at hy;cases hy;exact Ybd _
  have hls2:∀ l∈ls',0<=l/\l<=1000000000000:=fun l hl=>by
   rw[<- hls'] at hl;rcases List.mem_or_eq_of_mem_set hl with h | rfl
   ·have:=hls l h;(clear hgj hlen' hrl a1 a0 hjl j1 j0 lgp hb10 hb2 hB d9 d0 hz hu12 h40 h1 hrp hlp p7 p2;omega)
   ·have:=hls _ (Ybq hjl);rw[hgj];(clear hgj hlen' hrl j1 j0 lgp hb10 hb2 hB d9 d0 hz hu12 h40 h1 hrp hlp p7 p2;omega)
  have e10:upd H9 lg (.lst (ls'.map V.int)) lg=some (.lst (ls'.map V.int)):=Zab;have hR10:upd H9 lg (.lst (ls'.map V.int)) rl=_:=(Zag hrl).trans hR9;have ht110:upd H9 lg (.lst (ls'.map V.int)) t1=_:=(Zag (ntl ht19)).trans ht19;have ht210:upd H9 lg (.lst (ls'.map V.int)) t2=_:=(Zag (ntl ht29)).trans ht29;have hP10:Pool3 (upd H9 lg (.lst (ls'.map V.int))) pl:=by
   obtain⟨u,v,w,e⟩:=hP9;exact⟨u,v,w,by rw[Zag (Ybl lgp)];exact e⟩
  have sm10:Sm pl H (upd H9 lg (.lst (ls'.map V.int))):=sm09.putP lg0;generalize upd H9 lg (.lst (ls'.map V.int))=H10 at e10 hR10 ht110 ht210 hP10 sm10 ⊢;refine⟨_,rfl,_,rfl,p,lg,ls',rfl,p2,p7,e10,by (clear hgj hrl a1 a0 hjl j1 j0 lgp hb10 hb2 hB d9 d0 hz hu12 h40 hrp hlp p7 p2;omega),by (clear hgj hrl a1 a0 hjl j1 j0 lgp hb10 hb2 hB d9 d0 hz hu12 h1 hrp hlp p7 p2;omega),fun l hl=>ZaX (hls2 l hl).1 (by have:=(hls2 l hl).2;(clear hgj hlen' hrl a1 a0 hjl j1 j0 lgp hb10 hb2 hB d9 d0 hz hu12 h40 h1 hrp hlp p7 p2;omega)),fun ml x1 x2 S1 m1 S2 m2 H11 nml hml hx1 hx2 hD1 hD2 s11=>?_⟩;have hR11:=s11 _ _ hR10;have i1:hf p ls<=hf p ls':=Zmq p2 h1 hle' h0;have i2:=hB1.mono hle' h0 hD1;have i3:=hB2.mono hle' h0 hD2;refine⟨_,rfl,ml,_,0,_,rfl,rfl,SqL.of hml,rfl,_,rfl,rl,_,0,_,rfl,rfl,SqL.of hR11,rfl,_,_,rfl,rfl,true,by dsimp only;rw[decide_eq_true i1],iteT ?_⟩;refine⟨_,rfl,ml,_,1,_,rfl,rfl,SqL.of hml,rfl,x1,_,0,_,rfl,rfl,SqT.of hx1,rfl,_,rfl,rl,_,1,_,rfl,rfl,SqL.of hR11,rfl,t1,_,0,_,rfl,rfl,SqT.of (s11 _ _ ht110),rfl,_,_,rfl,rfl,true,by dsimp only;rw[decide_eq_true i2],iteT ?_⟩;refine⟨_,rfl,ml,_,2,_,rfl,rfl,SqL.of hml,rfl,x2,_,0,_,rfl,rfl,SqT.of hx2,rfl,_,rfl,rl,_,2,_,rfl,rfl,SqL.of hR11,rfl,t2,_,0,_,rfl,rfl,SqT.of (s11 _ _ ht210),rfl,_,_,rfl,rfl,?_⟩;dsimp only;rw[decide_eq_true i3];exact k H11 (hP10.same s11) (sm10.trans (Sm.of (p:=pl) s11))
end
end Fj99
namespace Fj99
open PySem L2 Lv
section
variable {P:Program}{w:World}{K:Yac}{mg:Str->Option Value}{base:Heap}
theorem ZlH:FnScope ["thing"] ["thing"] (Zad ZdZ):=⟨rfl,rfl,rfl,by decide +kernel,rfl,by decide +kernel,by decide +kernel⟩
theorem Zkv {f:Addr}{fd:FuncData} (F:Fun K "is_whole" "is_whole" ZdZ f fd) (T:Txt mg):FnOk P w K mg base CX0 1 f fd ["thing"] Zes:=by
 refine F.ok ZlH (fun vs H Q E h=>?_) (fun cdv A outer s H vs Q E hr h=>?_)
 ·obtain⟨i,rfl,_⟩:=h;rfl
 ·obtain⟨i,rfl,k⟩:=h;refine⟨_,Zan (Zav (ZgP (Zak ZdH rfl T.isinstance Zc6 (Zaa (pv 0) (Zaa (Zm2 rfl T.int Zod) Zac)))
   (Ziy (Zm3 (Zak ZdH rfl T.isinstance Zc6 (Zaa (pv 0) (Zaa (Zm2 rfl T.bool Zny) Zac))))))),?_⟩
  refine⟨_,rfl,.int i,"int",_,true,rfl,.int i,Zgd,true,rfl,iteT ?_⟩;exact⟨_,rfl,.int i,"bool",_,false,rfl,.int i,Zfq,false,rfl,k⟩
theorem ZmT:FnScope ["p"] ["p"] (Zad Zhz):=⟨rfl,rfl,rfl,by decide +kernel,rfl,by decide +kernel,by decide +kernel⟩
theorem Zl3 {f fW:Addr}{fd dW:FuncData}{t2 t7:Tok} (F:Fun K "check_ways" "check_ways" Zhz f fd) (T:Txt mg) (hL:mg "LEAST_WAYS"=some (.int 2 t2)) (hM:mg "MOST_WAYS"=some (.int 7 t7)) (CW:Cal P w K mg base 1 "is_whole" ["thing"] Zes fW dW) :
  FnOk P w K mg base CX0 2 f fd ["p"] Zcf:=by
 refine F.ok ZmT (fun vs H Q E h=>?_) (fun cdv A outer s H vs Q E hr h=>?_)
 ·obtain⟨i,rfl,_⟩:=h;rfl
 ·obtain⟨i,rfl,h1,h2,k⟩:=h;refine⟨_,Zan (Zfj (PW.pt (Zkd (Zea (Zd9 (Zam CW hr rfl (Zaa (pv 0) Zac))))
   (ZgI (Zea (ZgL Zdv Zdv (ZcM rfl hL) (pv 0) (ZcM rfl hM)))))) ZaY ZbC),?_⟩
  refine⟨_,rfl,i,rfl,true,rfl,iteF ?_⟩;refine⟨_,rfl,2,i,rfl,rfl,_,rfl,?_⟩;rw[decide_eq_true h1];refine iteT ⟨i,7,rfl,rfl,_,rfl,?_⟩;rw[decide_eq_true h2];exact iteF k
theorem ZlM:FnScope ["n","last"] ["n","last"] (Zad Zd5):=⟨rfl,rfl,rfl,by decide +kernel,rfl,by decide +kernel,by decide +kernel⟩
theorem ZgR {f fW da:Addr}{fd dW:FuncData} (F:FunD K "check_level" "check_level" Zd5 f da fd) (T:Txt mg) (CW:Cal P w K mg base 1 "is_whole" ["thing"] Zes fW dW) :
  FnOk P w K mg base CX0 2 f fd ["n","last"] Zcg:=by
 refine F.ok ZlM (fun vs H Q E h=>?_) (fun cdv A outer s H vs Q E hr h=>?_)
 ·obtain⟨i,m,rfl,_⟩:=h;rfl
 ·obtain⟨i,m,rfl,h1,h2,k⟩:=h;refine⟨_,Zan (Zfj (PW.pt (Zkd (Zea (Zd9 (Zam CW hr rfl (Zaa (pv 0) Zac))))
   (ZgI (Zea (ZgL Zdv Zdv Zae (pv 0) (pv 1)))))) ZaY ZbC),?_⟩
  refine⟨_,rfl,i,rfl,true,rfl,iteF ?_⟩;refine⟨_,rfl,0,i,rfl,rfl,_,rfl,?_⟩;rw[decide_eq_true h1];refine iteT ⟨_,rfl,i,m,rfl,rfl,_,rfl,?_⟩;rw[decide_eq_true h2];exact iteF k
theorem ZlN:FnScope ["p"] ["p"] (Zad Zd6):=⟨rfl,rfl,rfl,by decide +kernel,rfl,by decide +kernel,by decide +kernel⟩
theorem ZkE {f:Addr}{fd:FuncData} (F:Fun K "first_counts" "first_counts" Zd6 f fd) (T:Txt mg):FnOk P w K mg base CX0 1 f fd ["p"] Zey:=by
 refine F.ok ZlN (fun vs H Q E h=>?_) (fun cdv A outer s H vs Q E hr h=>?_)
 ·obtain⟨p,rfl,_⟩:=h;rfl
 ·obtain⟨p,rfl,h1,h2,k⟩:=h;refine⟨_,Zan (Zav (ZaP Zax rfl T.tuple Zbl (Zaa (Zat Zc5 (ZaM (Zaa Zae Zac)) (Zat ZgQ (ZaM (Zaa Zae Zac)) (Zat Zc3 (pv 0) Zae))) Zac))),?_⟩;refine⟨(by show 1<=sizeLine;decide),fun p1 e1=>⟨(by show 1<=sizeLine;decide),fun p2 e2=>⟨_,rfl,_,_,rfl,rfl,?_⟩⟩⟩;have z2:(upd (upd H p1 (.lst [.int 1])) p2 (.lst [.int 0])) p1=some (.lst [.int 1]):=by rw[Zag (Zaf Zab e2)];exact Zab
  refine⟨p2,(p:Int) - 1,_,rfl,rfl,Zab,by (clear h2 h1;omega),by (clear h1;omega),?_,fun p3 e3=>?_⟩
  ·exact Ybs (ZaF (by show 1*((p:Int) - 1).toNat<=1000;(clear h1;omega)))
  have z3:=(Same.new (o:=.lst (Yaj ((p:Int) - 1).toNat [V.int 0]).flatten) e3) p1 _ z2;have ez:(Yaj ((p:Int) - 1).toNat [V.int 0]).flatten=Yaj (p - 1) (V.int 0):=by
   rw[show ((p:Int) - 1).toNat=p - 1 by (clear h2 h1;omega)];exact YcK
  rw[ez] at z3 ⊢;refine⟨p1,p3,_,_,rfl,rfl,z3,Zab,?_,fun p4 e4=>?_⟩
  ·exact Ybs (ZaF (by rw[YbQ];show 1+(p - 1)<=1000;(clear h1;omega)))
  refine⟨p4,_,rfl,.inl ⟨SqL.of Zab,fun l hl=>?_⟩⟩;have s4:=(((Same.new (o:=.lst [.int 1]) e1).trans (Same.new (o:=.lst [.int 0]) e2)).trans (Same.new (o:=.lst (Yaj (p - 1) (V.int 0))) e3)).trans (Same.new (o:=.lst ([.int 1]++Yaj (p - 1) (V.int 0))) e4);refine k l _ (s4.free hl) ?_ (s4.trans (Same.new hl));rw[Zab];simp[Zbz]
theorem scNext:FnScope ["counts","first"] ["counts"] (Zad Zf1):=⟨rfl,rfl,rfl,by decide +kernel,rfl,by decide +kernel,by decide +kernel⟩
theorem Zl5 {f:Addr}{fd:FuncData} (F:Fun K "next_counts" "next_counts" Zf1 f fd) (T:Txt mg):FnOk P w K mg base CX0 1 f fd ["counts"] (Zic K):=by
 refine F.ok scNext (fun vs H Q E h=>?_) (fun cdv A outer s H vs Q E hr h=>?_)
 ·obtain⟨a,c,rfl,_⟩:=h;rfl
 ·obtain⟨a,c,rfl,hA,h1,h2,k⟩:=h;refine⟨_,Zai (Zaq (i:=1) scNext.nd rfl (Yde rfl) (Zaz Za4 (pv 0) Zae (fun _ _=>rfl)))
   (Zan (Zav (ZaP Zax rfl T.tuple Zbl (Zaa (Zat Zc5
    (ZaG (own:=["count"]) (js:=[1]) (CompOk.by (sc:=Zad Zf1) (N:=["counts","first"]) rfl rfl (by decide +kernel)) rfl (Zc1 (Za7 Zgz (pv 0) (Za3 Zae) ZbD)) Zay
     (fun _ _ _ _ _=>Zaj (i:=0) (by show (["count","first"]:List Str).Nodup;decide +kernel) rfl (YaI rfl) (.inr rfl)) (fun _ _ _ _ _=>ZaC) (fun _ _ _ _ _=>Zat ZaQ (pv 1) (pv 0)))
    (ZaM (Zaa (pv 1) Zac))) Zac)))),?_⟩
  obtain⟨c0,cr,rfl⟩:∃ c0 cr,c=c0::cr:=by
   cases c with
   | nil=>simp at h1
   | cons x y=>exact⟨x,y,rfl⟩
  have hcr:cr.length<=6:=by simpa using h2
  refine⟨_,rfl,a,_,0,.int c0,rfl,rfl,hA,Zk6,?_⟩;refine⟨_,rfl,1,rfl,a,_,rfl,hA,?_,fun p1 e1=>⟨p1,rfl,⟨_,SqT.of Zab⟩,?_⟩⟩
  ·rintro⟨z,_⟩;have:HT.sIx ((c0::cr).map V.int).length 0 (some ((1:Nat):Int))=0:=z;rw[HT.sIx_nat] at this;simp at this
  have ecut:cutV ((c0::cr).map V.int) (some 1) none=cr.map V.int:=by
   unfold cutV;show (((c0::cr).map V.int).drop (HT.sIx ((c0::cr).map V.int).length 0 (some ((1:Nat):Int)))).take (HT.sIx ((c0::cr).map V.int).length ((c0::cr).map V.int).length none - HT.sIx ((c0::cr).map V.int).length 0 (some ((1:Nat):Int)))=_;rw[HT.sIx_nat];rw[show min 1 ((c0::cr).map V.int).length=1 by simp];show (cr.map V.int).take (((c0::cr).map V.int).length - 1)=_;rw[Ya2 (by simp)]
  rw[ecut];refine Zcw (xs:=cr.map V.int) (fun acc i H2=>Same (upd H p1 (.tup (cr.map V.int))) H2/\H2 acc=some (.lst (((cr.take i).map (c0+·)).map V.int))) (fun acc h0=>⟨Same.new h0,Zab⟩) (fun acc i H2 h0 _ p=>p.1.tup (SqT.of Zab)) ?_ ?_
  ·rintro acc i x H2 h0 hx ⟨s2,hacc⟩;obtain⟨z,hz,rfl⟩:=ZaJ hx;have hi:=(Yab.mp hz).1
   refine⟨_,rfl,_,rfl,_,_,rfl,rfl,_,hacc,?_,by rw[Yaa];exact hi,s2.put h0,?_⟩
   ·exact ZaF (by simp;(clear hi h2 h1;omega))
   ·rw[Zab,Ybj,hz];simp
  ·rintro acc H2 h0 ⟨s2,hacc⟩;rw[Yaa,YaN] at hacc;refine⟨_,rfl,(by show 1<=sizeLine;decide),fun p2 e2=>?_⟩;refine⟨acc,p2,_,_,rfl,rfl,(Same.new e2) acc _ hacc,Zab,?_,fun p3 e3=>⟨p3,_,rfl,.inl ⟨SqL.of Zab,fun l hl=>?_⟩⟩⟩
   ·exact Ybs (ZaF (by simp;(clear h2 h1;omega)))
   have s3:=(((Same.new (o:=.tup (cr.map V.int)) e1).trans s2).trans (Same.new (o:=.lst [.int c0]) e2)).trans (Same.new (o:=.lst (((cr.map (c0+·)).map V.int)++[.int c0])) e3);refine k l _ (s3.free hl) ?_ (s3.trans (Same.new hl));rw[Zab];simp[ZbF]
theorem scCounts:FnScope ["p","n","counts","level"] ["p","n"] (Zad ZcH):=⟨rfl,rfl,rfl,by decide +kernel,rfl,by decide +kernel,by decide +kernel⟩
theorem ZiM {f fA fB fC fD:Addr}{fd dA dB dC dD:FuncData} (F:Fun K "level_counts" "level_counts" ZcH f fd) (T:Txt mg) (CA:Cal P w K mg base 2 "check_ways" ["p"] Zcf fA dA) (CB:CalD P w K mg base 2 "check_level" ["n","last"] [.int 300] Zcg fB dB) (CC:Cal P w K mg base 1 "first_counts" ["p"] Zey fC dC) (CD:Cal P w K mg base 1 "next_counts" ["counts"] (Zic K) fD dD) :
  FnOk P w K mg base CX0 3 f fd ["p","n"] Zch:=by
 refine F.ok scCounts (fun vs H Q E h=>?_) (fun cdv A outer s H vs Q E hr h=>?_)
 ·obtain⟨p,n,rfl,_⟩:=h;rfl
 ·obtain⟨p,n,rfl,h1,h2,h3,k⟩:=h;have hr1:Room 1 _:=hr.mono (by decide);refine⟨_,Zai (ZaD (Zam CA hr rfl (Zaa (pv 0) Zac))) (Zai (ZaD (ZlX CB hr rfl (Zaa (pv 1) Zac)))
   (Zai (Zaq (i:=2) scCounts.nd rfl (YaI rfl) (Zam CC hr1 rfl (Zaa (pv 0) Zac)))
   (Zai (Zbd Ya5 rfl (ZaR rfl T.range (Zaa (pv 1) Zac)) (Zaj (i:=3) scCounts.nd rfl (YaI rfl))
    (Zan (Zaq (i:=2) scCounts.nd rfl (YaI rfl) (Zam CD hr1 rfl (Zaa (pv 2) Zac)))))
   (Zan (Zav (pv 2)))))),?_⟩
  refine⟨_,rfl,p,rfl,by (clear h3 h2;omega),by (clear h3 h1;omega),?_⟩;refine⟨_,rfl,n,300,rfl,by (clear h3 h2 h1;omega),by (clear h2 h1;omega),?_⟩;refine⟨_,rfl,p,rfl,h1,h2,fun l H1 hl0 hl1 s1=>?_⟩;refine⟨_,rfl,n,rfl,by (clear h3 h2 h1;omega),by (clear h2 h1;omega),Zbo (fun i σ H2=>∃ (l:Addr) (o:Option V),σ=[some (.int p),some (.int n),some (.ref l),o]/\H l=none/\H2 l=some (.tup ((cnt p i).map V.int))/\Same H H2)
   ⟨l,none,rfl,hl0,hl1,s1⟩ ?_ ?_⟩
  ·rintro i σ H2 hi ⟨l,o,rfl,hl0,hl2,s2⟩;have hlen:=ZeY (p:=p) (by (clear hi h3 h2;omega)) i;refine⟨_,rfl,l,cnt p i,rfl,SqT.of hl2,by (clear hi h3 h2;omega),by (clear hi h3 h1;omega),fun l3 H3 h30 h3 s3=>?_⟩;exact⟨l3,_,rfl,s2.free h30,h3,s2.trans s3⟩
  ·rintro σ H2 ⟨l,o,rfl,hl0,hl2,s2⟩;refine⟨_,rfl,k l H2 hl0 ?_ s2⟩;simpa using hl2
theorem ZlI:FnScope ["p","n"] ["p","n"] (Zad Zd0):=⟨rfl,rfl,rfl,by decide +kernel,rfl,by decide +kernel,by decide +kernel⟩
theorem Zkw {f fA:Addr}{fd dA:FuncData} (F:Fun K "level_total" "level_total" Zd0 f fd) (T:Txt mg) (CA:Cal P w K mg base 3 "level_counts" ["p","n"] Zch fA dA):FnOk P w K mg base CX0 4 f fd ["p","n"] ZfT:=by
 refine F.ok ZlI (fun vs H Q E h=>?_) (fun cdv A outer s H vs Q E hr h=>?_)
 ·obtain⟨p,n,rfl,_⟩:=h;rfl
 ·obtain⟨p,n,rfl,h1,h2,h3,k⟩:=h;refine⟨_,Zan (Zav (Zak (Zcy rfl) rfl T.sum Ze1 (Zaa (Zam CA hr rfl (Zaa (pv 0) (Zaa (pv 1) Zac))) Zac))),?_⟩;exact⟨_,rfl,_,rfl,p,n,rfl,h1,h2,h3,fun l H1 hl0 hl1 s1=>⟨l,_,rfl,SqT.of hl1,k H1 s1⟩⟩
theorem ZnO:FnScope ["total"] ["total"] (Zad sTot):=⟨rfl,rfl,rfl,by decide +kernel,rfl,by decide +kernel,by decide +kernel⟩
theorem Zm9 {f:Addr}{fd:FuncData}{tM:Tok} (F:Fun K "check_total" "check_total" sTot f fd) (T:Txt mg) (hM:mg "MOST_PLACES"=some (.int 4000 tM)):FnOk P w K mg base CX0 1 f fd ["total"] Zj0:=by
 refine F.ok ZnO (fun vs H Q E h=>?_) (fun cdv A outer s H vs Q E hr h=>?_)
 ·obtain⟨i,rfl,_⟩:=h;rfl
 ·obtain⟨i,rfl,h4,k⟩:=h;refine⟨_,Zan (Zfj (ZaL ZhI (pv 0) (ZcM rfl hM) (ZaN _)) ZaY ZbC),?_⟩;refine⟨_,rfl,_,_,rfl,rfl,_,rfl,?_⟩;rw[decide_eq_false (by omega)];exact iteF k
theorem Zj6:FnScope ["p"] ["p"] (Zad ZcG):=⟨rfl,rfl,rfl,by decide +kernel,rfl,by decide +kernel,by decide +kernel⟩
theorem ZiL {f:Addr}{fd:FuncData} (F:Fun K "first_numbers" "first_numbers" ZcG f fd) (T:Txt mg):FnOk P w K mg base CX0 1 f fd ["p"] ZbO:=by
 refine F.ok Zj6 (fun vs H Q E h=>?_) (fun cdv A outer s H vs Q E hr h=>?_)
 ·obtain⟨p,rfl,_⟩:=h;rfl
 ·obtain⟨p,rfl,h1,h2,k⟩:=h;refine⟨_,Zan (Zav (ZaP Zax rfl T.tuple Zbl (Zaa (Zat Zc5 (ZaM (Zaa (Zbi (Zaa Zae Zac)) Zac)) (Zat ZgQ (ZaM (Zaa (Zbi Zac) Zac)) (Zat Zc3 (pv 0) Zae))) Zac))),?_⟩;refine⟨(by show 1<=sizeLine;decide),fun q0 e0=>⟨(by show 1<=sizeLine;decide),fun p1 e1=>⟨YaY _,fun q1 f1=>⟨(by show 1<=sizeLine;decide),fun p2 e2=>⟨_,rfl,_,_,rfl,rfl,?_⟩⟩⟩⟩⟩;have t0:Same H (upd H q0 (.tup [.int 0])):=Same.new e0;have t1:=t0.trans (Same.new (o:=.lst [.ref q0]) e1);have t2:=t1.trans (Same.new (o:=.tup []) f1);have t3:=t2.trans (Same.new (o:=.lst [.ref q1]) e2);have a0:(upd (upd (upd (upd H q0 (.tup [.int 0])) p1 (.lst [.ref q0])) q1 (.tup [])) p2 (.lst [.ref q1])) q0=some (.tup [.int 0]):=((Same.new e1).trans ((Same.new f1).trans (Same.new e2))) q0 _ Zab;have a1:(upd (upd (upd (upd H q0 (.tup [.int 0])) p1 (.lst [.ref q0])) q1 (.tup [])) p2 (.lst [.ref q1])) p1=some (.lst [.ref q0]):=((Same.new f1).trans (Same.new e2)) p1 _ Zab;have a2:(upd (upd (upd (upd H q0 (.tup [.int 0])) p1 (.lst [.ref q0])) q1 (.tup [])) p2 (.lst [.ref q1])) q1=some (.tup []):=(Same.new e2) q1 _ Zab;have a3:(upd (upd (upd (upd H q0 (.tup [.int 0])) p1 (.lst [.ref q0])) q1 (.tup [])) p2 (.lst [.ref q1])) p2=some (.lst [.ref q1]):=Zab;generalize (upd (upd (upd (upd H q0 (.tup [.int 0])) p1 (.lst [.ref q0])) q1 (.tup [])) p2 (.lst [.ref q1]))=H1 at t3 a0 a1 a2 a3 ⊢;refine⟨p2,(p:Int) - 1,_,rfl,rfl,a3,by (clear h2 h1;omega),by (clear h1;omega),?_,fun p3 e3=>?_⟩
  ·exact Ybs (ZaF (by show 1*((p:Int) - 1).toNat<=1000;(clear h1;omega)))
  have ez:(Yaj ((p:Int) - 1).toNat [V.ref q1]).flatten=Yaj (p - 1) (V.ref q1):=by
   rw[show ((p:Int) - 1).toNat=p - 1 by (clear h2 h1;omega)];exact YcK
  rw[ez];have s3:=Same.new (o:=.lst (Yaj (p - 1) (V.ref q1))) e3;refine⟨p1,p3,_,_,rfl,rfl,s3 p1 _ a1,Zab,?_,fun p4 e4=>⟨p4,_,rfl,.inl ⟨SqL.of Zab,fun l hl=>?_⟩⟩⟩
  ·exact Ybs (ZaF (by rw[YbQ];show 1+(p - 1)<=1000;(clear h1;omega)))
  have s4:=s3.trans (Same.new (o:=.lst ([.ref q0]++Yaj (p - 1) (V.ref q1))) e4);have s5:=s4.trans (Same.new (o:=.tup ([.ref q0]++Yaj (p - 1) (V.ref q1))) hl);have hl0:H l=none:=(t3.trans s4).free hl;refine k l (q0::Yaj (p - 1) q1) _ hl0 (by rw[Zab];simp) ⟨by simp[num0],fun j r xs ha hb=>?_⟩ (t3.trans s5)
  cases j with
  | zero=>
   have:r=q0:=by simpa using ha.symm
   have:xs=[0]:=by simpa[num0] using hb.symm
   subst r xs;exact s5 q0 _ a0
  | succ j=>
   have:r=q1:=Zim (j:=j) (by simpa using ha);have:xs=[]:=Zim (j:=j) (by simpa[num0] using hb);subst r xs;exact s5 q1 _ a2
theorem Zj5:FnScope ["p","n"] ["p","n"] (Zad ZcD):=⟨rfl,rfl,rfl,by decide +kernel,rfl,by decide +kernel,by decide +kernel⟩
theorem ZiG {f fA fB:Addr}{fd dA dB:FuncData} (F:Fun K "check_places" "check_places" ZcD f fd) (T:Txt mg) (CA:Cal P w K mg base 4 "level_total" ["p","n"] ZfT fA dA) (CB:Cal P w K mg base 1 "check_total" ["total"] Zj0 fB dB):FnOk P w K mg base CX0 5 f fd ["p","n"] Zev:=by
 refine F.ok Zj5 (fun vs H Q E h=>?_) (fun cdv A outer s H vs Q E hr h=>?_)
 ·obtain⟨p,n,rfl,_⟩:=h;rfl
 ·obtain⟨p,n,rfl,h1,h2,h3,h4,k⟩:=h;have hr1:Room 1 _:=hr.mono (by decide);refine⟨_,Zan (ZaD (Zam CB hr1 rfl (Zaa (Zam CA hr rfl (Zaa (pv 0) (Zaa (pv 1) Zac))) Zac))),?_⟩;exact⟨_,rfl,_,rfl,p,n,rfl,h1,h2,h3,fun H1 s1=>⟨_,rfl,h4,k H1 s1⟩⟩
theorem scNextN:FnScope ["numbers","first"] ["numbers"] (Zad ZcY):=⟨rfl,rfl,rfl,by decide +kernel,rfl,by decide +kernel,by decide +kernel⟩
theorem ZkA {f:Addr}{fd:FuncData} (F:Fun K "next_numbers" "next_numbers" ZcY f fd) (T:Txt mg):FnOk P w K mg base CX0 1 f fd ["numbers"] ZcC:=by
 refine F.ok scNextN (fun vs H Q E h=>?_) (fun cdv A outer s H vs Q E hr h=>?_)
 ·obtain⟨a,rs,N,rfl,_⟩:=h;rfl
 ·obtain⟨a,rs,N,rfl,hA,hT,h1,h2,hne,hz,k⟩:=h;refine⟨_,Zai (Zaq (i:=1) scNextN.nd rfl (Yde rfl) (ZaP Zax rfl T.tuple Zbl (Zaa (ZaG (own:=["number"]) (js:=[]) (CompOk.by (sc:=Zad ZcY) (N:=["numbers","first"]) rfl rfl (by decide +kernel)) rfl (Zc1 (Zaz Za4 (pv 0) Zae (fun _ _=>rfl))) Zay
     (fun _ _ _ _ _=>Zaj (i:=0) (by show (["number"]:List Str).Nodup;decide +kernel) rfl (YaI rfl) (.inr rfl)) (fun _ _ _ _ _=>ZaC) (fun _ _ _ _ _=>Zat ZaQ (pv 0) Zae)) Zac)))
   (Zan (Zav (ZaP Zax rfl T.tuple Zbl (Zaa (Zat Zc5
    (ZaG (own:=["reel"]) (js:=[1]) (CompOk.by (sc:=Zad ZcY) (N:=["numbers","first"]) rfl rfl (by decide +kernel)) rfl (Zc1 (Za7 Zgz (pv 0) (Za3 Zae) ZbD)) Zay
     (fun _ _ _ _ _=>Zaj (i:=0) (by show (["reel","first"]:List Str).Nodup;decide +kernel) rfl (YaI rfl) (.inr rfl)) (fun _ _ _ _ _=>ZaC) (fun _ _ _ _ _=>Zat (Zku K) (pv 1) (pv 0)))
    (ZaM (Zaa (pv 1) Zac))) Zac)))),?_⟩
  obtain⟨x0,xr,rfl⟩:∃ x0 xr,N=x0::xr:=by
   cases N with
   | nil=>simp at h1
   | cons x y=>exact⟨x,y,rfl⟩
  obtain⟨r0,rr,rfl⟩:∃ r0 rr,rs=r0::rr:=by
   cases rs with
   | nil=>have:=hT.1;simp at this
   | cons x y=>exact⟨x,y,rfl⟩
  have hr0:H r0=some (.tup (x0.map V.int)):=hT.2 0 r0 x0 rfl rfl;have hrl:rr.length=xr.length:=by have:=hT.1;simpa using this
  have hxr:xr.length<=6:=by simpa using h2
  have hx0:x0.length<=4000:=hz x0 (by simp);have ef:fstN (x0::xr)=x0.map (·+1):=rfl;refine⟨_,rfl,a,_,0,.ref r0,rfl,rfl,SqT.of hA,ZdJ (j:=0) rfl,r0,rfl,⟨_,SqT.of hr0⟩,?_⟩;refine Zcw (xs:=x0.map V.int) (fun acc i H2=>Same H H2/\H2 acc=some (.lst (((x0.take i).map (·+1)).map V.int))) (fun acc h0=>⟨Same.new h0,Zab⟩) (fun acc i H2 h0 _ p=>p.1.tup (SqT.of hr0)) ?_ ?_
  ·rintro acc i x H2 h0 hx ⟨s2,hacc⟩;obtain⟨z,hz',rfl⟩:=ZaJ hx;have hi:=(Yab.mp hz').1
   refine⟨_,rfl,z,1,rfl,rfl,_,hacc,?_,by rw[Yaa];exact hi,s2.put h0,?_⟩
   ·exact ZbB (by simp;(clear hi hxr hrl h2 h1;omega))
   ·rw[Zab,Ybj,hz',Yby,Yau,Yau];rfl
  rintro acc H2 h0 ⟨s2,hacc⟩;rw[Yaa,YaN] at hacc;refine⟨acc,_,rfl,.inl ⟨SqL.of hacc,fun fl hfl=>?_⟩⟩;have s3:=s2.trans (Same.new (o:=.tup ((x0.map (·+1)).map V.int)) hfl);have hfl3:(upd H2 fl (.tup ((x0.map (·+1)).map V.int))) fl=some (.tup ((x0.map (·+1)).map V.int)):=Zab;generalize (upd H2 fl (.tup ((x0.map (·+1)).map V.int)))=H3 at s3 hfl3 ⊢;have hfl0:H fl=none:=s2.free hfl;refine⟨_,rfl,1,rfl,a,_,rfl,SqT.of (s3 a _ hA),?_,fun p1 e1=>⟨p1,rfl,⟨_,SqT.of Zab⟩,?_⟩⟩
  ·rintro⟨z,_⟩;have:HT.sIx ((r0::rr).map V.ref).length 0 (some ((1:Nat):Int))=0:=z;rw[HT.sIx_nat] at this;simp at this
  have ecut:cutV ((r0::rr).map V.ref) (some 1) none=rr.map V.ref:=by
   unfold cutV;show (((r0::rr).map V.ref).drop (HT.sIx ((r0::rr).map V.ref).length 0 (some ((1:Nat):Int)))).take (HT.sIx ((r0::rr).map V.ref).length ((r0::rr).map V.ref).length none - HT.sIx ((r0::rr).map V.ref).length 0 (some ((1:Nat):Int)))=_;rw[HT.sIx_nat];rw[show min 1 ((r0::rr).map V.ref).length=1 by simp];show (rr.map V.ref).take (((r0::rr).map V.ref).length - 1)=_;rw[Ya2 (by simp)]
  rw[ecut];have s4:=s3.trans (Same.new (o:=.tup (rr.map V.ref)) e1);have hfl4:=(Same.new (o:=.tup (rr.map V.ref)) e1) fl _ hfl3;have hp14:(upd H3 p1 (.tup (rr.map V.ref))) p1=some (.tup (rr.map V.ref)):=Zab;generalize (upd H3 p1 (.tup (rr.map V.ref)))=H4 at s4 hfl4 hp14 ⊢;have hr:∀ (j:Nat) r xs,rr[j]?=some r->xr[j]?=some xs->H r=some (.tup (xs.map V.int)):=fun j r xs a b=>hT.2 (j+1) r xs a b;have hxz:∀ xs∈xr,xs.length<=4000:=fun xs hx=>hz xs (by simp[hx]);have hx0ne:x0≠[]:=hne;refine Zcw (xs:=rr.map V.ref) (fun acc i H5=>Same H4 H5/\∃ qs:List Addr,H5 acc=some (.lst (qs.map V.ref))/\TTs H5 qs ((xr.take i).map (x0.map (·+1)++·))) (fun acc h0=>⟨Same.new h0,[],Zab,rfl,fun j r xs a b=>by simp at a⟩) (fun acc i H5 h0 _ p=>p.1.tup (SqT.of hp14)) ?_ ?_
  ·rintro acc i x H5 h0 hx ⟨s5,qs,hacc,hq⟩;obtain⟨r,hr',rfl⟩:=Zbf hx;have hi:=(Yab.mp hr').1
   have hix:i<xr.length:=by (clear hx0 hxr h2 h1;omega)
   have hrx:H5 r=some (.tup (xr[i].map V.int)):=(s4.trans s5) r _ (hr i r _ hr' (Yad hix));have hfl5:=s5 fl _ hfl4;have hxi:xr[i].length<=4000:=hxz _ (Ybq hix);have hqs:qs.length<=6:=by have:=hq.1;simp at this;(clear hxi hi hx0 hrl h2 h1;omega)
   have e2:(xr.take (i+1)).map (x0.map (·+1)++·)=(xr.take i).map (x0.map (·+1)++·)++[x0.map (·+1)++xr[i]]:=by
    rw[YaW hix,Yau];rfl
   rw[e2];refine⟨_,rfl,_,rfl,fl,r,_,_,rfl,rfl,SqT.of hfl5,SqT.of hrx,by simpa using hx0ne,?_,fun hemp=>?_,fun hemp pn en=>?_⟩
   ·exact Ybs (ZbB (by simp;(clear hqs hi hxr hrl h2 h1;omega)))
   ·have hemp':xr[i]=[]:=by simpa using hemp
    refine⟨_,hacc,ZbB (by simp;(clear hxi hi hx0 hxr hrl h2 h1;omega)),by rw[Yaa];exact hi,s5.put h0,qs++[fl],by rw[Zab];simp,?_⟩;refine (hq.lst hacc).snoc ?_;rw[hemp',Ybb,Zag (by intro z;subst z;rw[hacc] at hfl5;cases hfl5)];exact hfl5
   ·have hacc6:=(Same.new (o:=.tup ((x0.map (·+1)).map V.int++xr[i].map V.int)) en) acc _ hacc;refine⟨_,hacc6,ZbB (by simp;(clear hxi hi hx0 hxr hrl h2 h1;omega)),by rw[Yaa];exact hi,(s5.trans (Same.new en)).put h0,qs++[pn],by rw[Zab];simp,?_⟩;refine ((hq.same (Same.new en)).lst hacc6).snoc ?_;rw[Zag (by intro z;subst z;rw[hacc] at en;cases en),Zab];simp
  ·rintro acc H5 h0 ⟨s5,qs,hacc,hq⟩;rw[Yaa,hrl,YaN] at hq;have hfl5:=s5 fl _ hfl4;have hqs:qs.length<=6:=by have:=hq.1;simp at this;(clear hx0 hrl h2 h1;omega)
   refine⟨_,rfl,(by show 1<=sizeLine;decide),fun p2 e2=>?_⟩;refine⟨acc,p2,_,_,rfl,rfl,(Same.new e2) acc _ hacc,Zab,?_,fun p3 e3=>⟨p3,_,rfl,.inl ⟨SqL.of Zab,fun l hl=>?_⟩⟩⟩
   ·exact Ybs (ZbB (by simp;(clear hx0 hxr hrl h2 h1;omega)))
   have sz:=((Same.new (o:=.lst [V.ref fl]) e2).trans (Same.new (o:=.lst (qs.map V.ref++[V.ref fl])) e3)).trans (Same.new (o:=.tup (qs.map V.ref++[V.ref fl])) hl);have s6:=(s4.trans s5).trans sz;refine k l (qs++[fl]) _ ?_ (by rw[Zab];simp) ?_ s6
   ·exact ((s4.trans s5).trans ((Same.new (o:=.lst [V.ref fl]) e2).trans (Same.new (o:=.lst (qs.map V.ref++[V.ref fl])) e3))).free hl
   ·exact (hq.same sz).snoc (sz fl _ hfl5)
theorem scAfter:FnScope ["p","n","following","numbers","level"] ["p","n","following"] (Zad ZcZ):=⟨rfl,rfl,rfl,by decide +kernel,rfl,by decide +kernel,by decide +kernel⟩
theorem ZkF {f fA fB:Addr}{fd dA dB:FuncData} (F:Fun K "numbers_after" "numbers_after" ZcZ f fd) (T:Txt mg) (CB:Cal P w K mg base 1 "first_numbers" ["p"] ZbO fB dB) (CA:Cal P w K mg base 1 "next_numbers" ["numbers"] ZcC fA dA):FnOk P w K mg base CX0 2 f fd ["p","n","following"] (ZfZ fA):=by
 refine F.ok scAfter (fun vs H Q E h=>?_) (fun cdv A outer s H vs Q E hr h=>?_)
 ·obtain⟨p,n,rfl,_⟩:=h;rfl
 ·obtain⟨p,n,rfl,h1,h2,h3,h4,k⟩:=h;refine⟨_,Zai (Zaq (i:=3) scAfter.nd rfl (YaI rfl) (Zam CB hr rfl (Zaa (pv 0) Zac)))
   (Zai (Zbd Ya5 rfl (ZaR rfl T.range (Zaa (pv 1) Zac)) (Zaj (i:=4) scAfter.nd rfl (YaI rfl)) (Zan (Zaq (i:=3) scAfter.nd rfl (YaI rfl) (ZeL 2 CA hr (Zaa (pv 3) Zac)))))
   (Zan (Zav (pv 3)))),?_⟩
  refine⟨_,rfl,p,rfl,h1,h2,fun l qs H1 hl0 hl1 hq1 s1=>?_⟩;refine⟨_,rfl,n,rfl,by (clear h4 h3 h2 h1;omega),by (clear h4 h2 h1;omega),Zbo (fun i σ H2=>∃ (l:Addr) (qs:List Addr) (o:Option V),σ=[some (.int p),some (.int n),some (.ref fA),some (.ref l),o]/\H l=none/\H2 l=some (.tup (qs.map V.ref))/\TTs H2 qs (num p i)/\Same H H2)
   ⟨l,qs,none,rfl,hl0,hl1,hq1,s1⟩ ?_ ?_⟩
  ·rintro i σ H2 hi ⟨l,qs,o,rfl,hl0,hl2,hq,s2⟩;have hlen:=ZbE (p:=p) (by (clear hi h4 h3 h2;omega)) i;have htot:=Zda (p:=p) h1 (show i<=n by (clear hlen h4 h3 h2 h1;omega));refine⟨rfl,_,rfl,l,qs,num p i,rfl,hl2,hq,by (clear htot hi h4 h3 h2;omega),by (clear htot hi h4 h3 h1;omega),?_,fun xs hx=>?_,fun l3 qs3 H3 h30 h3 hq3 s3=>?_⟩
   ·obtain⟨a,r,e,ha,_⟩:=ZgS h1 i;rw[e];exact ha
   ·have:=Zlm hx
    (clear hlen hi h3 h2 h1;omega)
   ·exact⟨l3,qs3,_,rfl,s2.free h30,h3,hq3,s2.trans s3⟩
  ·rintro σ H2 ⟨l,qs,o,rfl,hl0,hl2,hq,s2⟩;refine⟨_,rfl,k l qs H2 hl0 hl2 ?_ s2⟩;simpa using hq
theorem ZlK:FnScope ["p","n"] ["p","n"] (Zad Zd2):=⟨rfl,rfl,rfl,by decide +kernel,rfl,by decide +kernel,by decide +kernel⟩
theorem Zkz {f fA fB:Addr}{fd dA dB:FuncData} (F:Fun K "numbers_of" "numbers_of" Zd2 f fd) (T:Txt mg) (CA:Cal P w K mg base 1 "next_numbers" ["numbers"] ZcC fA dA) (CB:Cal P w K mg base 2 "numbers_after" ["p","n","following"] (ZfZ fA) fB dB):FnOk P w K mg base CX0 3 f fd ["p","n"] Zfc:=by
 refine F.ok ZlK (fun vs H Q E h=>?_) (fun cdv A outer s H vs Q E hr h=>?_)
 ·obtain⟨p,n,rfl,_⟩:=h;rfl
 ·obtain⟨p,n,rfl,h1,h2,h3,h4,k⟩:=h;refine⟨_,Zan (Zav (Zam CB hr rfl (Zaa (pv 0) (Zaa (pv 1) (Zaa (Zc2 CA rfl) Zac))))),?_⟩;exact⟨_,rfl,_,rfl,p,n,rfl,h1,h2,h3,h4,k⟩
theorem scLN:FnScope ["p","n"] ["p","n"] (Zad sLN):=⟨rfl,rfl,rfl,by decide +kernel,rfl,by decide +kernel,by decide +kernel⟩
theorem Zn0 {f fA fB:Addr}{fd dA dB:FuncData} (F:Fun K "level_numbers" "level_numbers" sLN f fd) (T:Txt mg) (CA:Cal P w K mg base 5 "check_places" ["p","n"] Zev fA dA) (CB:Cal P w K mg base 3 "numbers_of" ["p","n"] Zfc fB dB):FnOk P w K mg base CX0 6 f fd ["p","n"] Zfc:=by
 refine F.ok scLN (fun vs H Q E h=>?_) (fun cdv A outer s H vs Q E hr h=>?_)
 ·obtain⟨p,n,rfl,_⟩:=h;rfl
 ·obtain⟨p,n,rfl,h1,h2,h3,h4,k⟩:=h;have hr2:Room 3 _:=hr.mono (by decide);refine⟨_,Zai (ZaD (Zam CA hr rfl (Zaa (pv 0) (Zaa (pv 1) Zac)))) (Zan (Zav (Zam CB hr2 rfl (Zaa (pv 0) (Zaa (pv 1) Zac))))),?_⟩;refine⟨_,rfl,_,rfl,p,n,rfl,h1,h2,h3,h4,fun H1 s1=>?_⟩;exact⟨_,rfl,_,rfl,p,n,rfl,h1,h2,h3,h4,fun l qs H2 hl0 hl hq s2=>k l qs H2 (s1.free hl0) hl hq (s1.trans s2)⟩
end
end Fj99
namespace Fj99
open PySem L2 Lv
section
variable {P:Program}{w:World}{K:Yac}{mg:Str->Option Value}{base:Heap}
theorem scJoin:FnScope ["p","rows","log","times","at","number"] ["p","rows","log"] (Zad ZhA):=⟨rfl,rfl,rfl,by decide +kernel,rfl,by decide +kernel,by decide +kernel⟩
theorem Zl8 {f fA:Addr}{fd dA:FuncData} (F:Fun K "join_numbers" "join_numbers" ZhA f fd) (T:Txt mg) (Tr:mg "reversed"=none) (CA:Cal P w K mg base 2 "check_ways" ["p"] Zcf fA dA):FnOk P w K mg base CX0 3 f fd ["p","rows","log"] (Zif K):=by
 refine F.ok scJoin (fun vs H Q E h=>?_) (fun cdv A outer s H vs Q E hr h=>?_)
 ·obtain⟨p,r,lg,b,qs,L,rfl,_⟩:=h;rfl
 ·obtain⟨p,r,lg,b,qs,L,rfl,h1,h2,r1,r2,hS,hq,hwf,hL,k⟩:=h;refine⟨_,Zai (ZaD (Zam CA hr rfl (Zaa (pv 0) Zac)))
   (Zai (Zaq (i:=3) scJoin.nd rfl (YaI rfl) (Zat ZgQ (ZaM (Zaa Zae Zac)) (Zat ZaQ (pv 1) (Zak Zap rfl T.len Ya1 (Zaa (pv 2) Zac)))))
   (Zai (Zbd Ya5 rfl (ZlW rfl Tr rfl T.range (Zaa (Zak Zap rfl T.len Ya1 (Zaa (pv 2) Zac)) Zac)) (Zaj (i:=4) scJoin.nd rfl (YaI rfl))
    (Zan (Zbd Ya5 rfl (Zc1 (Zaz ix_B (pv 2) (pv 4) (fun _ _=>rfl))) (Zaj (i:=5) scJoin.nd rfl (YaI rfl))
     (Zan (Zeb (Zat ZaQ (Zaz ix_list (pv 3) (Zat ZaQ (pv 1) (pv 4)) (fun _ _=>rfl)) Zae) (ZgM (pv 3) (pv 5) Zck))))))
   (Zan (Zav (Za7 Zdo (pv 3) ZbD (Za3 (pv 1))))))),?_⟩
  have hql:=hq.1;have lenS:∀ {H':Hp},Same H H'->SqL K H' lg (qs.map V.ref)∨SqT K H' lg (qs.map V.ref):=fun s=>by
   have:=s.B hS
   cases b with
   | true=>exact .inl this
   | false=>exact .inr this
  refine⟨_,rfl,p,rfl,by (clear hql hL r2 r1 h2;omega),by (clear hql hL r2 r1 h1;omega),?_⟩;refine⟨(by show 1<=sizeLine;decide),fun q e1=>⟨_,rfl,_,rfl,lg,_,rfl,lenS (Same.new e1),_,_,rfl,rfl,?_⟩⟩;have er:((r:Int)+((qs.map V.ref).length:Int))=((r+L.length:Nat):Int):=by rw[Yaa,hql];simp
  dsimp only;rw[er];refine⟨q,_,_,rfl,rfl,Zab,by (clear er hql hL r2 r1 h2 h1;omega),by (clear er hql r1 h2 h1;omega),?_,fun t ht=>?_⟩
  ·exact Ybs (ZaF (by show 1*(((r+L.length:Nat):Int)).toNat<=1000;(clear er hql r1 h2 h1;omega)))
  have ez:(Yaj (((r+L.length:Nat):Int)).toNat [V.int 0]).flatten=(Yaj (r+L.length) (0:Int)).map V.int:=by
   rw[YaS,YcK,Yc9]
  rw[ez];have s1:Same H (upd (upd H q (.lst [V.int 0])) t (.lst ((Yaj (r+L.length) (0:Int)).map V.int))):=(Same.new e1).trans (Same.new ht);have ht0:H t=none:=(Same.new e1).free ht;have ht1:(upd (upd H q (.lst [V.int 0])) t (.lst ((Yaj (r+L.length) (0:Int)).map V.int))) t=some (.lst ((Yaj (r+L.length) (0:Int)).map V.int)):=Zab;generalize (upd (upd H q (.lst [V.int 0])) t (.lst ((Yaj (r+L.length) (0:Int)).map V.int)))=H1 at s1 ht1 ⊢;refine⟨_,rfl,lg,_,rfl,lenS s1,L.length,?_,by (clear er hql r2 r1 h2 h1;omega),ZkV (fun i σ H2=>∃ (ts:List Int) (o1 o2:Option V),σ=[some (.int p),some (.int r),some (.ref lg),some (.ref t),o1,o2]/\ts.length=r+L.length/\(∀ x:Nat,x<r+(L.length - i)->ts.getD x 0=(fol ((r:Int)+((L.length - i:Nat):Int)) (L.drop (L.length - i)) x:Nat))/\H2 t=some (.lst (ts.map V.int))/\Same H H2)
   ⟨_,none,none,rfl,by simp,fun x hx=>?_,ht1,s1⟩ ?_ ?_⟩
  ·rw[Yaa,hql]
  ·rw[Yai,YcC,Ydc,YfF];split <;> rfl
  ·rintro i σ H2 hi ⟨ts,o1,o2,rfl,hts,hin,ht2,s2⟩;have hat:L.length - 1 - i<L.length:=by (clear hts er hql hL r2 r1 h2 h1;omega)
   have eat:((L.length:Int) - 1 - (i:Int))=((L.length - 1 - i:Nat):Int):=by (clear hat hts er hql hL r2 r1 h2 h1;omega)
   have hi1:L.length - i=(L.length - 1 - i)+1:=by (clear eat hat hts er hql hL r2 r1 h2 h1;omega)
   have hi2:L.length - (i+1)=L.length - 1 - i:=by (clear hi1 eat hat hts hi er hql hL r2 r1 h2 h1;omega)
   rw[hi1] at hin;rw[hi2];dsimp only;rw[eat];generalize L.length - 1 - i=a at hat hin ⊢;have eT:=Yad hat;have hqa:a<qs.length:=by (clear hi2 hi1 eat hts hi er hL r2 r1 h2 h1;omega)
   have eq1:=Yad hqa;have hTa:=hq.2 a _ _ eq1 eT;have hw:=hwf a _ eT;refine⟨_,rfl,_,rfl,b,lg,_,_,.ref qs[a],rfl,rfl,s2.B hS,?_,_,rfl,⟨_,SqT.of (s2 _ _ hTa)⟩,?_⟩
   ·rw[ZdJ (j:=a)];rw[Yat,eq1];rfl
   refine Zgf (xs:=(L[a]).map V.int) (fun j σ H3=>∃ (us:List Int) (o2:Option V),σ=[some (.int p),some (.int r),some (.ref lg),some (.ref t),some (.int (a:Nat)),o2]/\us.length=r+L.length/\(∀ x:Nat,x<r+a+1->us.getD x 0=((if (x:Int)∈(L[a]).take j then 1+fol ((r:Int)+((a+1:Nat):Int)) (L.drop (a+1)) ((r+a:Nat):Int) else fol ((r:Int)+((a+1:Nat):Int)) (L.drop (a+1)) x:Nat):Int))/\H3 t=some (.lst (us.map V.int))/\Same H H3)
    ⟨ts,o2,rfl,hts,fun x hx=>?_,ht2,s2⟩ (fun j σ H3 _ ⟨_,_,_,_,_,_,s3⟩=>SqT.of (s3 _ _ hTa)) ?_ ?_
   ·rw[Yb5,if_neg (by simp)];exact hin x (by (clear hi2 hi1 eat hts hi er hql hL r2 r1 h2 h1;omega))
   ·rintro j x σ H3 hx ⟨us,o2',rfl,hus,hj,ht3,s3⟩;obtain⟨z,hz,rfl⟩:=ZaJ hx;obtain⟨hjl,ez'⟩:=Yab.mp hz;obtain⟨z0,z1⟩:=hw z (YaO hz);obtain⟨zn,rfl⟩:∃ n:Nat,z=(n:Int):=⟨z.toNat,by (clear z1 ez' hjl hus hi2 hi1 eat hts hi er hql hL r2 r1 h2 h1;omega)⟩
    have hzn:zn<r+a:=by (clear z0 ez' hjl hus hi2 hi1 eat hts hi er hql hL r2 r1 h2 h1;omega)
    have hra:=hj (r+a) (by (clear hzn z1 z0 ez' hjl hus hi2 hi1 eat hts hi er hql hL r2 r1 h2 h1;omega));have hnm:¬ (((r+a:Nat):Int))∈(L[a]).take j:=fun hm=>by
     have:=(hw _ (Ybk hm)).2
     (clear hra hzn z1 z0 ez' hjl hus hi2 hi1 eat hts hi er hql hL r2 r1 h2 h1;omega)
    rw[if_neg hnm] at hra;refine⟨_,rfl,_,rfl,_,rfl,_,_,rfl,rfl,t,_,_,.int (us.getD (r+a) 0),rfl,rfl,SqL.of ht3,?_,_,1,rfl,rfl,_,rfl,_,rfl,t,_,_,zn,rfl,rfl,ht3,?_,?_⟩
    ·rw[show ((r:Int)+(a:Int))=((r+a:Nat):Int) by simp,ZdK (by (clear hnm hra hzn z1 z0 ez' hjl hus hi2 hi1 eat hts hi er hql hL r2 r1 h2 h1;omega)) (by (clear hnm hra hzn z1 z0 ez' hjl hi2 hi1 eat hts hi er hql hL r2 r1 h2 h1;omega)),YaS]
    ·rw[Yaa,Zg3 (by (clear hnm hra hzn z1 z0 ez' hjl hus hi2 hi1 eat hts hi er hql hL r2 r1 h2 h1;omega)) (by (clear hnm hra hzn z0 ez' hjl hi2 hi1 eat hts hi er hql hL r2 r1 h2 h1;omega))];simp
    ·refine⟨us.set zn (us.getD (r+a) 0+1),some (.int zn),rfl,by simp[hus],fun x hx=>?_,by rw[Zab,<- List.map_set],s3.put ht0⟩;have et:(L[a]).take (j+1)=(L[a]).take j++[(zn:Int)]:=by rw[YaW hjl,ez']
     rw[et];by_cases hxz:zn=x
     ·subst hxz;rw[Yai,YcL (by (clear hx hnm hra hzn z0 ez' hjl hi2 hi1 eat hts hi er hql hL r2 r1 h2 h1;omega)),if_pos (by simp)];show us.getD (r+a) 0+1=_;rw[hra];simp
      (clear hx hnm hra hzn z1 z0 ez' hjl hus hi2 hi1 eat hts hi er hql hL r2 r1 h2 h1;omega)
     ·rw[Yai,YaZ hxz,<- Yai,hj x hx];have:((x:Int)∈(L[a]).take j++[(zn:Int)])↔((x:Int)∈(L[a]).take j):=by
       rw[Yam];constructor
       ·intro h;rcases h with h | h
        ·exact h
        ·have:(x:Int)=zn:=by simpa using h
         (clear hx hnm hra hzn z1 z0 ez' hjl hus hi2 hi1 eat hts hi er hql hL r2 r1 h2 h1;omega)
       ·exact .inl
      simp only[this]
   ·rintro σ H3 ⟨us,o2',rfl,hus,hj,ht3,s3⟩;rw[Yaa,YaN] at hj;refine⟨us,_,_,rfl,hus,fun x hx=>?_,ht3,s3⟩;rw[hj x (by (clear hus hi2 hi1 eat hts hi er hql hL r2 r1 h2 h1;omega)),ZkW hat];rw[show ((r:Int)+(a:Int))=((r+a:Nat):Int) by simp]
  ·rintro σ H2 ⟨ts,o1,o2,rfl,hts,hin,ht2,s2⟩;refine⟨_,rfl,_,rfl,r,rfl,t,_,rfl,SqL.of ht2,fun l hl=>?_⟩;refine k l _ (s2.free hl) ?_ (s2.trans (Same.new hl));rw[Zab];congr 2;have ec:cutV (ts.map V.int) none (some (r:Int))=(ts.take r).map V.int:=by
    unfold cutV;show ((ts.map V.int).drop 0).take (HT.sIx (ts.map V.int).length (ts.map V.int).length (some ((r:Nat):Int)) - 0)=_;rw[HT.sIx_nat,Ydc,YdE,Yaa,Yb0 (by (clear er hql hL r2 r1 h2 h1;omega)),YcA]
   rw[ec];congr 1;rw[YcT] at hin;apply YdW;intro x;by_cases hx:x<r
   ·rw[Zgn hx,Yb7 hx,Yad (by (clear er hql hL r2 r1 h2 h1;omega))];have:=hin x (by (clear hts er hql hL r2 r1 h2 h1;omega));rw[Yai,Yad (by (clear this er hql hL r2 r1 h2 h1;omega))] at this;rw[YdE] at this;refine congrArg some (Eq.trans this ?_);rw[show (r:Int)+((0:Nat):Int)=r by (clear this hx hts er hql hL r2 r1 h2 h1;omega)]
   ·rw[YcR (by rw[Yay];(clear hts er hql hL r2 r1 h2 h1;omega)),YcR (by rw[Zgm];(clear hts er hql hL r2 r1 h2 h1;omega))]
theorem scNextKN:FnScope ["numbers","read","reels","on_reel"] ["numbers"] (Zad ZcE):=⟨rfl,rfl,rfl,by decide +kernel,rfl,by decide +kernel,by decide +kernel⟩
theorem ZiI {f:Addr}{fd:FuncData} (F:Fun K "next_cascade_numbers" "next_cascade_numbers" ZcE f fd) (T:Txt mg):FnOk P w K mg base CX0 1 f fd ["numbers"] ZbN:=by
 refine F.ok scNextKN (fun vs H Q E h=>?_) (fun cdv A outer s H vs Q E hr h=>?_)
 ·obtain⟨a,rs,N,rfl,_⟩:=h;rfl
 ·obtain⟨a,rs,N,rfl,hA,hT,n2,n7,hs,k⟩:=h;refine⟨_,Zai (Zaq (i:=1) scNextKN.nd rfl (YaI rfl) (Zbi Zac))
   (Zai (Zaq (i:=2) scNextKN.nd rfl (YaI rfl) (ZaM Zac))
   (Zai (Zbd Ya5 rfl (Zc1 (Za7 Zgz (pv 0) ZbD (Za3 (Zf6 Zdh Zae)))) (Zaj (i:=3) scNextKN.nd rfl (YaI rfl))
    (Zai (Zaq (i:=1) scNextKN.nd rfl (YaI rfl) (Zat ZiE (pv 1) (ZaP Zax rfl T.tuple Zbl (Zaa (ZaG (own:=["number"]) (js:=[]) (CompOk.bare (by decide +kernel)) rfl (Zc1 (pv 3)) Zay
     (fun _ _ _ _ _=>Zaj (i:=0) (by show (["number"]:List Str).Nodup;decide +kernel) rfl (YaI rfl) (.inr rfl)) (fun _ _ _ _ _=>ZaC) (fun _ _ _ _ _=>Zat ZaQ (pv 0) Zae)) Zac))))
    (Zan (ZaD (ZeM Ybm YbA Ybz ZaZ (pv 2) (Zaa (pv 1) Zac))))))
   (Zan (Zav (ZaP Zax rfl T.tuple Zbl (Zaa (Zat Zc5 (ZaM (Zaa (Zat ZiE (pv 1) (Zaz Za4 (pv 0) (Zf6 Zdh Zae) (fun _ _=>rfl))) Zac)) (Zlk (pv 2) (Za3 (Zf6 Zdh Zae)))) Zac)))))),?_⟩
  obtain⟨rs',z,I,Z,rfl,rfl,hT',hz⟩:=Lv.TTs.cut hT (by (clear hs n7;omega));have hIl:I.length<=6:=by simp at n7;(clear hs n2;omega)
  have hrl:rs'.length=I.length:=hT'.1;refine⟨YaY _,fun t0 e0=>⟨YaY _,fun rl e1=>?_⟩⟩;have s1:=(Same.new (o:=.tup []) e0).trans (Same.new (o:=.lst []) e1);have hrlH:H rl=none:=(Same.new (o:=.tup []) e0).free e1;have ht0:(upd (upd H t0 (.tup [])) rl (.lst [])) t0=some (.tup []):=(Same.new e1) t0 _ Zab;have hrl1:(upd (upd H t0 (.tup [])) rl (.lst [])) rl=some (.lst []):=Zab;generalize (upd (upd H t0 (.tup [])) rl (.lst []))=H1 at s1 ht0 hrl1 ⊢;refine⟨_,rfl,1,rfl,-1,rfl,a,_,rfl,SqT.of (s1 a _ hA),?_,fun p1 e2=>⟨p1,rfl,⟨_,SqT.of Zab⟩,?_⟩⟩
  ·rintro⟨_,zz⟩;rw[show ((rs'++[z]).map V.ref).length=rs'.length+1 by simp,ZgC] at zz
   (clear hrl hIl hs n7 n2;omega)
  have ec:cutV ((rs'++[z]).map V.ref) none (some (-1))=rs'.map V.ref:=by
   rw[Yau];exact Zjx _ _
  rw[ec];have s2:=s1.trans (Same.new (o:=.tup (rs'.map V.ref)) e2);have hp1:(upd H1 p1 (.tup (rs'.map V.ref))) p1=some (.tup (rs'.map V.ref)):=Zab;have ht2:=(Same.new (o:=.tup (rs'.map V.ref)) e2) t0 _ ht0;have hrl2:=(Same.new (o:=.tup (rs'.map V.ref)) e2) rl _ hrl1;generalize (upd H1 p1 (.tup (rs'.map V.ref)))=H2 at s2 hp1 ht2 hrl2 ⊢;have hlow:∀ i,(finN (I.take i)).length<=4000:=fun i=>by
   have:=ZeT hs i;by_cases hi:i<=I.length
   ·rwa [Yd5 hi] at this
   ·have h2:=ZeT hs I.length;rw[Yd5 (Yak _),YaN] at h2;rw[Ya2 (by (clear h2 this hrl hIl hs n7 n2;omega))];exact h2
  refine Zgf (xs:=rs'.map V.ref) (fun i σ H3=>∃ (rd:Addr) (qs:List Addr) (o:Option V),σ=[some (.ref a),some (.ref rd),some (.ref rl),o]/\H3 rd=some (.tup ((finN (I.take i)).map V.int))/\H3 rl=some (.lst (qs.map V.ref))/\TTs H3 qs (goN [] (I.take i))/\H3 p1=some (.tup (rs'.map V.ref))/\Same H H3)
   ⟨t0,[],none,rfl,ht2,hrl2,⟨rfl,fun j r xs ha=>by simp at ha⟩,hp1,s2⟩ (fun i σ H3 _ ⟨_,_,_,_,_,_,_,h,_⟩=>SqT.of h) ?_ ?_
  ·rintro i x σ H3 hx ⟨rd,qs,o,rfl,hrd,hrl3,hq3,hp3,s3⟩;rw[Yat] at hx;obtain⟨q,hq,rfl⟩:=Option.map_eq_some_iff.mp hx;have hi:i<I.length:=by have:=(Yab.mp hq).1;(clear hIl hs n7 n2;omega)
   have hqI:=s3 q _ (hT'.2 i q _ hq (Yad hi));refine⟨_,rfl,_,rfl,q,rfl,⟨_,SqT.of hqI⟩,?_⟩;have hAl:I[i].length<=4000:=by
    have h1:=hlow (i+1);rw[YaW hi,ZbI,Yaf] at h1;simp[up1] at h1
    (clear hrl hIl hs n7 n2;omega)
   refine Zcw (xs:=I[i].map V.int) (fun acc j H4=>Same H3 H4/\H4 acc=some (.lst ((up1 (I[i].take j)).map V.int))) (fun acc h0=>⟨Same.new h0,Zab⟩) (fun acc j H4 h0 _ p=>p.1.tup (SqT.of hqI)) ?_ ?_
   ·rintro acc j y H4 h0 hy ⟨s4,hacc⟩;obtain⟨v,hv,rfl⟩:=ZaJ hy;have hj:=(Yab.mp hv).1
    refine⟨_,rfl,_,_,rfl,rfl,_,hacc,?_,by rw[Yaa];exact hj,s4.put h0,?_⟩
    ·rw[sizeLine_eq];simp[up1]
     (clear hj hrl hIl hs n7 n2;omega)
    ·rw[Zab,Ybj,hv];simp[up1]
   ·rintro acc H4 h0 ⟨s4,hacc⟩;rw[Yaa,YaN] at hacc;refine⟨acc,_,rfl,.inl ⟨SqL.of hacc,fun tu htu=>?_⟩⟩;have s5:=s4.trans (Same.new (o:=.tup ((up1 I[i]).map V.int)) htu);refine Zhg (s5 rd _ hrd) Zab ?_ fun r H6 hr6 s6=>?_
    ·have:=hlow i;rw[sizeLine_eq];simp[up1]
     (clear hrl hIl hs n7 n2;omega)
    have s36:=s5.trans s6;have hrl6:=s36 rl _ hrl3;refine⟨_,rfl,.inl ⟨rfl,_,SqL.of hrl6⟩,_,rfl,rl,_,_,rfl,rfl,hrl6,?_,?_⟩
    ·have:=hq3.1;rw[ZdB,Yay] at this;exact ZaF (by rw[Yaa];(clear hAl hrl hs n7 n2;omega))
    have hrne:r≠rl:=by intro zz;subst zz;rw[hrl6] at hr6;cases hr6
    have hr7:(upd H6 rl (.lst (qs.map V.ref++[.ref r]))) r=some (.tup ((finN (I.take (i+1))).map V.int)):=by
     rw[Zag hrne,hr6,YaW hi,ZbI]
    refine⟨r,qs++[r],_,rfl,hr7,by rw[Zab];simp,?_,?_,(s3.trans s36).put hrlH⟩
    ·have ht:=(hq3.same s36).lst (ys:=qs.map V.ref++[.ref r]) hrl6;rw[YaW hi,Zha,Yb6];refine ht.snoc ?_;rw[hr7,YaW hi,ZbI]
    ·rw[Zag (by intro zz;subst zz;rw[hrl3] at hp3;cases hp3)];exact s36 p1 _ hp3
  ·rintro σ H3 ⟨rd,qs,o,rfl,hrd,hrl3,hq3,hp3,s3⟩;rw[Yaa,hrl,YaN] at hrd hq3;have hz3:=s3 z _ hz;have htot:=ZeT hs (I.length+1);have hZ:(finN I).length+Z.length<=4000:=by
    rw[Ya2 (by simp),ZbI,Yaf] at htot;simpa[up1] using htot
   refine⟨_,rfl,_,rfl,1,rfl,a,_,-1,.ref z,rfl,rfl,SqT.of (s3 a _ hA),?_,?_⟩
   ·rw[Yau];exact Zk5 _ _
   refine Zhg hrd hz3 (by rw[sizeLine_eq];(clear htot hrl hIl hs n7 n2;omega)) fun r H4 hr4 s4=>?_;refine⟨(by show 1<=sizeLine;decide),fun p2 e3=>?_⟩;have s5:=s4.trans (Same.new (o:=.lst [.ref r]) e3);refine⟨_,rfl,1,rfl,-1,rfl,rfl,rl,_,rfl,SqL.of (s5 rl _ hrl3),fun p3 e4=>?_⟩;have s6:=s5.trans (Same.new (o:=.lst (qs.map V.ref).reverse) e4);refine⟨p2,p3,_,_,rfl,rfl,(Same.new e4) p2 _ Zab,Zab,?_,fun p4 e5=>⟨p4,_,rfl,.inl ⟨SqL.of Zab,fun l hl=>?_⟩⟩⟩
   ·have:=hq3.1;rw[ZdB] at this;exact Ybs (ZaF (by simp;(clear hZ htot hrl hs n7 n2;omega)))
   have s7:=(s6.trans (Same.new (o:=.lst ([.ref r]++(qs.map V.ref).reverse)) e5)).trans (Same.new (o:=.tup ([.ref r]++(qs.map V.ref).reverse)) hl);refine k l (r::qs.reverse) _ ((s3.trans (s6.trans (Same.new (o:=.lst ([.ref r]++(qs.map V.ref).reverse)) e5))).free hl) (by rw[Zab];simp) ?_ (s3.trans s7);rw[Zdw];have sr:Same H4 (upd (upd (upd (upd H4 p2 (.lst [.ref r])) p3 (.lst (qs.map V.ref).reverse)) p4 (.lst ([.ref r]++(qs.map V.ref).reverse))) l (.tup ([.ref r]++(qs.map V.ref).reverse))):=(((Same.new e3).trans (Same.new e4)).trans (Same.new e5)).trans (Same.new hl);exact Lv.TTs.cons (sr r _ hr4) ((Lv.TTs.rev hq3).same s7)
theorem scAfterK:FnScope ["p","n","following","numbers","level"] ["p","n","following"] (Zad ZcZ):=⟨rfl,rfl,rfl,by decide +kernel,rfl,by decide +kernel,by decide +kernel⟩
theorem ZiO {f fA fB:Addr}{fd dA dB:FuncData} (F:Fun K "numbers_after" "numbers_after" ZcZ f fd) (T:Txt mg) (CB:Cal P w K mg base 1 "first_numbers" ["p"] ZbO fB dB) (CA:Cal P w K mg base 1 "next_cascade_numbers" ["numbers"] ZbN fA dA):FnOk P w K mg base CX0 2 f fd ["p","n","following"] (ZeB fA):=by
 refine F.ok scAfterK (fun vs H Q E h=>?_) (fun cdv A outer s H vs Q E hr h=>?_)
 ·obtain⟨p,n,rfl,_⟩:=h;rfl
 ·obtain⟨p,n,rfl,h1,h2,h3,h4,k⟩:=h;refine⟨_,Zai (Zaq (i:=3) scAfterK.nd rfl (YaI rfl) (Zam CB hr rfl (Zaa (pv 0) Zac)))
   (Zai (Zbd Ya5 rfl (ZaR rfl T.range (Zaa (pv 1) Zac)) (Zaj (i:=4) scAfterK.nd rfl (YaI rfl)) (Zan (Zaq (i:=3) scAfterK.nd rfl (YaI rfl) (ZeL 2 CA hr (Zaa (pv 3) Zac)))))
   (Zan (Zav (pv 3)))),?_⟩
  refine⟨_,rfl,p,rfl,h1,h2,fun l qs H1 hl0 hl1 hq1 s1=>?_⟩;refine⟨_,rfl,n,rfl,by (clear h4 h3 h2 h1;omega),by (clear h4 h2 h1;omega),Zbo (fun i σ H2=>∃ (l:Addr) (qs:List Addr) (o:Option V),σ=[some (.int p),some (.int n),some (.ref fA),some (.ref l),o]/\H l=none/\H2 l=some (.tup (qs.map V.ref))/\TTs H2 qs (casN p i)/\Same H H2)
   ⟨l,qs,none,rfl,hl0,hl1,hq1,s1⟩ ?_ ?_⟩
  ·rintro i σ H2 hi ⟨l,qs,o,rfl,hl0,hl2,hq,s2⟩;have hlen:=Zbw (p:=p) (by (clear hi h4 h3 h2;omega)) i;have hm:=ZfB (p:=p) (show i<=n by (clear hlen h4 h3 h2 h1;omega));refine⟨rfl,_,rfl,l,qs,casN p i,rfl,hl2,hq,by (clear hm hi h4 h3 h2;omega),by (clear hm hi h4 h3 h1;omega),?_,fun l3 qs3 H3 h30 h3 hq3 s3=>?_⟩
   ·rw[Za9 (by (clear hm hlen hi h4 h3 h2;omega))]
    (clear hlen hi h3 h2 h1;omega)
   ·exact⟨l3,qs3,_,rfl,s2.free h30,h3,hq3,s2.trans s3⟩
  ·rintro σ H2 ⟨l,qs,o,rfl,hl0,hl2,hq,s2⟩;refine⟨_,rfl,k l qs H2 hl0 hl2 ?_ s2⟩;simpa using hq
theorem ZmV:FnScope ["p","n"] ["p","n"] (Zad ZhD):=⟨rfl,rfl,rfl,by decide +kernel,rfl,by decide +kernel,by decide +kernel⟩
theorem Zmb {f fA fB fC fD:Addr}{fd dA dB dC dD:FuncData} (F:Fun K "cascade_numbers" "cascade_numbers" ZhD f fd) (T:Txt mg) (CT:Cal P w K mg base 1 "check_total" ["total"] Zj0 fA dA) (CC:Cal P w K mg base 4 "cascade_counts" ["p","n"] Zfd fB dB) (CA:Cal P w K mg base 2 "numbers_after" ["p","n","following"] (ZeB fC) fD dD) (CN:Cal P w K mg base 1 "next_cascade_numbers" ["numbers"] ZbN fC dC):FnOk P w K mg base CX0 5 f fd ["p","n"] Zfe:=by
 refine F.ok ZmV (fun vs H Q E h=>?_) (fun cdv A outer s H vs Q E hr h=>?_)
 ·obtain⟨p,n,rfl,_⟩:=h;rfl
 ·obtain⟨p,n,rfl,h1,h2,h3,h4,k⟩:=h;have hr1:Room 1 _:=hr.mono (by decide);have hr2:Room 2 _:=hr.mono (by decide);refine⟨_,Zai (ZaD (Zam CT hr1 rfl (Zaa (Zak (Zcy rfl) rfl T.sum Ze1 (Zaa (Zam CC hr rfl (Zaa (pv 0) (Zaa (pv 1) Zac))) Zac)) Zac)))
   (Zan (Zav (Zam CA hr2 rfl (Zaa (pv 0) (Zaa (pv 1) (Zaa (Zc2 CN rfl) Zac)))))),?_⟩
  refine⟨_,rfl,_,rfl,p,n,rfl,h1,h2,h3,fun l H1 hl0 hl1 s1=>⟨l,_,rfl,SqT.of hl1,_,rfl,h4,?_⟩⟩;exact⟨_,rfl,_,rfl,p,n,rfl,h1,h2,h3,h4,fun l qs H2 hl0 hl hq s2=>k l qs H2 (s1.free hl0) hl hq (s1.trans s2)⟩
end
end Fj99
namespace Fj99
open PySem L2 Lv
section
variable {P:Program}{w:World}{K:Yac}{mg:Str->Option Value}{base:Heap}
theorem scNextK:FnScope ["counts","sums","count"] ["counts"] (Zad Zd3):=⟨rfl,rfl,rfl,by decide +kernel,rfl,by decide +kernel,by decide +kernel⟩
theorem ZkB {f:Addr}{fd:FuncData} (F:Fun K "next_cascade_counts" "next_cascade_counts" Zd3 f fd) (T:Txt mg):FnOk P w K mg base CX0 1 f fd ["counts"] (ZfY K):=by
 refine F.ok scNextK (fun vs H Q E h=>?_) (fun cdv A outer s H vs Q E hr h=>?_)
 ·obtain⟨a,c,rfl,_⟩:=h;rfl
 ·obtain⟨a,c,rfl,hA,h7,k⟩:=h;refine⟨_,Zai (Zaq (i:=1) scNextK.nd rfl (YaI rfl) (ZaM Zac))
   (Zai (Zbd Ya5 rfl (Zc1 (pv 0)) (Zaj (i:=2) scNextK.nd rfl (YaI rfl))
    (Zan (ZaD (ZeM Ybm YbA Ybz ZaZ (pv 1) (Zaa (ZeK (Zke (pv 1) (fun _=>rfl)) (Zat ZaQ (pv 2) (Zaz ix_list (pv 1) (Zf6 Zdh Zae) (fun _ _=>rfl))) (pv 2)) Zac)))))
   (Zan (Zav (ZaP Zax rfl T.tuple Zbl (Zaa (Zlk (pv 1) (Za3 (Zf6 Zdh Zae))) Zac))))),?_⟩
  refine⟨YaY _,fun l e1=>?_⟩;refine⟨_,rfl,a,rfl,⟨_,(Same.new e1).tup hA⟩,Zgf (xs:=c.map V.int) (fun i σ H2=>∃ o:Option V,σ=[some (.ref a),some (.ref l),o]/\H2 l=some (.lst ((pre 0 (c.take i)).map V.int))/\Same H H2)
   ⟨none,rfl,by rw[Zab];rfl,Same.new e1⟩ (fun i σ H2 _ ⟨o,_,_,s2⟩=>s2.tup hA) ?_ ?_⟩
  ·rintro i x σ H2 hx ⟨o,rfl,hl,s2⟩;obtain⟨z,hz,rfl⟩:=ZaJ hx;obtain⟨hi,rfl⟩:=Yab.mp hz;refine⟨_,rfl,.inl ⟨rfl,_,SqL.of hl⟩,?_⟩;have hlen:(pre 0 (c.take i)).length=i:=by rw[Zf5,Yay];(clear h7;omega)
   refine⟨_,rfl,_,.inl ⟨_,SqL.of hl,rfl⟩,?_⟩;have fin:∀ v:Int,v=(c.take i).sum+c[i]->∃ l' xs v',V.ref l=.ref l'/\[V.int v]=[v']/\H2 l'=some (.lst xs)/\xs.length<sizeLine/\(fun _ H'=>∃ o:Option V,[some (V.ref a),some (.ref l),some (.int c[i])]=[some (.ref a),some (.ref l),o]/\H' l=some (.lst ((pre 0 (c.take (i+1))).map V.int))/\Same H H') V.non (upd H2 l' (.lst (xs++[v']))):=by
    rintro v rfl;refine⟨l,_,_,rfl,rfl,hl,ZaF (by simp[hlen];(clear hlen;omega)),_,rfl,?_,s2.put e1⟩;rw[Zab,Zkg hi,Yau];rfl
   cases i with
   | zero=>
    refine iteF ⟨_,rfl,?_⟩;exact fin _ (by simp)
   | succ j=>
    have hne:c.take (j+1)≠[]:=by intro z;rw[z] at hlen;simp[pre] at hlen
    have hem:(!((pre 0 (c.take (j+1))).map V.int).isEmpty)=true:=by
     cases e:(pre 0 (c.take (j+1))) with
     | nil=>rw[e] at hlen;simp at hlen
     | cons x y=>rfl
    rw[hem];refine iteT ⟨_,rfl,_,rfl,1,rfl,l,_,-1,.int (c.take (j+1)).sum,rfl,rfl,SqL.of hl,?_,_,_,rfl,rfl,?_⟩
    ·unfold atI ixN;rw[Yaa,hlen,if_neg (by decide),if_pos (by (clear hlen h7;omega))];show ((pre 0 (c.take (j+1))).map V.int)[(-1+((j+1:Nat):Int)).toNat]?=_;have:=Zkh (s:=0) hne;rw[hlen] at this;rw[Yat,show (-1+((j+1:Nat):Int)).toNat=j+1 - 1 by (clear hlen h7;omega),this];simp
    ·exact fin _ (by (clear hlen h7;omega))
  ·rintro σ H2 ⟨o,rfl,hl,s2⟩;rw[Yaa,YaN] at hl;refine⟨_,rfl,1,rfl,_,rfl,rfl,l,_,rfl,SqL.of hl,fun q hq=>⟨q,_,rfl,.inl ⟨SqL.of Zab,fun t ht=>?_⟩⟩⟩;have s3:=s2.trans (Same.new (o:=.lst (((pre 0 c).map V.int).reverse)) hq);refine k t _ (s3.free ht) ?_ (s3.trans (Same.new ht));rw[Zab,Za8,YfC]
end
end Fj99
namespace Fj99
open PySem L2 Lv
section
variable {P:Program}{w:World}{K:Yac}{mg:Str->Option Value}{base:Heap}
theorem ZnP:FnScope ["p","n"] ["p","n"] (Zad sChk):=⟨rfl,rfl,rfl,by decide +kernel,rfl,by decide +kernel,by decide +kernel⟩
theorem Znb {f fA fB:Addr}{fd dA dB:FuncData}{tM:Tok} (F:Fun K "check_cascade" "check_cascade" sChk f fd) (T:Txt mg) (hM:mg "LAST_CASCADE"=some (.int 100 tM)) (CA:Cal P w K mg base 2 "check_ways" ["p"] Zcf fA dA) (CB:Cal P w K mg base 2 "check_level" ["n","last"] Zcg fB dB):FnOk P w K mg base CX0 3 f fd ["p","n"] ZlE:=by
 refine F.ok ZnP (fun vs H Q E h=>?_) (fun cdv A outer s H vs Q E hr h=>?_)
 ·obtain⟨p,n,rfl,_⟩:=h;rfl
 ·obtain⟨p,n,rfl,h1,h2,h3,h4,k⟩:=h;refine⟨_,Zai (ZaD (Zam CA hr rfl (Zaa (pv 0) Zac))) (Zan (ZaD (Zam CB hr rfl (Zaa (pv 1) (Zaa (ZcM rfl hM) Zac))))),?_⟩;exact⟨_,rfl,p,rfl,h1,h2,_,rfl,n,100,rfl,h3,h4,k⟩
theorem scCasc:FnScope ["p","n","counts","level"] ["p","n"] (Zad ZhC):=⟨rfl,rfl,rfl,by decide +kernel,rfl,by decide +kernel,by decide +kernel⟩
theorem Zmc {f fA fC fD:Addr}{fd dA dC dD:FuncData} (F:Fun K "cascade_counts" "cascade_counts" ZhC f fd) (T:Txt mg) (CA:Cal P w K mg base 3 "check_cascade" ["p","n"] ZlE fA dA) (CC:Cal P w K mg base 1 "first_counts" ["p"] Zey fC dC) (CD:Cal P w K mg base 1 "next_cascade_counts" ["counts"] (ZfY K) fD dD) :
  FnOk P w K mg base CX0 4 f fd ["p","n"] Zfd:=by
 refine F.ok scCasc (fun vs H Q E h=>?_) (fun cdv A outer s H vs Q E hr h=>?_)
 ·obtain⟨p,n,rfl,_⟩:=h;rfl
 ·obtain⟨p,n,rfl,h1,h2,h3,k⟩:=h;have hr1:Room 1 _:=hr.mono (by decide);refine⟨_,Zai (ZaD (Zam CA hr rfl (Zaa (pv 0) (Zaa (pv 1) Zac))))
   (Zai (Zaq (i:=2) scCasc.nd rfl (YaI rfl) (Zam CC hr1 rfl (Zaa (pv 0) Zac)))
   (Zai (Zbd Ya5 rfl (ZaR rfl T.range (Zaa (pv 1) Zac)) (Zaj (i:=3) scCasc.nd rfl (YaI rfl))
    (Zan (Zaq (i:=2) scCasc.nd rfl (YaI rfl) (Zam CD hr1 rfl (Zaa (pv 2) Zac)))))
   (Zan (Zav (pv 2))))),?_⟩
  refine⟨_,rfl,_,rfl,p,n,rfl,by (clear h3 h2;omega),by (clear h3 h1;omega),by (clear h3 h2 h1;omega),by (clear h2 h1;omega),?_⟩;refine⟨_,rfl,p,rfl,h1,h2,fun l H1 hl0 hl1 s1=>?_⟩;refine⟨_,rfl,n,rfl,by (clear h3 h2 h1;omega),by (clear h2 h1;omega),Zbo (fun i σ H2=>∃ (l:Addr) (o:Option V),σ=[some (.int p),some (.int n),some (.ref l),o]/\H l=none/\H2 l=some (.tup ((casc p i).map V.int))/\Same H H2)
   ⟨l,none,rfl,hl0,hl1,s1⟩ ?_ ?_⟩
  ·rintro i σ H2 hi ⟨l,o,rfl,hl0,hl2,s2⟩;have hlen:=Zdf (p:=p) (by (clear hi h3 h2;omega)) i;refine⟨_,rfl,l,casc p i,rfl,SqT.of hl2,by (clear hi h3 h1;omega),fun l3 H3 h30 h3 s3=>?_⟩;exact⟨l3,_,rfl,s2.free h30,h3,s2.trans s3⟩
  ·rintro σ H2 ⟨l,o,rfl,hl0,hl2,s2⟩;refine⟨_,rfl,k l H2 hl0 ?_ s2⟩;simpa using hl2
theorem scPot:FnScope ["script","k","cell"] ["script","k"] (Zad sPot):=⟨rfl,rfl,rfl,by decide +kernel,rfl,by decide +kernel,by decide +kernel⟩
theorem Zna {f:Addr}{fd:FuncData} (F:Fun K "_law_pot" "_law_pot" sPot f fd) (T:Txt mg):FnOk P w K mg base CX0 1 f fd ["script","k"] (Zib K):=by
 refine F.ok scPot (fun vs H Q E h=>?_) (fun cdv A outer s H vs Q E hr h=>?_)
 ·obtain⟨a,ns,i,rfl,_⟩:=h;rfl
 ·obtain⟨a,ns,i,rfl,hS,i0,i1,k⟩:=h;refine⟨_,Zai (Zaq (i:=2) scPot.nd rfl (YaI rfl) Zae)
   (Zai (Zfj (ZaL Zkr (pv 1) (Zak Zap rfl T.len Ya1 (Zaa (pv 0) Zac)) (ZaN _)) (Zan (Zaq (i:=2) scPot.nd rfl (YaI rfl) (Zaz ix_list (pv 0) (pv 1) (fun _ _=>rfl)))) ZbC)
   (Zan (Zav (ZaM (Zaa (Zak (ZfD rfl) rfl T.max Znw (Zaa Zae (Zaa (Zat Zc3 (pv 2) (Zat ZiC Zae Zae)) Zac))) (Zaa (Zat Zdu (pv 2) Zae) (Zaa (pv 1) Zac))))))),?_⟩
  refine cut2 (fun σ' H'=>∃ c:Int,σ'=[some (.ref a),some (.int i),some (.int c)]/\H'=H) (fun R2 hR2=>?_) ?_
  ·refine⟨_,rfl,_,rfl,a,_,rfl,.inl hS,_,_,rfl,rfl,_,rfl,?_⟩;refine ite2 (fun hc=>?_) (fun hc=>hR2 _ _ ⟨_,rfl,rfl⟩);have hc':i<(ns.length:Int):=by have:=of_decide_eq_true hc;rwa [Yaa] at this
   exact⟨_,rfl,_,rfl,a,_,i,_,rfl,rfl,hS,ZdK i0 hc',hR2 _ _ ⟨_,rfl,rfl⟩⟩
  ·rintro σ' H' ⟨c,rfl,rfl⟩;refine⟨_,rfl,10,18,rfl,rfl,⟨by decide,by decide,by decide⟩,_,_,rfl,rfl,_,_,rfl,?_⟩;refine⟨_,rfl,_,_,rfl,rfl,(by show (0:Int)<1000000000000000003;decide),_,rfl,(by show 3<=sizeLine;decide),fun l hl=>?_⟩;exact k l _ hl ⟨_,_,_,Zab⟩ (Same.new hl)
theorem scNx:FnScope ["pot","many","digit","prime","mixed"] ["pot","many"] (Zad sNx):=⟨rfl,rfl,rfl,by decide +kernel,rfl,by decide +kernel,by decide +kernel⟩
theorem ix7 {d:Int} (h0:0<=d) (h1:d<7):∃ v:Int,atI [V.int 2147483647,.int 2147483629,.int 2147483587,.int 2147483579,.int 2147483563,.int 2147483549,.int 2147483543] d=some (.int v)/\0<v/\v<=2147483647:=by
 have:d=0∨d=1∨d=2∨d=3∨d=4∨d=5∨d=6:=by omega
 rcases this with rfl | rfl | rfl | rfl | rfl | rfl | rfl
 all_goals exact⟨_,rfl,by decide,by decide⟩
theorem ZnY {f:Addr}{fd:FuncData} (F:Fun K "_law_next" "_law_next" sNx f fd) (T:Txt mg):FnOk P w K mg base CX0 1 f fd ["pot","many"] Zdl:=by
 refine F.ok scNx (fun vs H Q E h=>?_) (fun cdv A outer s H vs Q E hr h=>?_)
 ·obtain⟨p,m,rfl,_⟩:=h;rfl
 ·obtain⟨p,m,rfl,⟨a,b,c,hp⟩,h0,h1,k⟩:=h;refine⟨_,Zai (Zfj (ZaL ZhI (Zaz ix_list (pv 0) Zae (fun _ _=>rfl)) Zae (ZaN _))
    (Zai (Zaq (i:=2) scNx.nd rfl (YaI rfl) (Zat Zdu (Zaz ix_list (pv 0) Zae (fun _ _=>rfl)) (pv 1)))
    (Zai (Zeb (Zat Zkt (Zaz ix_list (pv 0) Zae (fun _ _=>rfl)) (pv 1)) (ZgM (pv 0) Zae Zck))
    (Zan (Zav (pv 2))))) ZbC)
   (Zai (Zeb (Zat ZaQ (Zaz ix_list (pv 0) Zae (fun _ _=>rfl)) Zae) (ZgM (pv 0) Zae Zck))
   (Zai (Zaq (i:=3) scNx.nd rfl (YaI rfl) (Zaz ix_list (ZaM (Zaa Zae (Zaa Zae (Zaa Zae (Zaa Zae (Zaa Zae (Zaa Zae (Zaa Zae Zac)))))))) (Zat Zdu (Zaz ix_list (pv 0) Zae (fun _ _=>rfl)) Zae) (fun _ _=>rfl)))
   (Zai (Zaq (i:=4) scNx.nd rfl (YaI rfl) (Zat Zdu (Zat ZaQ (Zat ZaQ (Zat Zc4 (Zaz ix_list (pv 0) Zae (fun _ _=>rfl)) Zae) (Zat Zc4 Zae (Zaz ix_list (pv 0) Zae (fun _ _=>rfl)))) Zae) (pv 3)))
   (Zan (Zav (Zat Zdu (Zat Zl2 (Zat Zdu (Zat ZiC (pv 4) Zae) Zae) Zae) (pv 1))))))),?_⟩
  refine⟨_,rfl,p,_,0,.int a,rfl,rfl,SqL.of hp,rfl,_,_,rfl,rfl,_,rfl,?_⟩;refine ite2 (fun _=>?_) (fun _=>?_)
  ·refine⟨_,rfl,p,_,0,.int a,rfl,rfl,SqL.of hp,rfl,_,rfl,a,m,rfl,rfl,h0,?_⟩;refine⟨_,rfl,p,_,0,.int a,rfl,rfl,SqL.of hp,rfl,_,rfl,a,m,rfl,rfl,⟨h0,h1⟩,_,rfl,p,_,0,0,rfl,rfl,hp,rfl,_,rfl,?_⟩;exact k _ _ (YcI _ (by (clear h1;omega))) (YcJ _ h0) ⟨_,_,_,Zab⟩ Sm.put
  ·refine⟨_,rfl,p,_,2,.int c,rfl,rfl,SqL.of hp,rfl,c,1,rfl,rfl,_,rfl,p,_,2,2,rfl,rfl,hp,rfl,?_⟩;refine⟨(by show 7<=sizeLine;decide),fun q hq=>?_⟩;have hp1:(upd (upd H p (.lst ([V.int a,.int b,.int c].set 2 (.int (c+1))))) q (.lst [V.int 2147483647,.int 2147483629,.int 2147483587,.int 2147483579,.int 2147483563,.int 2147483549,.int 2147483543])) p=some (.lst [.int a,.int b,.int (c+1)]):=by
    rw[Zag (Zaf Zab hq),Zab];rfl
   have sm:Sm p H (upd (upd H p (.lst ([V.int a,.int b,.int c].set 2 (.int (c+1))))) q (.lst [V.int 2147483647,.int 2147483629,.int 2147483587,.int 2147483579,.int 2147483563,.int 2147483549,.int 2147483543])):=Sm.put.trans (Sm.new hq);have hq1:(upd (upd H p (.lst ([V.int a,.int b,.int c].set 2 (.int (c+1))))) q (.lst [V.int 2147483647,.int 2147483629,.int 2147483587,.int 2147483579,.int 2147483563,.int 2147483549,.int 2147483543])) q=some (.lst [V.int 2147483647,.int 2147483629,.int 2147483587,.int 2147483579,.int 2147483563,.int 2147483549,.int 2147483543]):=Zab;generalize (upd (upd H p (.lst ([V.int a,.int b,.int c].set 2 (.int (c+1))))) q (.lst [V.int 2147483647,.int 2147483629,.int 2147483587,.int 2147483579,.int 2147483563,.int 2147483549,.int 2147483543]))=H1 at hp1 sm hq1 ⊢;refine⟨_,rfl,p,_,2,.int (c+1),rfl,rfl,SqL.of hp1,rfl,_,_,rfl,rfl,(by show (0:Int)<7;decide),?_⟩;obtain⟨v,ev,v0,v1⟩:=ix7 (YcI (c+1) (show (7:Int)≠0 by decide)) (YcJ (c+1) (show (0:Int)<7 by decide));refine⟨q,_,_,_,rfl,rfl,SqL.of hq1,ev,?_⟩;refine⟨_,rfl,p,_,1,.int b,rfl,rfl,SqL.of hp1,rfl,b,69621,rfl,rfl,.inr ⟨by decide,by decide⟩,?_⟩;refine⟨_,rfl,p,_,2,.int (c+1),rfl,rfl,SqL.of hp1,rfl,7919,_,rfl,rfl,.inl ⟨by decide,by decide⟩,_,_,rfl,rfl,_,_,rfl,rfl,_,rfl,_,v,rfl,rfl,v0,?_⟩;have m0:=YcI (b*69621+7919*(c+1)+12345) (show v≠0 by (clear v1 h1 h0;omega));have m1:=YcJ (b*69621+7919*(c+1)+12345) v0;refine⟨_,rfl,_,5,rfl,rfl,⟨by decide,by decide,?_⟩,_,_,rfl,rfl,(by show (0:Int)<2305843009213693951;decide),_,_,rfl,rfl,⟨by decide,by decide⟩,_,rfl,_,m,rfl,rfl,h0,?_⟩
   ·generalize (b*69621+7919*(c+1)+12345) % v=y at m0 m1
    (clear v0 h1 h0;omega)
   ·exact k _ _ (YcI _ (by (clear m1 m0 v1 v0 h1;omega))) (YcJ _ h0) ⟨_,_,_,hp1⟩ sm
end
end Fj99
namespace Fj99
open PySem L2 Lv
section
variable {P:Program}{w:World}{K:Yac}{mg:Str->Option Value}{base:Heap}
theorem scLaw99:FnScope ["script","k","pot","p","n","many","far","lengths","readings","way"] ["script"] (Zad sLaw):=⟨rfl,rfl,rfl,by decide +kernel,rfl,by decide +kernel,by decide +kernel⟩
theorem Zh3 {n:Nat} (h:n<=10):tot 2 n<=4000:=by
 have:=Zda (p:=2) (by decide) h;have:tot 2 10<=4000:=by decide +kernel
 (clear h;omega)
theorem ZkD {f f1 f2 f3 f4 f5 f6 f7 f8 f9:Addr}{fd d1 d2 d3 d4 d5 d6 d7 d8 d9:FuncData} (F:Fun K "law" "law" sLaw f fd) (T:Txt mg) (CP:Cal P w K mg base 1 "_law_pot" ["script","k"] (Zib K) f1 d1) (CX:Cal P w K mg base 1 "_law_next" ["pot","many"] Zdl f2 d2) (CC:Cal P w K mg base 4 "cascade_counts" ["p","n"] Zfd f3 d3) (CL:Cal P w K mg base 3 "level_counts" ["p","n"] Zch f4 d4) (CCN:Cal P w K mg base 5 "cascade_numbers" ["p","n"] Zfe f5 d5) (CLN:Cal P w K mg base 6 "level_numbers" ["p","n"] Zfc f6 d6) (CR:Cal P w K mg base 5 "_law_readings" ["p","lengths"] (Zeu K) f7 d7) (CG:Cal P w K mg base 6 "_law_great_right" ["pot","p","lengths","readings"] (Zig K) f8 d8) (CY:Cal P w K mg base 8 "_law_laying_right" ["pot","p","way","lengths","readings"] (Zie K) f9 d9):FnOk P w K mg base CX0 9 f fd ["script"] (Zj1 K):=by
 refine okW F scLaw99 (fun vs H Q E h=>?_) (fun cdv A outer s H vs Q E hr h=>?_)
 ·obtain⟨a,cs,rfl,_⟩:=h;rfl
 ·obtain⟨a,cs,rfl,hS,hlen,k⟩:=h;have hr8:Room 8 _:=hr;have hr1:Room 1 _:=hr.mono (by decide);have hr3:Room 3 _:=hr.mono (by decide);have hr4:Room 4 _:=hr.mono (by decide);have hr5:Room 5 _:=hr.mono (by decide);have hr6:Room 6 _:=hr.mono (by decide);have hu0:(A.deeper (Ydk "law" (Zad sLaw) s.heap.objs.size f cdv)).units<cLine:=by have:=hr.un;(clear hlen;omega)
  have hu1:(A.deeper (Ydk "law" (Zad sLaw) s.heap.objs.size f cdv)).units+1<cLine:=by have:=hr.un;(clear hu0 hlen;omega)
  refine⟨_,(Zah (ws (Zbd Ya5 rfl (ZaR rfl T.range (Zaa (Zak (ZfD rfl) rfl T.max Znw (Zaa Zae (Zaa (Zak (ZfC rfl) rfl T.min Znv (Zaa Zae (Zaa (Zak Zap rfl T.len Ya1 (Zaa (pv 0) Zac)) Zac))) Zac))) Zac)) (Zaj (i:=1) scLaw99.nd rfl (YaI rfl))
   (WSs.out (Zah (ws (Zaq (i:=2) scLaw99.nd rfl (Yde rfl) (Zam CP hr1 rfl (Zaa (pv 0) (Zaa (pv 1) Zac)))))
    (Zah (ws (Zaq (i:=3) scLaw99.nd rfl (YaI rfl) (Zat ZaQ Zae (Zam CX hr1 rfl (Zaa (pv 2) (Zaa Zae Zac))))))
    (Zah (ws (Zaq (i:=4) scLaw99.nd rfl (YaI rfl) (Zam CX hr1 rfl (Zaa (pv 2) (Zaa Zae Zac)))))
    (Zah (Zeo (PW.pt (Zkd (ZaL (Zm6 hu0) (Zam CC hr4 rfl (Zaa Zae (Zaa (pv 4) Zac))) (Zam CL hr3 rfl (Zaa Zae (Zaa (pv 4) Zac))) (ZaN _)) (ZgI (ZaL (Zl0 hu1) (Zam CCN hr5 rfl (Zaa Zae (Zaa (pv 4) Zac))) (Zam CLN hr6 rfl (Zaa Zae (Zaa (pv 4) Zac))) (ZaN _)))))
    (wss ZaY)
    Zbq)
    (Zah (ws (Zaq (i:=5) scLaw99.nd rfl (YaI rfl) (Zat ZaQ Zae (Zam CX hr1 rfl (Zaa (pv 2) (Zaa Zae Zac))))))
    (Zah (Zk8 (i:=6) scLaw99.nd rfl (Yde rfl) (ZnF ix_list (ZhU (Zbr rfl Zae (Zbr rfl Zae (Zbr rfl (Zat ZiC Zae Zae) ZhV)))) (we (Zam CX hr1 rfl (Zaa (pv 2) (Zaa Zae Zac)))) (fun _ _=>rfl)))
    (Zah (ws (ZlS (i:=7) scLaw99.nd rfl rfl (own:=["turn"]) (js:=[2,6]) (CompOk.by (sc:=Zad sLaw) (N:=["script","k","pot","p","n","many","far","lengths","readings","way"]) rfl rfl (by decide +kernel)) rfl (ZaR rfl T.range (Zaa (pv 5) Zac)) Zay (fun _ _ _ _ _=>(Zaj (i:=0) (by show (["turn","pot","far"]:List Str).Nodup;decide +kernel) rfl (YaI rfl) (.inr rfl))) (fun _ _ _ _ _=>ZaC) (fun _ _ _ _ _=>(Zat ZaQ Zae (Zam CX hr1 rfl (Zaa (pv 1) (Zaa (pv 2) Zac)))))))
    (Zah (ws (Zaq (i:=8) scLaw99.nd rfl (YaI rfl) (Zam CR hr5 rfl (Zaa (pv 3) (Zaa (pv 7) Zac)))))
    (Zah (Zeo (Zea (Zd9 (Zam CG hr6 rfl (Zaa (pv 2) (Zaa (pv 3) (Zaa (pv 7) (Zaa (pv 8) Zac)))))))
    (wss ZaY)
    Zbq)
    (ZaI (ws (Zbd Ya5 rfl (ZaR rfl T.range (Zaa Zae Zac)) (Zaj (i:=9) scLaw99.nd rfl (YaI rfl))
    (WSs.out (ZaI (Zeo (Zea (Zd9 (Zam CY hr8 rfl (Zaa (pv 2) (Zaa (pv 3) (Zaa (pv 9) (Zaa (pv 7) (Zaa (pv 8) Zac))))))))
     (wss ZaY)
     Zbq))))))))))))))))))
   (ZaI (ws (Zav ZnX)))),?_⟩
  have hz:20000<sizeLine:=by decide
  refine⟨_,rfl,a,_,rfl,.inl hS,_,_,rfl,_,_,rfl,_,rfl,?_,?_,?_⟩
  ·rw[Yaa];split <;> split <;> (clear hz hu1 hu0 hlen;omega)
  ·rw[Yaa];split <;> split <;> (clear hz hu1 hu0 hlen;omega)
  generalize hN:(if (if ((cs.map V.int).length:Int)<5 then ((cs.map V.int).length:Int) else 5) > 1 then (if ((cs.map V.int).length:Int)<5 then ((cs.map V.int).length:Int) else 5) else 1).toNat=N;have hN5:N<=5:=by rw[<- hN,Yaa];split <;> split <;> (clear hN hz hu1 hu0 hlen;omega)
  refine Zbo (fun i σ Hx=>∃ o1 o2 o3 o4 o5 o6 o7 o8 o9:Option V,σ=[some (.ref a),o1,o2,o3,o4,o5,o6,o7,o8,o9]/\Same H Hx) ⟨none,none,none,none,none,none,none,none,none,rfl,Same.refl _⟩ ?_ ?_
  ·rintro i σ Hx hi ⟨o1,o2,o3,o4,o5,o6,o7,o8,o9,rfl,sx⟩;refine⟨_,rfl,_,rfl,a,cs,_,rfl,sx.seq hS,by (clear hi hN5 hN hz hu1 hu0 hlen;omega),by (clear hN5 hz hu1 hu0 hlen;omega),fun pl H1 npl hP1 s1=>?_⟩;have hpl0:H pl=none:=sx.free npl;have sx1:=sx.trans s1;refine⟨_,rfl,pl,6,rfl,hP1,by decide,by decide,fun dp H2 p0 p1 hP2 sm2=>⟨2,dp,rfl,rfl,?_⟩⟩;obtain⟨p,ep⟩:∃ p:Nat,2+dp=(p:Int):=⟨(2+dp).toNat,by (clear p1 hi hN5 hN hz hu1 hu0 hlen;omega)⟩
   have p2:2<=p:=by (clear p1 hi hN5 hN hz hu1 hu0 hlen;omega)
   have p7:p<=7:=by (clear p2 p0 hi hN5 hN hz hu1 hu0 hlen;omega)
   dsimp only;rw[ep];refine⟨_,rfl,pl,11,rfl,hP2,by decide,by decide,fun dn H3 n0 n1 hP3 sm3=>?_⟩;obtain⟨n,rfl⟩:∃ n:Nat,dn=(n:Int):=⟨dn.toNat,by (clear n1 p7 p2 ep p1 p0 hi hN5 hN hz hu1 hu0 hlen;omega)⟩
   have hn10:n<=10:=by (clear n0 p7 p2 ep p1 p0 hi hN5 hN hz hu1 hu0 hlen;omega)
   have sm13:=sm2.trans sm3;refine⟨_,rfl,2,n,rfl,by (clear hn10 n1 n0 p7 p2 ep p1 p0 hi hN5 hN hz hu1 hu0 hlen;omega),by (clear hn10 n1 n0 p7 p2 ep p1 p0 hi hN5 hN hz hu1 hu0 hlen;omega),by (clear hn10 n0 p7 p2 ep p1 p0 hi hN5 hN hz hu1 hu0 hlen;omega),fun l1 H4 nl1 hl1 s4=>⟨_,rfl,2,n,rfl,by (clear hn10 n1 n0 p7 p2 ep p1 p0 hi hN5 hN hz hu1 hu0 hlen;omega),by (clear hn10 n1 n0 p7 p2 ep p1 p0 hi hN5 hN hz hu1 hu0 hlen;omega),by (clear hn10 n0 p7 p2 ep p1 p0 hi hN5 hN hz hu1 hu0 hlen;omega),fun l2 H5 nl2 hl2 s5=>⟨l1,l2,_,_,rfl,rfl,SqT.of (s5 _ _ hl1),SqT.of hl2,_,rfl,?_⟩⟩⟩;rw[Zhh,decide_eq_true rfl];have ht2:tot 2 n<=4000:=Zh3 hn10;have hc2:(casc 2 n).sum<=4000:=by rw[Zhh];exact ht2
   refine iteF ⟨_,rfl,2,n,rfl,by (clear hc2 ht2 hn10 n1 n0 p7 p2 ep p1 p0 hi hN5 hN hz hu1 hu0 hlen;omega),by (clear hc2 ht2 hn10 n1 n0 p7 p2 ep p1 p0 hi hN5 hN hz hu1 hu0 hlen;omega),by (clear hc2 ht2 hn10 n0 p7 p2 ep p1 p0 hi hN5 hN hz hu1 hu0 hlen;omega),hc2,fun l3 q3 H6 nl3 hl3 hT3 s6=>⟨_,rfl,2,n,rfl,by (clear hc2 ht2 hn10 n1 n0 p7 p2 ep p1 p0 hi hN5 hN hz hu1 hu0 hlen;omega),by (clear hc2 ht2 hn10 n1 n0 p7 p2 ep p1 p0 hi hN5 hN hz hu1 hu0 hlen;omega),by (clear hc2 ht2 hn10 n0 p7 p2 ep p1 p0 hi hN5 hN hz hu1 hu0 hlen;omega),ht2,fun l4 q4 H7 nl4 hl4 hT4 s7=>?_⟩⟩;rw[Zgs] at hT3;refine⟨l3,l4,_,_,_,rfl,rfl,SqT.of (s7 _ _ hl3),SqT.of hl4,hT3.same s7,hT4,_,rfl,iteF ?_⟩;have s37:=((s4.trans s5).trans s6).trans s7;have hP7:=hP3.same s37;have sm7:=sm13.trans (Sm.of (p:=pl) s37);refine⟨_,rfl,pl,40,rfl,hP7,by decide,by decide,fun dm H8 m0 m1 hP8 sm8=>⟨1,dm,rfl,rfl,?_⟩⟩;obtain⟨m,em⟩:∃ m:Nat,1+dm=(m:Int):=⟨(1+dm).toNat,by (clear m1 hc2 ht2 hn10 n1 n0 p7 p2 ep p1 p0 hi hN5 hN hz hu1 hu0 hlen;omega)⟩
   dsimp only;rw[em];have sm18:=sm7.trans sm8;refine⟨10,11,rfl,rfl,⟨by decide,by decide,by decide⟩,(by show 3<=sizeLine;decide),fun q nq=>?_⟩;have s9:=Same.new (o:=.lst [V.int 3,.int 9,.int (10 ^ YdT 11)]) nq;have e9:upd H8 q (.lst [V.int 3,.int 9,.int (10 ^ YdT 11)]) q=some (.lst [V.int 3,.int 9,.int (10 ^ YdT 11)]):=Zab;have hP9:=hP8.same s9;have qp:q≠pl:=hP8.ne nq;have sm9:=sm18.trans (Sm.of (p:=pl) s9);generalize upd H8 q (.lst [V.int 3,.int 9,.int (10 ^ YdT 11)])=H9 at s9 e9 hP9 sm9 ⊢;refine⟨_,rfl,pl,3,rfl,hP9,by decide,by decide,fun j H10 j0 j1 hP10 sm10=>?_⟩;obtain⟨fr,hfr,f1,f2⟩:∃ fr:Int,atI [V.int 3,.int 9,.int (10 ^ YdT 11)] j=some (.int fr)/\1<=fr/\fr<=100000000000:=by
    rcases (show j=0∨j=1∨j=2 by (clear qp em m1 m0 hc2 ht2 hn10 n1 n0 p7 p2 ep p1 p0 hi hN5 hN hz hu1 hu0 hlen;omega)) with rfl | rfl | rfl
    ·exact⟨3,rfl,by decide,by decide⟩
    ·exact⟨9,rfl,by decide,by decide⟩
    ·exact⟨10 ^ YdT 11,rfl,by decide,by decide⟩
   refine⟨q,_,j,.int fr,rfl,rfl,SqL.of (sm10 _ _ e9 qp),hfr,?_⟩;have sm110:=sm9.trans sm10;refine⟨_,rfl,_,rfl,by show -(2 ^ 62)<=(m:Int);(clear f2 f1 j1 j0 qp em m1 m0 hc2 ht2 hn10 n1 n0 p7 p2 ep p1 p0 hi hN5 hN hz hu1 hu0 hlen;omega),by show (m:Int)<2 ^ 62;(clear f2 f1 j1 j0 qp m0 hc2 ht2 hn10 n1 n0 p7 p2 ep p1 p0 hi hN5 hN hz hu1 hu0 hlen;omega),?_⟩;rw[YaS];refine ZcW (fun acc i Hx=>∃ ls:List Int,ls.length=i/\(∀ l∈ls,0<=l/\l<=100000000000)/\Hx acc=some (.lst (ls.map V.int))/\Pool3 Hx pl/\Sm pl H1 Hx)
    (fun acc h0=>⟨[],rfl,by simp,Zab,hP10.put h0,sm110.trans (Sm.new h0)⟩) ?_ ?_
   ·rintro acc i Hx h0 hi ⟨ls,hll,hlb,hacc,hPx,smx⟩;have hap:acc≠pl:=hP10.ne h0;have ha1:H1 acc=none:=sm110.free hap h0;refine⟨_,rfl,_,rfl,pl,fr,rfl,hPx,by (clear hap hll hi f2 j1 j0 qp em m1 m0 hc2 ht2 hn10 n1 n0 p7 p2 ep p1 p0 hN5 hN hz hu1 hu0 hlen;omega),ZaX (by (clear hap hll hi f2 j1 j0 qp em m1 m0 hc2 ht2 hn10 n1 n0 p7 p2 ep p1 p0 hN5 hN hz hu1 hu0 hlen;omega)) (by (clear hap hll hi f1 j1 j0 qp em m1 m0 hc2 ht2 hn10 n1 n0 p7 p2 ep p1 p0 hN5 hN hz hu1 hu0 hlen;omega)),fun d H5 d0 d1 hP5 sm5=>⟨1,d,rfl,rfl,?_⟩⟩;refine⟨_,sm5 _ _ hacc hap,ZaF (by rw[Yaa];(clear d1 d0 hap f2 f1 j1 j0 qp m0 hc2 ht2 hn10 n1 n0 p7 p2 ep p1 p0 hN5 hN hz hu1 hu0 hlen;omega)),hi,ls++[1+d],by simp[hll],fun l hl=>?_,?_,?_,(smx.trans sm5).putP ha1⟩
    ·rcases Yam.mp hl with h | h
     ·exact hlb l h
     ·rw[YaD.mp h];(clear hap hll hi f1 j1 j0 qp em m1 m0 hc2 ht2 hn10 n1 n0 p7 p2 ep p1 p0 hN5 hN hz hu1 hu0 hlen;omega)
    ·rw[Zab,Yau];rfl
    ·obtain⟨u,v,w,e⟩:=hP5;exact⟨u,v,w,by rw[Zag (Ybl hap)];exact e⟩
   ·rintro acc Hx h0 ⟨ls,hll,hlb,hacc,hPx,smx⟩;have hap:acc≠pl:=hP10.ne h0;refine⟨_,rfl,_,rfl,p,acc,ls,rfl,p2,p7,hacc,by (clear hap f2 f1 j1 j0 qp m1 hc2 ht2 hn10 n1 n0 p7 p2 ep p1 p0 hi hN5 hN hz hu1 hu0 hlen;omega),by (clear hap f2 f1 j1 j0 qp m0 hc2 ht2 hn10 n1 n0 p7 p2 ep p1 p0 hi hN5 hN hz hu1 hu0 hlen;omega),fun l hl=>ZaX (hlb l hl).1 (by have:=(hlb l hl).2;(clear hap hll f2 f1 j1 j0 qp em m1 m0 hc2 ht2 hn10 n1 n0 p7 p2 ep p1 p0 hi hN5 hN hz hu1 hu0 hlen;omega)),fun rl t1 t2 R1 n1 R2 n2 H12 nrl hrl ht1 ht2 hB1 hB2 s12=>?_⟩;have hP12:=hPx.same s12;have hrp:rl≠pl:=hPx.ne nrl;have hacc12:=s12 _ _ hacc;have sm12:=smx.trans (Sm.of (p:=pl) s12);refine⟨_,rfl,_,rfl,_,rfl,_,rfl,pl,p,acc,rl,t1,t2,ls,R1,n1,R2,n2,rfl,p2,p7,hP12,hacc12,hap,hrl,hrp,ht1,ht2,hB1,hB2,by (clear hrp hap f2 f1 j1 j0 qp m1 hc2 hn10 n0 p7 p2 ep p1 p0 hi hN5 hN hz hu1 hu0 hlen;omega),by (clear hrp hap f2 f1 j1 j0 qp m0 hc2 hn10 n0 p7 p2 ep p1 p0 hi hN5 hN hz hu1 hu0 hlen;omega),hlb,fun H13 hP13 sm13'=>⟨true,rfl,iteF ?_⟩⟩;have np:∀ {t:Addr}{xs:List V},H12 t=some (.tup xs)->t≠pl:=fun {t xs} ht e=>by
     obtain⟨a,b,d,e2⟩:=hP12;rw[e,e2] at ht;cases ht
    have sm113:=sm12.trans sm13';refine⟨_,rfl,by show -(2 ^ 62)<=(2:Int);decide,by show (2:Int)<2 ^ 62;decide,?_⟩;generalize hik:(0:Int)+(i:Int)=ik;refine Zbo (fun (_:Nat) σ Hy=>∃ o9:Option V,σ=[some (.ref a),some (.int ik),some (.ref pl),some (.int p),some (.int n),some (.int m),some (.int fr),some (.ref acc),some (.ref rl),o9]/\True/\Hy acc=some (.lst (ls.map V.int))/\Hy rl=some (.lst [.int (hf p ls),.ref t1,.ref t2])/\Hy t1=some (.tup [.int R1,.int n1])/\Hy t2=some (.tup [.int R2,.int n2])/\Pool3 Hy pl/\Sm pl H1 Hy) ?_ ?_ ?_
    ·exact⟨o9,rfl,trivial,sm13' _ _ hacc12 hap,sm13' _ _ hrl hrp,sm13' _ _ ht1 (np ht1),sm13' _ _ ht2 (np ht2),hP13,sm113⟩
    ·rintro w σ Hy hw ⟨o9,rfl,_,ha,hr,h1,h2,hPy,smy⟩;obtain⟨c,hc⟩:∃ c:Bool,(0:Int)+(w:Int)=wyI c:=by
      have hw:w<2:=hw;rcases (show w=0∨w=1 by (clear hw hik hrp hap hll f2 f1 j1 j0 qp em m1 m0 hc2 hn10 n0 p7 p2 ep p1 p0 hi hN5 hN hz hu1 hu0 hlen;omega)) with rfl | rfl
      ·exact⟨false,rfl⟩
      ·exact⟨true,rfl⟩
     refine⟨_,rfl,_,rfl,_,rfl,_,rfl,_,rfl,pl,p,c,acc,rl,t1,t2,ls,R1,n1,R2,n2,by rw[<- hc];rfl,p2,p7,hPy,ha,hap,hr,hrp,h1,h2,hB1,hB2,by (clear hc hw hik hrp hap f2 f1 j1 j0 qp m1 hc2 hn10 n0 p7 p2 ep p1 p0 hi hN5 hN hz hu1 hu0 hlen;omega),by (clear hc hw hik hrp hap f2 f1 j1 j0 qp m0 hc2 hn10 n0 p7 p2 ep p1 p0 hi hN5 hN hz hu1 hu0 hlen;omega),fun l hl=>⟨(hlb l hl).1,by have:=(hlb l hl).2;(clear hc hw hik hrp hap hll f2 f1 j1 j0 qp em m1 m0 hc2 hn10 n0 p7 p2 ep p1 p0 hi hN5 hN hz hu1 hu0 hlen;omega)⟩,fun Hz hPz smz=>⟨true,rfl,iteF ?_⟩⟩;have npy:∀ {t:Addr}{xs:List V},Hy t=some (.tup xs)->t≠pl:=fun {t xs} ht e=>by
      obtain⟨a,b,d,e2⟩:=hPy;rw[e,e2] at ht;cases ht
     exact⟨_,rfl,trivial,smz _ _ ha hap,smz _ _ hr hrp,smz _ _ h1 (npy h1),smz _ _ h2 (npy h2),hPz,smy.trans smz⟩
    ·rintro σ Hy ⟨o9,rfl,_,_,_,_,_,_,smy⟩;exact⟨_,_,_,_,_,_,_,_,_,rfl,Sm.after sx1 smy hpl0⟩
  ·rintro σ Hx ⟨o1,o2,o3,o4,o5,o6,o7,o8,o9,rfl,sx⟩;exact k Hx
end
end Fj99
namespace Fj99
open PySem L2 Lv
section
variable {P:Program}{w:World}{K:Yac}{mg:Str->Option Value}{base:Heap}
theorem Zhy:FnScope ["numbers"] ["numbers"] (Zad Zbn):=⟨rfl,rfl,rfl,by decide +kernel,rfl,by decide +kernel,by decide +kernel⟩
theorem Zf7 {f:Addr}{fd:FuncData} (F:Fun K "places_in" "places_in" Zbn f fd) (T:Txt mg):FnOk P w K mg base CX0 1 f fd ["numbers"] Zbm:=by
 refine F.ok Zhy (fun vs H Q E h=>?_) (fun cdv A outer s H vs Q E hr h=>?_)
 ·obtain⟨a,rs,N,rfl,_⟩:=h;rfl
 ·obtain⟨a,rs,N,rfl,hA,hT,hN,k⟩:=h;refine⟨_,Zan (Zav (Zak (ZbL rfl) rfl T.sum Ze1 (Zaa (ZaG (own:=["on_reel"]) (js:=[]) (CompOk.bare (by decide +kernel)) rfl (Zc1 (pv 0)) Zay
    (fun _ _ _ _ _=>Zaj (i:=0) (by show (["on_reel"]:List Str).Nodup;decide +kernel) rfl (YaI rfl) (.inr rfl)) (fun _ _ _ _ _=>ZaC) (fun _ _ _ _ _=>Zak (ZfF K) rfl T.len Ya1 (Zaa (pv 0) Zac))) Zac))),?_⟩
  refine⟨_,rfl,a,rfl,⟨_,SqT.of hA⟩,?_⟩;refine Zcw (xs:=rs.map V.ref) (fun acc j H2=>Same H H2/\H2 acc=some (.lst ((Za1 (N.take j)).map V.int))) (fun acc h0=>⟨Same.new h0,Zab⟩) (fun acc j H2 h0 _ p=>SqT.of (p.1 _ _ hA)) ?_ ?_
  ·rintro acc j x H2 h0 hx ⟨s2,hacc⟩;obtain⟨q,hq,rfl⟩:=ZcV hx;have hj:=(Yab.mp hq).1
   obtain⟨xs,hxs⟩:∃ xs,N[j]?=some xs:=⟨_,Yad (by rw[<- hT.1];exact hj)⟩
   refine⟨_,rfl,q,_,rfl,.inr (SqT.of (s2 _ _ (hT.2 j q xs hq hxs))),_,hacc,?_,by rw[Yaa];exact hj,s2.put h0,?_⟩
   ·unfold Za1;rw[Yaa,Yaa,Yay];exact ZaF (by (clear hj;omega))
   ·rw[Zab,Ybj,hxs,Yby];unfold Za1;rw[Yau,Yau,YaM,Yd2,Yaa];rfl
  rintro acc H2 h0 ⟨s2,hacc⟩;have e:(rs.map V.ref).length=N.length:=by rw[Yaa,hT.1]
  rw[e,YaN] at hacc;refine⟨acc,_,rfl,SqL.of hacc,?_⟩;have e2:(Za1 N).sum=(N.flatten.length:Int):=by
   unfold Za1;clear hacc hT hN k e
   induction N with
   | nil=>rfl
   | cons xs N ih=>rw[YaM,Yas,ih,YaR,Yaf];(clear ih;omega)
  rw[e2];exact k H2 s2
theorem scLeastP:FnScope ["numbers","many","places"] ["numbers","many"] (Zad ZcF):=⟨rfl,rfl,rfl,by decide +kernel,rfl,by decide +kernel,by decide +kernel⟩
theorem Zjw (xs:List V) (c:Nat):cutV xs none (some (c:Int))=xs.take c:=by
 unfold cutV;show (xs.drop 0).take (HT.sIx xs.length xs.length (some (c:Int)) - 0)=_;rw[HT.sIx_nat,Ydc,YdE];by_cases h:c<=xs.length
 ·rw[Yb0 h]
 ·rw[Yef (by omega),YaN,Ya2 (by omega)]
theorem ZkX {N:List (List Int)}{i j:Nat}{xs:List Int} (h:N[i]?=some xs) (hj:j<=xs.length):(N.take i).flatten.length+j<=N.flatten.length:=by
 have a:=Yab.mp h;have e1:N=N.take i++xs::N.drop (i+1):=by
  have:N.drop i=xs::N.drop (i+1):=by rw[Ycs a.1,a.2]
  rw[<- this,YaH]
 conv=>rhs;rw[e1]
 rw[YbB,Yaf,YaR,Yaf];omega
theorem ZiK {f:Addr}{fd:FuncData} (F:Fun K "least_places" "least_places" ZcF f fd) (T:Txt mg) (Te:mg "enumerate"=none):FnOk P w K mg base CX0 1 f fd ["numbers","many"] Zew:=by
 refine F.ok scLeastP (fun vs H Q E h=>?_) (fun cdv A outer s H vs Q E hr h=>?_)
 ·obtain⟨a,rs,N,m,rfl,_⟩:=h;rfl
 ·obtain⟨a,rs,N,m,rfl,hA,hT,hN,hF,k⟩:=h;refine⟨_,Zai (Zkf (i:=2) scLeastP.nd rfl rfl (own:=["reel","on_reel","place","number"]) (js:=[]) (fr:=[2,3]) (CompOk.bare (by decide +kernel)) rfl (Zcn rfl Te (Zaa (pv 0) Zac)) (ZhP (i:=0) (k:=1) (K:=K)) (ZhO (i:=2) (k:=3) (K:=K))
    (fun _ _ _ _ _=>Zbe K rfl (Zar (Zaj (i:=0) (by show (["reel","on_reel","place","number"]:List Str).Nodup;decide +kernel) rfl (YaI rfl) (.inr rfl)) (Zar (Zaj (i:=1) (by show (["reel","on_reel","place","number"]:List Str).Nodup;decide +kernel) rfl (YaI rfl) (.inr rfl)) ZaO))) (fun _ _ _ _ _=>ZaC) (fun _ _ _ _ _=>Ziv K rfl Te (Zaa (pv 1) Zac))
    (fun _ _ _ _ _=>Zbe K rfl (Zar (Zaj (i:=2) (by show (["reel","on_reel","place","number"]:List Str).Nodup;decide +kernel) rfl (YaI rfl) (.inr rfl)) (Zar (Zaj (i:=3) (by show (["reel","on_reel","place","number"]:List Str).Nodup;decide +kernel) rfl (YaI rfl) (.inr rfl)) ZaO))) (fun _ _ _ _ _=>ZaC) (fun _ _ _ _ _=>Zbi (Zaa (pv 3) (Zaa (pv 0) (Zaa (pv 2) Zac)))))
   (Zan (Zav (Za7 Zdo (Zak Zbx rfl T.sorted ZbY (Zaa (pv 2) Zac)) ZbD (Za3 (pv 1))))),?_⟩
  have hz:100000<sizeLine:=by decide
  refine⟨_,rfl,a,false,rfl,⟨_,SqT.of hA⟩,?_⟩;refine Zgq (b:=false) (xs:=rs.map V.ref) (fun acc i H2=>Same H H2/\∃ ps,H2 acc=some (.lst (ps.map V.ref))/\(∀ p∈ps,p≠acc)/\TuM H2 ps (trip 0 (N.take i))) (fun acc h0=>⟨Same.new h0,[],Zab,(fun p hp=>nomatch hp),TuM.nil⟩) (fun acc i H2 h0 _ p=>SqT.of (p.1 _ _ hA)) ?_ ?_
  ·rintro acc i x q H2 h0 hx ⟨s2,ps,hacc,hne,hpr⟩ hq;obtain⟨r,hr',rfl⟩:=ZcV hx;have hi:=(Yab.mp hr').1
   obtain⟨xs,e2⟩:∃ xs,N[i]?=some xs:=⟨_,Yad (by rw[<- hT.1];exact hi)⟩
   have hrow:=hT.2 i r xs hr' e2;have s3:Same H2 (upd H2 q (.tup [.int i,.ref r])):=Same.new hq;have hq3:upd H2 q (.tup [.int i,.ref r]) q=some (.tup [.int i,.ref r]):=Zab;generalize upd H2 q (.tup [.int i,.ref r])=H3 at s3 hq3 ⊢;have s03:=s2.trans s3;refine⟨q,_,rfl,SqT.of hq3,rfl,_,_,rfl,_,_,rfl,rfl,?_⟩;refine⟨_,rfl,r,false,rfl,⟨_,SqT.of (s03 _ _ hrow)⟩,?_⟩;refine ZkQ (b:=false) (xs:=xs.map V.int) (fun j H4=>Same H H4/\∃ ps,H4 acc=some (.lst (ps.map V.ref))/\(∀ p∈ps,p≠acc)/\TuM H4 ps (trip 0 (N.take i)++ZcA i (xs.take j))) ⟨s03,ps,s3 _ _ hacc,hne,by simpa[ZcA] using hpr.same s3⟩ (fun j H4 _ p=>SqT.of (p.1 _ _ hrow)) ?_ ?_
   ·rintro j y u H4 hy ⟨s4,ps,hac4,hne4,hpr4⟩ nu;obtain⟨z,hz',rfl⟩:=ZaJ hy;have hj:=(Yab.mp hz').1
    have hle:=ZkX e2 (Ybs hj);have hpl:ps.length=(N.take i).flatten.length+j:=by
     rw[hpr4.len,Yaf,Zcc,Ze7,Yay]
     (clear hle hi hz hF hN;omega)
    have su:Same H4 (upd H4 u (.tup [.int j,.int z])):=Same.new nu;have hu3:upd H4 u (.tup [.int j,.int z]) u=some (.tup [.int j,.int z]):=Zab;generalize upd H4 u (.tup [.int j,.int z])=H4' at su hu3 ⊢
    replace hac4:=su _ _ hac4
    replace hpr4:=hpr4.same su
    replace s4:=s4.trans su
    refine⟨u,_,rfl,SqT.of hu3,rfl,_,_,rfl,_,_,rfl,rfl,?_⟩;refine⟨_,rfl,_,rfl,_,rfl,(by show 3<=sizeLine;decide),fun t ht=>?_⟩;have hta:t≠acc:=Ybl (Zaf hac4 ht);have s45:Same H4' (upd H4' t (.tup [.int z,.int i,.int j])):=Same.new ht;have ht5:upd H4' t (.tup [.int z,.int i,.int j]) t=some (.tup (([z,(i:Int),(j:Int)]:List Int).map V.int)):=Zab;generalize upd H4' t (.tup [.int z,.int i,.int j])=H5 at s45 ht5 ⊢;refine⟨_,s45 _ _ hac4,by rw[Yaa];(clear hta hj hi hN;omega),by rw[Yaa];exact hj,(s4.trans s45).put h0,ps++[t],by rw[Zab,Yau];rfl,fun p hp=>?_,?_⟩
    ·rcases Yam.mp hp with hp | hp
     ·exact hne4 p hp
     ·rw[YaD.mp hp];exact hta
    ·have:=(hpr4.same s45).snoc ht5 (by simp);rw[Yav,<- Zho hz'] at this;refine this.keep fun p hp=>Zag ?_;rcases Yam.mp hp with hp | hp
     ·exact hne4 p hp
     ·rw[YaD.mp hp];exact hta
   ·rintro H4 ⟨s4,ps,hac4,hne4,hpr4⟩;rw[Yaa,YaN,<- Zh1 e2] at hpr4;exact⟨by rw[Yaa];exact hi,s4,ps,hac4,hne4,hpr4⟩
  rintro acc H2 h0 ⟨s2,ps,hacc,hne,hpr⟩;have e:(rs.map V.ref).length=N.length:=by rw[Yaa,hT.1]
  rw[e,YaN] at hpr;have hks:∀ p∈ps,kf H2 p≠[]/\H2 p=some (.tup ((kf H2 p).map V.int)):=by
   intro p hp;obtain⟨k',hk,e⟩:=hpr.1 p hp;rw[Zfr e];exact⟨hk,e⟩
  refine⟨_,rfl,acc,ps,kf H2,rfl,SqL.of hacc,hks,fun l qs nl pm up=>?_⟩;have s23:Same H2 (upd H2 l (.lst (qs.map V.ref))):=Same.new nl;have hl3:upd H2 l (.lst (qs.map V.ref)) l=some (.lst (qs.map V.ref)):=Zab;generalize upd H2 l (.lst (qs.map V.ref))=H3 at s23 hl3 ⊢;have s03:=s2.trans s23;refine⟨_,rfl,(m:Int),rfl,l,_,rfl,SqL.of hl3,fun l2 nl2=>?_⟩;rw[Zjw,<- YcA];have s34:Same H3 (upd H3 l2 (.lst ((qs.take m).map V.ref))):=Same.new nl2;have hq2:TuM H2 qs (qs.map (kf H2)):=⟨fun p hp=>hpr.1 p (pm.mem_iff.mp hp),rfl⟩
  refine k l2 qs (qs.map (kf H2)) _ (s03.free nl2) Zab (hq2.same (s23.trans s34)) ?_ (Ybf.mpr up) (s03.trans s34);rw[<- hpr.2];exact pm.map _
end
end Fj99
namespace Fj99
open PySem L2 Lv
section
variable {P:Program}{w:World}{K:Yac}{mg:Str->Option Value}{base:Heap}
theorem Zj4:FnScope ["numbers","lengths","placing"] ["numbers","lengths","placing"] (Zad Zb4):=⟨rfl,rfl,rfl,by decide +kernel,rfl,by decide +kernel,by decide +kernel⟩
theorem SqB.sameP {b:Bool}{H H':Hp}{a:Addr}{xs:List V} (e:Same H H') (h:SqB b K H a xs):SqB b K H' a xs:=by
 cases b
 ·exact e.tup h
 ·exact e.seq h
theorem ZiF {f:Addr}{fd:FuncData} (F:Fun K "reading_by" "reading_by" Zb4 f fd) (T:Txt mg):FnOk P w K mg base CX0 1 f fd ["numbers","lengths","placing"] (Zet K):=by
 refine F.ok Zj4 (fun vs H Q E h=>?_) (fun cdv A outer s H vs Q E hr h=>?_)
 ·obtain⟨a,ll,pl,b,rs,qs,N,ls,ks,rfl,_⟩:=h;rfl
 ·obtain⟨a,ll,pl,b,rs,qs,N,ls,ks,rfl,hA,hT,hL,hP,hM,hin,hlen,hl9,hb1,hb2,k⟩:=h;refine⟨_,Zan (Zav (Zak (ZbL rfl) rfl T.sum Ze1 (Zaa (ZaG (own:=["length","reel","place"]) (js:=[0]) (CompOk.by (sc:=Zad Zb4) (N:=["numbers","lengths","placing"]) rfl rfl (by decide +kernel)) rfl (Zds rfl T.zip (Zaa (pv 1) (Zaa (pv 2) Zac))) (ZhN (i:=0) (k:=1) (m:=2) (K:=K))
    (fun _ _ _ _ _=>Zbe K rfl (Zar (Zaj (i:=0) (by show (["length","reel","place","numbers"]:List Str).Nodup;decide +kernel) rfl (YaI rfl) (.inr rfl)) (Zar (Zbe K rfl (Zar (Zaj (i:=1) (by show (["length","reel","place","numbers"]:List Str).Nodup;decide +kernel) rfl (YaI rfl) (.inr rfl)) (Zar (Zaj (i:=2) (by show (["length","reel","place","numbers"]:List Str).Nodup;decide +kernel) rfl (YaI rfl) (.inr rfl)) ZaO))) ZaO))) (fun _ _ _ _ _=>ZaC)
    (fun _ _ _ _ _=>Zat Zl1 (pv 0) (Zaz (Zg4 K) (Zaz (Zg4 K) (pv 3) (pv 1) (fun _ _=>rfl)) (pv 2) (fun _ _=>rfl)))) Zac))),?_⟩
  have hz:100000<sizeLine:=by decide
  refine⟨_,rfl,_,rfl,b,true,ll,pl,rfl,⟨_,hL⟩,⟨_,SqL.of hP⟩,?_⟩;refine Zk1 (b1:=b) (b2:=true) (xs:=ls.map V.int) (ys:=qs.map V.ref) (by rw[Yaa,Yaa,hM.len];(clear hz hl9;omega)) (fun acc i H2=>Same H H2/\H2 acc=some (.lst ((Za6 N (ls.take i) (ks.take i)).map V.int))) (fun acc h0=>⟨Same.new h0,Zab⟩) (fun acc i H2 h0 _ p=>⟨SqB.sameP p.1 hL,SqL.of (p.1 _ _ hP)⟩) ?_ ?_
  ·rintro acc i x y u H2 h0 hx hy ⟨s2,hacc⟩ nu;obtain⟨l,hl,rfl⟩:=ZaJ hx;obtain⟨q,hq,rfl⟩:=ZcV hy;have hil:=(Yab.mp hl).1
   obtain⟨kk,hk,hqk⟩:=hM.at hq;obtain⟨r,p,xs,rfl,hr',hp⟩:=hin kk (YaO hk);have su:Same H2 (upd H2 u (.tup [.int l,.ref q])):=Same.new nu;have hu3:upd H2 u (.tup [.int l,.ref q]) u=some (.tup [.int l,.ref q]):=Zab;generalize upd H2 u (.tup [.int l,.ref q])=H3 at su hu3 ⊢;have s3:=s2.trans su;have hq3:H3 q=some (.tup [.int (r:Int),.int (p:Int)]):=s3 _ _ hqk;have hrl:=(Yab.mp hr').1
   obtain⟨ra,hra⟩:∃ ra,rs[r]?=some ra:=⟨_,Yad (by rw[hT.1];exact hrl)⟩
   have hrow:=s3 _ _ (hT.2 r ra xs hra hr');have hnum:numV N [(r:Int),(p:Int)]=xs[p]:=by
    unfold numV;simp[Yai,hr',hp]
   refine⟨u,_,rfl,SqT.of hu3,rfl,_,_,rfl,_,_,rfl,q,_,rfl,SqT.of hq3,rfl,_,_,rfl,_,_,rfl,rfl,rfl,?_⟩;refine⟨_,rfl,_,rfl,_,rfl,a,_,(r:Int),.ref ra,rfl,rfl,SqT.of (s3 _ _ hA),ZdJ (by rw[Yat,hra];rfl),_,rfl,ra,_,(p:Int),.int xs[p],rfl,rfl,SqT.of hrow,ZdJ (by rw[Yat,Yad hp];rfl),?_⟩;refine⟨l,xs[p],rfl,rfl,⟨8000,8000,hb1 l (YaO hl),hb2 xs (YaO hr') _ (Ybq hp),by decide⟩,?_⟩;refine⟨_,su _ _ hacc,?_,by rw[Yaa];exact hil,s3.put h0,?_⟩
   ·rw[Yaa];unfold Za6;rw[YdF,Yay,Yay]
    (clear hnum hrl hp hil hlen;omega)
   ·rw[Zab,ZhG hl hk,Yau,hnum];rfl
  rintro acc H2 h0 ⟨s2,hacc⟩;rw[Yaa,YaN,hlen,YaN] at hacc;exact⟨acc,_,rfl,SqL.of hacc,k H2 s2⟩
end
end Fj99
namespace Fj99
open PySem L2 Lv
section
variable {P:Program}{w:World}{K:Yac}{mg:Str->Option Value}{base:Heap}
theorem scLeastBy:FnScope ["numbers","lengths","longest_first","placing","length","row","number","reel","place"] ["numbers","lengths"] (Zad ZbP):=⟨rfl,rfl,rfl,by decide +kernel,rfl,by decide +kernel,by decide +kernel⟩
theorem SqB.sameL {b:Bool}{H H':Hp}{a:Addr}{xs:List V} (e:Same H H') (h:SqB b K H a xs):SqB b K H' a xs:=by
 cases b
 ·exact e.tup h
 ·exact e.seq h
theorem SqB.orL {b:Bool}{H:Hp}{a:Addr}{xs:List V} (h:SqB b K H a xs):SqL K H a xs∨SqT K H a xs:=by
 cases b
 ·exact .inr h
 ·exact .inl h
theorem ZlO (n:Nat):(Yaj n [V.non]).flatten=Yaj n V.non:=by
 induction n with
 | zero=>rfl
 | succ n ih=>rw[Ybn,YaR,ih,Ybn];rfl
theorem ZhJ {f f1 f2:Addr}{fd d1 d2:FuncData} (F:Fun K "least_by" "least_by" ZbP f fd) (T:Txt mg) (Te:mg "enumerate"=none) (CL:Cal P w K mg base 1 "least_places" ["numbers","many"] Zew f1 d1) (CR:Cal P w K mg base 1 "reading_by" ["numbers","lengths","placing"] (Zet K) f2 d2):FnOk P w K mg base CX0 2 f fd ["numbers","lengths"] (Zdm K):=by
 refine F.ok scLeastBy (fun vs H Q E h=>?_) (fun cdv A outer s H vs Q E hr h=>?_)
 ·obtain⟨a,ll,b,rs,N,ls,rfl,_⟩:=h;rfl
 ·obtain⟨a,ll,b,rs,N,ls,rfl,hA,hT,hN,hF,hL,hle,hb1,hb2,k⟩:=h;refine⟨_,Zai (Zaq (i:=2) scLeastBy.nd rfl (YaI rfl) (Zak Zbx rfl T.sorted ZbY (Zaa (ZaG (own:=["row","length"]) (js:=[]) (CompOk.bare (by decide +kernel)) rfl (Zcn rfl Te (Zaa (pv 1) Zac)) (Zbg (i:=0) (k:=1) (K:=K))
    (fun _ _ _ _ _=>Zbe K rfl (Zar (Zaj (i:=0) (by show (["row","length"]:List Str).Nodup;decide +kernel) rfl (YaI rfl) (.inr rfl)) (Zar (Zaj (i:=1) (by show (["row","length"]:List Str).Nodup;decide +kernel) rfl (YaI rfl) (.inr rfl)) ZaO))) (fun _ _ _ _ _=>ZaC) (fun _ _ _ _ _=>Zbi (Zaa (Zf6 Zdh (pv 1)) (Zaa (pv 0) Zac)))) Zac)))
   (Zai (Zaq (i:=3) scLeastBy.nd rfl (YaI rfl) (Zat ZgQ (ZaM (Zaa ZgN Zac)) (Zak Zap rfl T.len Ya1 (Zaa (pv 1) Zac))))
   (Zai (Zbd Ya5 rfl (Zds rfl T.zip (Zaa (pv 2) (Zaa (Zam CL hr rfl (Zaa (pv 0) (Zaa (Zak Zap rfl T.len Ya1 (Zaa (pv 1) Zac)) Zac))) Zac)))
     (Zdt rfl (Zar (Zdt rfl (Zar (Zaj (i:=4) scLeastBy.nd rfl (YaI rfl)) (Zar (Zaj (i:=5) scLeastBy.nd rfl (YaI rfl)) ZaO))) (Zar (Zdt rfl (Zar (Zaj (i:=6) scLeastBy.nd rfl (YaI rfl)) (Zar (Zaj (i:=7) scLeastBy.nd rfl (YaI rfl)) (Zar (Zaj (i:=8) scLeastBy.nd rfl (YaI rfl)) ZaO)))) ZaO)))
    (Zan (Zeb (Zbi (Zaa (pv 7) (Zaa (pv 8) Zac))) (ZgM (pv 3) (pv 5) Zck))))
   (Zan (Zav (Zbi (Zaa (Zam CR hr rfl (Zaa (pv 0) (Zaa (pv 1) (Zaa (pv 3) Zac)))) (Zaa (pv 3) Zac))))))),?_⟩
  have hz:100000<sizeLine:=by decide
  have hls:ls.length<=100000:=by (clear hz hN;omega)
  refine⟨_,rfl,ll,b,rfl,⟨_,hL⟩,?_⟩;refine Zek (xs:=ls.map V.int) (fun acc i H2=>Same H H2/\∃ ps,H2 acc=some (.lst (ps.map V.ref))/\(∀ p∈ps,p≠acc)/\TuM H2 ps (prL (ls.take i))) (fun acc h0=>⟨Same.new h0,[],Zab,(fun p hp=>nomatch hp),TuM.nil⟩) (fun acc i H2 h0 _ p=>SqB.sameL p.1 hL) ?_ ?_
  ·rintro acc i x q H2 h0 hx ⟨s2,ps,hacc,hne,hpr⟩ hq;obtain⟨l,hl,rfl⟩:=ZaJ hx;have hi:=(Yab.mp hl).1
   have s3:Same H2 (upd H2 q (.tup [.int i,.int l])):=Same.new hq;have hq3:upd H2 q (.tup [.int i,.int l]) q=some (.tup [.int i,.int l]):=Zab;generalize upd H2 q (.tup [.int i,.int l])=H3 at s3 hq3 ⊢;have hpl:ps.length=i:=by rw[hpr.len,ZcK,Yay];(clear hls hz hle hF hN;omega)
   refine⟨q,_,rfl,SqT.of hq3,rfl,_,_,rfl,_,_,rfl,rfl,?_⟩;refine⟨_,rfl,l,rfl,_,rfl,(by show 2<=sizeLine;decide),fun t ht=>?_⟩;have hacc3:=s3 _ _ hacc;have hta:t≠acc:=Ybl (Zaf hacc3 ht);have s45:Same H3 (upd H3 t (.tup [.int (-l),.int i])):=Same.new ht;have ht5:upd H3 t (.tup [.int (-l),.int i]) t=some (.tup (([-l,(i:Int)]:List Int).map V.int)):=Zab;generalize upd H3 t (.tup [.int (-l),.int i])=H5 at s45 ht5 ⊢;refine⟨_,s45 _ _ hacc3,by rw[Yaa];(clear hta hls hN;omega),by rw[Yaa];exact hi,(s2.trans (s3.trans s45)).put h0,ps++[t],by rw[Zab,Yau];rfl,fun p hp=>?_,?_⟩
   ·rcases Yam.mp hp with hp | hp
    ·exact hne p hp
    ·rw[YaD.mp hp];exact hta
   ·have:=(hpr.same (s3.trans s45)).snoc ht5 (by simp);rw[<- Zkj hl] at this;refine this.keep fun p hp=>Zag ?_;rcases Yam.mp hp with hp | hp
    ·exact hne p hp
    ·rw[YaD.mp hp];exact hta
  rintro acc H2 h0 ⟨s2,ps,hacc,hne,hpr⟩;rw[Yaa,YaN] at hpr;have hks:∀ p∈ps,kf H2 p≠[]/\H2 p=some (.tup ((kf H2 p).map V.int)):=by
   intro p hp;obtain⟨k',hk,e⟩:=hpr.1 p hp;rw[Zfr e];exact⟨hk,e⟩
  refine⟨acc,ps,kf H2,rfl,SqL.of hacc,hks,fun fl fs nfl pm up=>?_⟩;have s23:Same H2 (upd H2 fl (.lst (fs.map V.ref))):=Same.new nfl;have hfl:upd H2 fl (.lst (fs.map V.ref)) fl=some (.lst (fs.map V.ref)):=Zab;have hlf2:TuM H2 fs (fs.map (kf H2)):=⟨fun p hp=>hpr.1 p (pm.mem_iff.mp hp),rfl⟩
  have lfp:(fs.map (kf H2)).Perm (prL ls):=by rw[<- hpr.2];exact pm.map _
  have lfs:(fs.map (kf H2)).Pairwise (fun p q=>lxB q p=false):=Ybf.mpr up;have hlf:=hlf2.same s23;generalize fs.map (kf H2)=lf at hlf lfp lfs;generalize upd H2 fl (.lst (fs.map V.ref))=H3 at s23 hfl hlf ⊢;have s03:=s2.trans s23;refine⟨(by show 1<=sizeLine;decide),fun n1 nn1=>?_⟩;have x1:upd H3 n1 (.lst [.non]) n1=some (.lst [.non]):=Zab;have u1:Same H3 (upd H3 n1 (.lst [.non])):=Same.new nn1;generalize upd H3 n1 (.lst [.non])=H4 at x1 u1 ⊢;have s04:=s03.trans u1;refine⟨_,rfl,ll,_,rfl,SqB.orL (SqB.sameL s04 hL),n1,_,_,rfl,rfl,x1,by (clear hls hz hle hF hN;omega),by rw[Yaa];(clear hls hz hN;omega),by rw[Yaa];show 1*_<=_;(clear hls hN;omega),fun pl npl=>?_⟩;rw[ZlO,Yaa,YaS];have x2:upd H4 pl (.lst (Yaj ls.length V.non)) pl=some (.lst (Yaj ls.length V.non)):=Zab;have u2:Same H4 (upd H4 pl (.lst (Yaj ls.length V.non))):=Same.new npl;generalize upd H4 pl (.lst (Yaj ls.length V.non))=H5 at x2 u2 ⊢;have plH:H pl=none:=s04.free npl;have s05:=s04.trans u2;have s35:=u1.trans u2;refine⟨_,rfl,_,rfl,_,rfl,ll,_,rfl,SqB.orL (SqB.sameL s05 hL),?_⟩;rw[Yaa];refine⟨a,rs,N,ls.length,rfl,s05 _ _ hA,hT.same s05,hN,hF,fun gl gs lp H6 ngl hgl hlp lpp lps s6=>?_⟩;have s06:=s05.trans s6;have s36:=s35.trans s6;have hpl6:=s6 _ _ x2;have gll:gs.length=N.flatten.length:=by rw[hlp.len,lpp.length_eq,Zcc]
  have fsl:fs.length=ls.length:=by rw[hlf.len,lfp.length_eq,ZcK]
  have hnd:=ZhE lfp;have hflpl:fl≠pl:=Zaf (u1 _ _ hfl) npl;have hglpl:gl≠pl:=Ybl (Zaf x2 ngl);refine⟨true,true,fl,gl,rfl,⟨_,SqL.of (s36 _ _ hfl)⟩,⟨_,SqL.of hgl⟩,?_⟩;refine Zmt (b1:=true) (b2:=true) (xs:=fs.map V.ref) (ys:=(gs.take ls.length).map V.ref) (by rw[Yaa,Yaa,Yay];(clear hglpl hflpl hls hz hF hN;omega))
   (fun t σ H7=>∃ (o4 o5 o6 o7 o8:Option V) (vs:List V),σ=[some (.ref a),some (.ref ll),some (.ref fl),some (.ref pl),o4,o5,o6,o7,o8]/\H7 pl=some (.lst vs)/\vs.length=ls.length/\(∀ b o,H6 b=some o->b≠pl->H7 b=some o) /\
    (∀ (s:Nat) f p,s<t->lf[s]?=some f->lp[s]?=some p->∃ q,vs[(f.getD 1 0).toNat]?=some (.ref q)/\H7 q=some (.tup [.int (p.getD 1 0),.int (p.getD 2 0)])/\q≠pl))
   ⟨_,_,_,_,_,_,rfl,hpl6,by rw[YbQ],fun _ _ e _=>e,fun s f p h=>absurd h (YcG _)⟩ ?_ ?_ ?_
  ·rintro i σ H7 _ ⟨_,_,_,_,_,_,_,_,_,fr,_⟩;exact⟨SqL.of (fr _ _ (s36 _ _ hfl) hflpl),SqL.of (fr _ _ hgl hglpl)⟩
  ·rintro t x y u σ H7 hx hy ⟨o4,o5,o6,o7,o8,vs,rfl,hv,hvl,fr,hdone⟩ nu;obtain⟨xa,hxa,rfl⟩:=ZcV hx;obtain⟨ya,hya,rfl⟩:=ZcV hy;have htl:=(Yab.mp hxa).1
   rw[List.getElem?_take,if_pos (by (clear hvl hglpl hflpl gll hls hz hle hF hN;omega))] at hya;obtain⟨f,hf,hxf⟩:=hlf.at hxa;obtain⟨p,hp,hyp⟩:=hlp.at hya;have hxpl:xa≠pl:=Zaf (u1 _ _ hxf) npl;have hypl:ya≠pl:=fun z=>by rw[z,hpl6] at hyp;cases hyp
   obtain⟨j,l,ef,hj⟩:=ZeH (lfp.mem_iff.mp (YaO hf));obtain⟨r,jj,z,xs,ep,hr',hz'⟩:=ZbM (lpp.mem_iff.mp (YaO hp));have hjl:=(Yab.mp hj).1
   have hx7:=fr _ _ (s36 _ _ hxf) hxpl;have hy7:=fr _ _ hyp hypl;have su:Same H7 (upd H7 u (.tup [.ref xa,.ref ya])):=Same.new nu;have hu3:upd H7 u (.tup [.ref xa,.ref ya]) u=some (.tup [.ref xa,.ref ya]):=Zab;generalize upd H7 u (.tup [.ref xa,.ref ya])=H8 at su hu3 ⊢;have hx8:H8 xa=some (.tup [.int (-l),.int (j:Int)]):=by have:=su _ _ hx7;rw[ef] at this;exact this
   have hy8:H8 ya=some (.tup [.int z,.int ((0+r:Nat):Int),.int (jj:Int)]):=by have:=su _ _ hy7;rw[ep] at this;exact this
   refine⟨u,_,rfl,SqT.of hu3,rfl,_,_,rfl,xa,_,rfl,SqT.of hx8,rfl,_,_,rfl,_,_,rfl,rfl,_,_,rfl,ya,_,rfl,SqT.of hy8,rfl,_,_,rfl,_,_,rfl,_,_,rfl,rfl,rfl,?_⟩;refine⟨_,rfl,_,rfl,(by show 2<=sizeLine;decide),fun q nq=>?_⟩;have hv8:=su _ _ hv;have hqpl:q≠pl:=Ybl (Zaf hv8 nq);have sq:Same H8 (upd H8 q (.tup [.int ((0+r:Nat):Int),.int (jj:Int)])):=Same.new nq;have hq9:upd H8 q (.tup [.int ((0+r:Nat):Int),.int (jj:Int)]) q=some (.tup [.int ((0+r:Nat):Int),.int (jj:Int)]):=Zab;generalize upd H8 q (.tup [.int ((0+r:Nat):Int),.int (jj:Int)])=H9 at sq hq9 ⊢;refine⟨_,rfl,_,rfl,pl,vs,(j:Int),j,rfl,rfl,sq _ _ hv8,?_,?_⟩
   ·have:=Zg3 (n:=vs.length) (x:=(j:Int)) (by (clear hqpl hjl hypl hxpl htl hvl hglpl hflpl fsl gll hls hz hle hF hN;omega)) (by (clear hqpl hypl hxpl htl hglpl hflpl fsl gll hls hz hle hF hN;omega))
    rwa [YaS] at this
   refine⟨_,_,_,_,_,vs.set j (.ref q),rfl,Zab,by rw[Yen];exact hvl,fun b o e hb=>?_,fun s f' p' hs hf' hp'=>?_⟩
   ·rw[Zag hb];exact sq _ _ (su _ _ (fr b o e hb))
   ·by_cases est:s=t
    ·subst est;rw[hf] at hf';rw[hp] at hp';cases hf';cases hp';refine⟨q,?_,?_,hqpl⟩
     ·rw[ef];show (vs.set j (.ref q))[(j:Int).toNat]?=_;rw[YaS];exact YcL (by (clear hs htl hqpl hypl hxpl hglpl hflpl fsl gll hls hz hle hF hN;omega))
     ·rw[Zag hqpl,ep];exact hq9
    ·obtain⟨q',g1,g2,g3⟩:=hdone s f' p' (by (clear hqpl hjl hypl hxpl htl hvl hglpl hflpl fsl gll hls hz hle hF hN;omega)) hf' hp';obtain⟨j',l',ef',hj'⟩:=ZeH (lfp.mem_iff.mp (YaO hf'));have hjj:j≠j':=fun zz=>by
      have a1:(lf.map fun f=>f.getD 1 0)[s]?=some (j':Int):=by rw[Yat,hf',ef'];rfl
      have a2:(lf.map fun f=>f.getD 1 0)[t]?=some (j:Int):=by rw[Yat,hf,ef];rfl
      rw[<- zz] at a1;have b1:=Yab.mp a1;have b2:=Yab.mp a2;exact est ((YfD hnd).mp (b1.2.trans b2.2.symm))
     refine⟨q',?_,?_,g3⟩
     ·rw[ef'] at g1 ⊢;have g1:vs[(j':Int).toNat]?=some (.ref q'):=g1;show (vs.set j (.ref q))[(j':Int).toNat]?=_;rw[YaS] at g1 ⊢;rw[YaZ hjj];exact g1
     ·rw[Zag g3];exact sq _ _ (su _ _ g2)
  ·rintro σ H7 ⟨o4,o5,o6,o7,o8,vs,rfl,hv,hvl,fr,hdone⟩;rw[Yaa] at hdone;have s07:Same H H7:=fun b o e=>fr b o (s06 _ _ e) (Zaf e plH);have lfl:lf.length=ls.length:=by rw[lfp.length_eq,ZcK]
   have lpl:lp.length=N.flatten.length:=by rw[lpp.length_eq,Zcc]
   obtain⟨qs,ks,hvq,hM,hin⟩:=ZjK (H:=H7) (N:=N) (vs:=vs) fun j hj=>by
    obtain⟨l,hl⟩:∃ l,ls[j]?=some l:=⟨_,Yad (by (clear lpl lfl hglpl hflpl fsl gll hls hz hle hF hN;omega))⟩
    obtain⟨s,hs⟩:=YcP.mp (lfp.mem_iff.mpr (YaO (Zlh hl)));have hsl:=(Yab.mp hs).1
    obtain⟨p,hp⟩:∃ p,lp[s]?=some p:=⟨_,Yad (by (clear hj hvl hglpl hflpl fsl gll hls hz hF hN;omega))⟩
    obtain⟨q,g1,g2,g3⟩:=hdone s _ p (by (clear hj lpl hvl hglpl hflpl gll hls hz hle hF hN;omega)) hs hp;obtain⟨r,jj,z,xs,ep,hr',hz'⟩:=ZbM (lpp.mem_iff.mp (YaO hp));refine⟨q,[p.getD 1 0,p.getD 2 0],?_,g2,r,jj,xs,by rw[ep,YbV];rfl,hr',(Yab.mp hz').1⟩;have g1:vs[(j:Int).toNat]?=some (.ref q):=g1
    rwa [YaS] at g1
   have ksl:ks.length=ls.length:=by rw[<- hM.len,<- hvl,hvq,Yaa]
   rw[hvq] at hv;refine⟨_,rfl,_,rfl,_,rfl,a,ll,pl,b,rs,qs,N,ls,ks,rfl,s07 _ _ hA,hT.same s07,SqB.sameL s07 hL,hv,hM,hin,ksl.symm,hls,hb1,hb2,fun H8 s8=>?_⟩;refine⟨_,rfl,(by show 2<=sizeLine;decide),fun tt ntt=>?_⟩;have s9:Same H8 (upd H8 tt (.tup [.int (Za6 N ls ks).sum,.ref pl])):=Same.new ntt;have s79:=s8.trans s9;refine k tt pl qs ks lf lp _ ((s07.trans s8).free ntt) Zab plH (s79 _ _ hv) (hM.same s79) hin ⟨ksl,lfp,lfs,lpp,lps,fun t f p hf hp=>?_⟩ (s07.trans s79);have htl:=(Yab.mp hf).1
   obtain⟨q,g1,g2,g3⟩:=hdone t f p (by (clear ksl lpl hvl hglpl hflpl gll hls hz hle hF hN;omega)) hf hp;rw[hvq,Yat] at g1
   cases eq:qs[(f.getD 1 0).toNat]? with
   | none=>rw[eq] at g1;cases g1
   | some q2=>
    rw[eq] at g1;cases g1;obtain⟨kk,h1,h2⟩:=hM.at eq;have e1:=Zfr h2;have e2:=Zfr (k:=[p.getD 1 0,p.getD 2 0]) g2;rw[h1,<- e1,e2]
end
end Fj99
namespace Fj99
open PySem L2 Lv
section
variable {P:Program}{w:World}{K:Yac}{mg:Str->Option Value}{base:Heap}
theorem scTold:FnScope ["p","following","told","numbers"] ["p","following"] (Zad Zf0):=⟨rfl,rfl,rfl,by decide +kernel,rfl,by decide +kernel,by decide +kernel⟩
theorem Zkx {f fA fB fC:Addr}{fd dA dB dC:FuncData}{t4:Tok} (F:Fun K "numbers_told" "numbers_told" Zf0 f fd) (T:Txt mg) (hM:mg "MOST_PLACES"=some (.int 4000 t4)) (CB:Cal P w K mg base 1 "first_numbers" ["p"] ZbO fB dB) (CP:Cal P w K mg base 1 "places_in" ["numbers"] Zbm fC dC) (CA:Cal P w K mg base 1 "next_numbers" ["numbers"] ZcC fA dA):FnOk P w K mg base CX0 2 f fd ["p","following"] (ZfV fA):=by
 refine F.ok scTold (fun vs H Q E h=>?_) (fun cdv A outer s H vs Q E hr h=>?_)
 ·obtain⟨p,rfl,_⟩:=h;rfl
 ·obtain⟨p,rfl,h2,h7,k⟩:=h;refine⟨_,Zai (Zaq (i:=2) scTold.nd rfl (YaI rfl) (ZaM Zac))
   (Zai (Zaq (i:=3) scTold.nd rfl (YaI rfl) (Zam CB hr rfl (Zaa (pv 0) Zac)))
   (Zai (Zdc Ya5 (ZaL Zdv (Zam CP hr rfl (Zaa (pv 3) Zac)) (ZcM rfl hM) (ZaN _))
    (Zai (ZaD (ZeM Ybm YbA Ybz ZaZ (pv 2) (Zaa (pv 3) Zac)))
    (Zan (Zaq (i:=3) scTold.nd rfl (YaI rfl) (ZeL 1 CA hr (Zaa (pv 3) Zac))))))
   (Zan (Zav (pv 2))))),?_⟩
  have hz:5000<sizeLine:=by decide
  refine⟨YaY _,fun l nl=>?_⟩;have x1:upd H l (.lst []) l=some (.lst (([]:List Addr).map V.ref)):=Zab;have u1:Same H (upd H l (.lst [])):=Same.new nl;generalize upd H l (.lst [])=H1 at x1 u1 ⊢;refine⟨_,rfl,p,rfl,h2,h7,fun q qs H2 nq hq hTT s2=>?_⟩;refine⟨fun m σ Hx=>∃ (i:Nat) (as:List Addr) (q:Addr) (qs:List Addr),m=4001 - i/\σ=[some (.int p),some (.ref fA),some (.ref l),some (.ref q)]/\Hx l=some (.lst (as.map V.ref))/\LvsT Hx as (Zb3 p i)/\(∀ j,j<i->(num p j).flatten.length<=4000)/\Hx q=some (.tup (qs.map V.ref))/\TTs Hx qs (num p i)/\Same H Hx,
   ⟨4001,0,[],q,qs,rfl,rfl,s2 _ _ x1,⟨rfl,fun j x N a=>(nomatch a)⟩,fun j hj=>absurd hj (YcG _),hq,hTT,u1.trans s2⟩,?_⟩
  rintro m σ Hx ⟨i,as,q,qs,rfl,rfl,hl,hLv,hall,hq,hTT,sx⟩;have hlen:=ZbE (p:=p) (by (clear hz h7;omega)) i;have hg:=ZfR h2 i;have hfl:=Zbj p i;refine⟨_,rfl,q,qs,num p i,rfl,hq,hTT,by (clear hfl hg hz h2;omega),fun H3 s3=>?_⟩;refine⟨_,_,rfl,rfl,_,rfl,?_⟩;have sx3:=sx.trans s3;refine ite2 (fun hle=>?_) (fun hgt=>?_)
  ·have hle:((num p i).flatten.length:Int)<=4000:=of_decide_eq_true hle;have asl:as.length=i:=by rw[hLv.1,Ze9]
   have hl3:=s3 _ _ hl;refine⟨fun σ' H'=>∃ (i':Nat) (as:List Addr) (q:Addr) (qs:List Addr),i'=i+1/\σ'=[some (.int p),some (.ref fA),some (.ref l),some (.ref q)]/\H' l=some (.lst (as.map V.ref))/\LvsT H' as (Zb3 p i')/\(∀ j,j<i'->(num p j).flatten.length<=4000)/\H' q=some (.tup (qs.map V.ref))/\TTs H' qs (num p i')/\Same H H',fun σ' H' ⟨i',as,q,qs,e,r⟩=>⟨4001 - i',by (clear r asl hlen hz h7 h2;omega),i',as,q,qs,rfl,r⟩,?_⟩;refine⟨_,rfl,.inl ⟨rfl,_,SqL.of hl3⟩,_,rfl,l,_,_,rfl,rfl,hl3,by rw[Yaa];(clear hlen h7 h2;omega),?_⟩;have hq4:upd H3 l (.lst (as.map V.ref++[.ref q])) q=some (.tup (qs.map V.ref)):=by
    rw[Zag fun z=>by have:=s3 _ _ hq;rw[z,hl3] at this;cases this];exact s3 _ _ hq
   have hT4:TTs (upd H3 l (.lst (as.map V.ref++[.ref q]))) qs (num p i):=TTs.lst (hTT.same s3) hl3;have hLv4:=((hLv.same s3).lst (ys:=as.map V.ref++[.ref q]) hl3).snoc hq4 hT4;rw[<- Zhr] at hLv4;have hl4:upd H3 l (.lst (as.map V.ref++[.ref q])) l=some (.lst ((as++[q]).map V.ref)):=by rw[Zab,Yau];rfl
   have sx4:Same H (upd H3 l (.lst (as.map V.ref++[.ref q]))):=sx3.put nl;generalize upd H3 l (.lst (as.map V.ref++[.ref q]))=H4 at hq4 hT4 hLv4 hl4 sx4 ⊢;refine⟨rfl,_,rfl,q,qs,num p i,rfl,hq4,hT4,by (clear asl hle hfl hg hz h7;omega),by (clear asl hle hfl hg hz h2;omega),?_,fun xs hx=>?_,fun l3 qs3 H5 h30 h3 hq3 s5=>?_⟩
   ·obtain⟨x,r,e,hx,_⟩:=ZgS h2 i;rw[e];exact hx
   ·have:=Zlm hx
    (clear asl hg hlen hz h7 h2;omega)
   ·exact⟨i+1,as++[q],l3,qs3,rfl,rfl,s5 _ _ hl4,hLv4.same s5,fun j hj=>by
     by_cases e:j=i
     ·subst e;(clear hj asl hfl hg hlen hz h7 h2;omega)
     ·exact hall j (by (clear asl hle hfl hg hlen hz h7 h2;omega)),h3,hq3,sx4.trans s5⟩
  ·have hgt:¬ ((num p i).flatten.length:Int)<=4000:=fun z=>hgt (decide_eq_true z);exact⟨_,rfl,k l as i H3 nl (s3 _ _ hl) (hLv.same s3) hall (by (clear hfl hg hlen hz h7 h2;omega)) sx3⟩
theorem scBestBy:FnScope ["levels","lengths","best","n","numbers","reading","placing"] ["levels","lengths"] (Zad ZcJ):=⟨rfl,rfl,rfl,by decide +kernel,rfl,by decide +kernel,by decide +kernel⟩
theorem SqB.sameB {b:Bool}{H H':Hp}{a:Addr}{xs:List V} (e:Same H H') (h:SqB b K H a xs):SqB b K H' a xs:=by
 cases b
 ·exact e.tup h
 ·exact e.seq h
theorem SqB.orB {b:Bool}{H:Hp}{a:Addr}{xs:List V} (h:SqB b K H a xs):SqL K H a xs∨SqT K H a xs:=by
 cases b
 ·exact .inr h
 ·exact .inl h
theorem Zec {f f1 f2:Addr}{fd d1 d2:FuncData} (F:Fun K "best_by" "best_by" ZcJ f fd) (T:Txt mg) (Te:mg "enumerate"=none) (CP:Cal P w K mg base 1 "places_in" ["numbers"] Zbm f1 d1) (CL:Cal P w K mg base 2 "least_by" ["numbers","lengths"] (Zdm K) f2 d2):FnOk P w K mg base CX0 3 f fd ["levels","lengths"] (Zci K):=by
 refine F.ok scBestBy (fun vs H Q E h=>?_) (fun cdv A outer s H vs Q E hr h=>?_)
 ·obtain⟨lv,ll,b,as,L,ls,rfl,_⟩:=h;rfl
 ·obtain⟨lv,ll,b,as,L,ls,rfl,hV,hLv,hL,hN,hb1,k⟩:=h;have hr1:Room 1 _:=hr.mono (by decide);refine⟨_,Zai (Zaq (i:=2) scBestBy.nd rfl (YaI rfl) ZgN)
   (Zai (Zbd Ya5 rfl (Zcn rfl Te (Zaa (pv 0) Zac)) (Zdt rfl (Zar (Zaj (i:=3) scBestBy.nd rfl (YaI rfl)) (Zar (Zaj (i:=4) scBestBy.nd rfl (YaI rfl)) ZaO)))
    (Zan (Zfj (ZaL Zks (Zam CP hr1 rfl (Zaa (pv 4) Zac)) (Zak Zap rfl T.len Ya1 (Zaa (pv 1) Zac)) (ZaN _))
     (Zai (Zeb (Zam CL hr rfl (Zaa (pv 4) (Zaa (pv 1) Zac))) (Zdt rfl (Zar (Zaj (i:=5) scBestBy.nd rfl (YaI rfl)) (Zar (Zaj (i:=6) scBestBy.nd rfl (YaI rfl)) ZaO))))
     (Zan (Zfj (PW.pt (Zkd (Zlf (Zll (pv 2))) (ZgI (ZaL Zkr (pv 5) (Zaz Za4 (pv 2) Zae (fun _ _=>rfl)) (ZaN _))))) (Zan (Zaq (i:=2) scBestBy.nd rfl (YaI rfl) (Zbi (Zaa (pv 5) (Zaa (pv 3) (Zaa (pv 6) Zac)))))) ZbC))) ZbC)))
   (Zan (Zav (pv 2)))),?_⟩
  refine⟨_,rfl,lv,true,rfl,⟨_,SqL.of hV⟩,?_⟩;refine Zjn (b:=true) (xs:=as.map V.ref) (fun i σ H2=>∃ (o:Option (Int × Nat)) (v:V) (o3 o4 o5 o6:Option V),σ=[some (.ref lv),some (.ref ll),some v,o3,o4,o5,o6]/\BestOf ls L i o/\BestVP ls L H2 o v/\Same H H2)
   ⟨none,.non,_,_,_,_,rfl,fun j N hj=>absurd hj (YcG _),rfl,Same.refl _⟩ (fun i σ H2 _ ⟨_,_,_,_,_,_,_,_,_,s2⟩=>SqL.of (s2 _ _ hV)) ?_ ?_
  ·rintro i x u σ H2 hx ⟨o,v,o3,o4,o5,o6,rfl,hO,hBv,s2⟩ nu;obtain⟨q,hq,rfl⟩:=ZcV hx;have hi:=(Yab.mp hq).1
   obtain⟨N,hNi⟩:∃ N,L[i]?=some N:=⟨_,Yad (by rw[<- hLv.1];exact hi)⟩
   obtain⟨n7,n9,nb⟩:=hN N (YaO hNi);obtain⟨rs,hqa,hTT⟩:=hLv.2 i q N hq hNi;have su:Same H2 (upd H2 u (.tup [.int i,.ref q])):=Same.new nu;have hu3:upd H2 u (.tup [.int i,.ref q]) u=some (.tup [.int i,.ref q]):=Zab;generalize upd H2 u (.tup [.int i,.ref q])=H3 at su hu3 ⊢;have s3:=s2.trans su;refine⟨u,_,rfl,SqT.of hu3,rfl,_,_,rfl,_,_,rfl,rfl,?_⟩;refine⟨_,rfl,q,rs,N,rfl,s3 _ _ hqa,hTT.same s3,n7,fun H4 s4=>?_⟩;have s04:=s3.trans s4;have hBv4:=hBv.same (su.trans s4);refine⟨_,rfl,ll,_,rfl,SqB.orB (SqB.sameB s04 hL),_,_,rfl,rfl,_,rfl,?_⟩;rw[Yaa];refine ite2 (fun hf=>?_) (fun hf=>?_)
   ·have hf:(ls.length:Int)<=(N.flatten.length:Int):=of_decide_eq_true hf;have hfit:Fit ls N:=by unfold Fit;(clear n9 n7 hi;omega)
    refine⟨_,rfl,_,rfl,q,ll,b,rs,N,ls,rfl,s04 _ _ hqa,hTT.same s04,n7,n9,SqB.sameB s04 hL,hfit,hb1,nb,fun t pl qs ks lf lp H5 nt ht npl hpl hM hin hst s5=>?_⟩;have s05:=s04.trans s5;have hBv5:=hBv4.same s5;have hrd:ZdL ls N (Za6 N ls ks).sum:=⟨ks,lf,lp,hst,hin,rfl⟩
    generalize hR:(Za6 N ls ks).sum=R at ht hrd;refine⟨t,_,rfl,SqT.of ht,rfl,_,_,rfl,_,_,rfl,rfl,?_⟩
    match o,hO,hBv5 with
    | none,hO,hBv5=>
     have hv:v=.non:=hBv5;subst hv;refine⟨_,rfl,true,rfl,iteT ?_⟩;refine iteT ⟨_,rfl,_,rfl,_,rfl,(by show 3<=sizeLine;decide),fun bt nbt=>?_⟩;exact⟨some (R,i),.ref bt,_,_,_,_,rfl,hO.first hNi hfit hrd,⟨bt,pl,qs,N,ks,lf,lp,rfl,Zab,(Same.new nbt) _ _ hpl,hM.same (Same.new nbt),hNi,hst,hin,hfit,hR.symm⟩,s05.trans (Same.new nbt)⟩
    | some (R',n),hO,⟨bt0,pl0,qs0,N0,ks0,lf0,lp0,hv,hbt0,hrest⟩=>
     subst hv;refine⟨_,rfl,false,rfl,iteF ?_⟩;refine⟨_,rfl,_,rfl,bt0,_,0,.int R',rfl,rfl,SqT.of hbt0,rfl,R,R',rfl,rfl,_,rfl,?_⟩;refine ite2 (fun hlt=>?_) (fun hge=>?_)
     ·have hlt:R<R':=of_decide_eq_true hlt;refine⟨_,rfl,_,rfl,_,rfl,(by show 3<=sizeLine;decide),fun bt nbt=>?_⟩;exact⟨some (R,i),.ref bt,_,_,_,_,rfl,hO.better hNi hfit hrd hlt,⟨bt,pl,qs,N,ks,lf,lp,rfl,Zab,(Same.new nbt) _ _ hpl,hM.same (Same.new nbt),hNi,hst,hin,hfit,hR.symm⟩,s05.trans (Same.new nbt)⟩
     ·have hge:¬ R<R':=fun z=>hge (decide_eq_true z);exact⟨some (R',n),.ref bt0,_,_,_,_,rfl,hO.worse hNi hfit hrd hge,⟨bt0,pl0,qs0,N0,ks0,lf0,lp0,rfl,hbt0,hrest⟩,s05⟩
   ·have hf:¬ (ls.length:Int)<=(N.flatten.length:Int):=fun z=>hf (decide_eq_true z);exact⟨o,v,_,_,_,_,rfl,hO.skip hNi (fun z=>hf (by unfold Fit at z;(clear hf n9 n7 hi;omega))),hBv4,s04⟩
  ·rintro σ H2 ⟨o,v,o3,o4,o5,o6,rfl,hO,hBv,s2⟩;rw[Yaa,hLv.1] at hO;exact⟨_,rfl,k o v H2 hO hBv s2⟩
theorem ZnQ:FnScope ["p","lengths"] ["p","lengths"] (Zad sBPl):=⟨rfl,rfl,rfl,by decide +kernel,rfl,by decide +kernel,by decide +kernel⟩
theorem Znc {f f1 f2 f3 f4:Addr}{fd d1 d2 d3 d4:FuncData} (F:Fun K "best_placing" "best_placing" sBPl f fd) (T:Txt mg) (CW:Cal P w K mg base 2 "check_ways" ["p"] Zcf f1 d1) (CN:Cal P w K mg base 1 "next_numbers" ["numbers"] ZcC f2 d2) (CT:Cal P w K mg base 2 "numbers_told" ["p","following"] (ZfV f2) f3 d3) (CB:Cal P w K mg base 3 "best_by" ["levels","lengths"] (Zci K) f4 d4):FnOk P w K mg base CX0 4 f fd ["p","lengths"] (ZlF K):=by
 refine F.ok ZnQ (fun vs H Q E h=>?_) (fun cdv A outer s H vs Q E hr h=>?_)
 ·obtain⟨p,ll,b,ls,rfl,_⟩:=h;rfl
 ·obtain⟨p,ll,b,ls,rfl,h2,h7,hL,hl5,hb,k⟩:=h;have hr2:Room 2 _:=hr.mono (by decide);have hr3:Room 3 _:=hr.mono (by decide);refine⟨_,(Zai (ZaD (Zam CW hr2 rfl (Zaa (pv 0) Zac)))
   (Zan (Zav (Zam CB hr3 rfl (Zaa (Zam CT hr2 rfl (Zaa (pv 0) (Zaa (Zc2 CN rfl) Zac))) (Zaa (pv 1) Zac)))))),?_⟩
  refine⟨_,rfl,p,rfl,by (clear hl5 h7;omega),by (clear hl5 h2;omega),?_⟩;refine⟨_,rfl,p,rfl,h2,h7,fun l as m H1 nl hl hLv hall hmore s1=>?_⟩;obtain⟨hm1,hm5⟩:=Zhp h2 h7 hmore;have hm9:∀ i,i<m->tot p i<=4000:=fun i hi=>by
   have:=hall i hi;have:=Zbj p i
   (clear hi hm5 hm1 hmore hl5 h7 h2;omega)
  have hN:∀ N∈Zb3 p m,N.length<=7/\N.flatten.length<=100000/\∀ xs∈N,∀ z∈xs,YaT z<=8000:=fun N hm=>by
   unfold Zb3 at hm;obtain⟨i,hi,rfl⟩:=YaK.mp hm;have hi:=Ya8.mp hi;have ht:=hall i hi;have hg:=ZfR h2 i;have hfl:=Zbj p i;refine⟨by rw[ZbE (by (clear hfl hg ht hi hm5 hm1 hmore hl5 h7;omega))];exact h7,by (clear hfl hg hi hm5 hm1 hmore hl5 h7 h2;omega),fun xs hx z hz=>?_⟩;have h8:((p:Int))*i<=7*i:=YaE (by (clear hfl hg ht hi hm5 hm1 hmore hl5 h2;omega)) (by (clear hfl hg ht hi hm5 hm1 hmore hl5 h7 h2;omega));have:=ZdI p i xs hx z hz;exact ZaX (by (clear h8 hfl hg ht hi hm5 hm1 hmore hl5 h7 h2;omega)) (by (clear h8 hi hm5 hm1 hmore hl5 h7 h2;omega))
  refine⟨_,rfl,l,ll,b,as,Zb3 p m,ls,rfl,hl,hLv,SqB.sameJ s1 hL,hN,hb,fun o v H2 hO hV s2=>?_⟩;rw[Ze9] at hO
  match o,hO,hV with
  | none,hO,hV=>
   exfalso;exact hO (m - 1) _ (by (clear hm5 hmore hl5 h7 h2;omega)) (Zfa (by (clear hm5 hmore hl5 h7 h2;omega))) (by unfold Fit;(clear hm1 hmore h7 h2;omega))
  | some (R,n),hO,⟨t,pl,qs,N,ks,lf,lp,hv,ht,hpl,hM,hNn,hst,hin,hfit,hR⟩=>
   subst hv;have hn:n<m:=hO.1;rw[Zfa hn] at hNn;cases hNn;subst hR;have:=Zbj p m;exact k t pl qs ks lf lp n m H2 (.inr trivial) ht hpl hM hst hin hfit (hm9 n hn) hn hO hm9 (by (clear hn hm5 hm1 hl5 h7 h2;omega)) (s1.trans s2)
end
end Fj99
namespace Fj99
open PySem L2 Lv
section
variable {P:Program}{w:World}{K:Yac}{mg:Str->Option Value}{base:Heap}
theorem Zl4 {f fA fB fC:Addr}{fd dA dB dC:FuncData}{t4:Tok} (F:Fun K "numbers_told" "numbers_told" Zf0 f fd) (T:Txt mg) (hM:mg "MOST_PLACES"=some (.int 4000 t4)) (CB:Cal P w K mg base 1 "first_numbers" ["p"] ZbO fB dB) (CP:Cal P w K mg base 1 "places_in" ["numbers"] Zbm fC dC) (CA:Cal P w K mg base 1 "next_cascade_numbers" ["numbers"] ZbN fA dA):FnOk P w K mg base CX0 2 f fd ["p","following"] (ZfU fA):=by
 refine F.ok scTold (fun vs H Q E h=>?_) (fun cdv A outer s H vs Q E hr h=>?_)
 ·obtain⟨p,rfl,_⟩:=h;rfl
 ·obtain⟨p,rfl,h2,h7,k⟩:=h;refine⟨_,Zai (Zaq (i:=2) scTold.nd rfl (YaI rfl) (ZaM Zac))
   (Zai (Zaq (i:=3) scTold.nd rfl (YaI rfl) (Zam CB hr rfl (Zaa (pv 0) Zac)))
   (Zai (Zdc Ya5 (ZaL Zdv (Zam CP hr rfl (Zaa (pv 3) Zac)) (ZcM rfl hM) (ZaN _))
    (Zai (ZaD (ZeM Ybm YbA Ybz ZaZ (pv 2) (Zaa (pv 3) Zac)))
    (Zan (Zaq (i:=3) scTold.nd rfl (YaI rfl) (ZeL 1 CA hr (Zaa (pv 3) Zac))))))
   (Zan (Zav (pv 2))))),?_⟩
  have hz:5000<sizeLine:=by decide
  refine⟨YaY _,fun l nl=>?_⟩;have x1:upd H l (.lst []) l=some (.lst (([]:List Addr).map V.ref)):=Zab;have u1:Same H (upd H l (.lst [])):=Same.new nl;generalize upd H l (.lst [])=H1 at x1 u1 ⊢;refine⟨_,rfl,p,rfl,h2,h7,fun q qs H2 nq hq hTT s2=>?_⟩;refine⟨fun m σ Hx=>∃ (i:Nat) (as:List Addr) (q:Addr) (qs:List Addr),m=4001 - i/\σ=[some (.int p),some (.ref fA),some (.ref l),some (.ref q)]/\Hx l=some (.lst (as.map V.ref))/\LvsT Hx as (Zb2 p i)/\(∀ j,j<i->(casN p j).flatten.length<=4000)/\Hx q=some (.tup (qs.map V.ref))/\TTs Hx qs (casN p i)/\Same H Hx,
   ⟨4001,0,[],q,qs,rfl,rfl,s2 _ _ x1,⟨rfl,fun j x N a=>(nomatch a)⟩,fun j hj=>absurd hj (YcG _),hq,hTT,u1.trans s2⟩,?_⟩
  rintro m σ Hx ⟨i,as,q,qs,rfl,rfl,hl,hLv,hall,hq,hTT,sx⟩;have hlen:=Zbw (p:=p) (by (clear hz h7;omega)) i;have hg:=(ZbW h2 i).2
  have hfl:=Zcv (casN p i);rw[Za9 (by (clear hfl hg hlen hz h7;omega))] at hfl;refine⟨_,rfl,q,qs,casN p i,rfl,hq,hTT,by (clear hfl hg hz h2;omega),fun H3 s3=>?_⟩;refine⟨_,_,rfl,rfl,_,rfl,?_⟩;have sx3:=sx.trans s3;refine ite2 (fun hle=>?_) (fun hgt=>?_)
  ·have hle:((casN p i).flatten.length:Int)<=4000:=of_decide_eq_true hle;have asl:as.length=i:=by rw[hLv.1,Ze8]
   have hl3:=s3 _ _ hl;refine⟨fun σ' H'=>∃ (i':Nat) (as:List Addr) (q:Addr) (qs:List Addr),i'=i+1/\σ'=[some (.int p),some (.ref fA),some (.ref l),some (.ref q)]/\H' l=some (.lst (as.map V.ref))/\LvsT H' as (Zb2 p i')/\(∀ j,j<i'->(casN p j).flatten.length<=4000)/\H' q=some (.tup (qs.map V.ref))/\TTs H' qs (casN p i')/\Same H H',fun σ' H' ⟨i',as,q,qs,e,r⟩=>⟨4001 - i',by (clear r asl hlen hz h7 h2;omega),i',as,q,qs,rfl,r⟩,?_⟩;refine⟨_,rfl,.inl ⟨rfl,_,SqL.of hl3⟩,_,rfl,l,_,_,rfl,rfl,hl3,by rw[Yaa];(clear hlen h7 h2;omega),?_⟩;have hq4:upd H3 l (.lst (as.map V.ref++[.ref q])) q=some (.tup (qs.map V.ref)):=by
    rw[Zag fun z=>by have:=s3 _ _ hq;rw[z,hl3] at this;cases this];exact s3 _ _ hq
   have hT4:TTs (upd H3 l (.lst (as.map V.ref++[.ref q]))) qs (casN p i):=TTs.lst (hTT.same s3) hl3;have hLv4:=((hLv.same s3).lst (ys:=as.map V.ref++[.ref q]) hl3).snoc hq4 hT4;rw[<- Zhq] at hLv4;have hl4:upd H3 l (.lst (as.map V.ref++[.ref q])) l=some (.lst ((as++[q]).map V.ref)):=by rw[Zab,Yau];rfl
   have sx4:Same H (upd H3 l (.lst (as.map V.ref++[.ref q]))):=sx3.put nl;generalize upd H3 l (.lst (as.map V.ref++[.ref q]))=H4 at hq4 hT4 hLv4 hl4 sx4 ⊢;refine⟨rfl,_,rfl,q,qs,casN p i,rfl,hq4,hT4,by (clear asl hle hfl hg hz h7;omega),by (clear asl hle hfl hg hz h2;omega),?_,fun l3 qs3 H5 h30 h3 hq3 s5=>?_⟩
   ·rw[Za9 (by (clear asl hle hfl hg hlen hz h7;omega))];(clear asl hg hlen hz h7 h2;omega)
   ·exact⟨i+1,as++[q],l3,qs3,rfl,rfl,s5 _ _ hl4,hLv4.same s5,fun j hj=>by
     by_cases e:j=i
     ·subst e;(clear hj asl hfl hg hlen hz h7 h2;omega)
     ·exact hall j (by (clear asl hle hfl hg hlen hz h7 h2;omega)),h3,hq3,sx4.trans s5⟩
  ·have hgt:¬ ((casN p i).flatten.length:Int)<=4000:=fun z=>hgt (decide_eq_true z);exact⟨_,rfl,k l as i H3 nl (s3 _ _ hl) (hLv.same s3) hall (by (clear hfl hg hlen hz h7 h2;omega)) sx3⟩
theorem ZlL:FnScope ["p","lengths"] ["p","lengths"] (Zad Zd4):=⟨rfl,rfl,rfl,by decide +kernel,rfl,by decide +kernel,by decide +kernel⟩
theorem SqB.sameC {b:Bool}{H H':Hp}{a:Addr}{xs:List V} (e:Same H H') (h:SqB b K H a xs):SqB b K H' a xs:=by
 cases b
 ·exact e.tup h
 ·exact e.seq h
theorem ZkC {f f1 f2 f3 f4:Addr}{fd d1 d2 d3 d4:FuncData} (F:Fun K "long_cascade" "long_cascade" Zd4 f fd) (T:Txt mg) (CW:Cal P w K mg base 2 "check_ways" ["p"] Zcf f1 d1) (CN:Cal P w K mg base 1 "next_cascade_numbers" ["numbers"] ZbN f2 d2) (CT:Cal P w K mg base 2 "numbers_told" ["p","following"] (ZfU f2) f3 d3) (CB:Cal P w K mg base 3 "best_by" ["levels","lengths"] (ZeA K) f4 d4):FnOk P w K mg base CX0 4 f fd ["p","lengths"] (ZfX K):=by
 refine F.ok ZlL (fun vs H Q E h=>?_) (fun cdv A outer s H vs Q E hr h=>?_)
 ·obtain⟨p,ll,b,ls,rfl,_⟩:=h;rfl
 ·obtain⟨p,ll,b,ls,rfl,h2,h7,hL,hl5,hb,k⟩:=h;have hr2:Room 2 _:=hr.mono (by decide);refine⟨_,Zai (ZaD (Zam CW hr2 rfl (Zaa (pv 0) Zac)))
   (Zan (Zav (Za7 Zgz (Zam CB hr rfl (Zaa (Zam CT hr2 rfl (Zaa (pv 0) (Zaa (Zc2 CN rfl) Zac))) (Zaa (pv 1) Zac))) ZbD (Za3 Zae)))),?_⟩
  refine⟨_,rfl,p,rfl,by (clear hl5 h7;omega),by (clear hl5 h2;omega),?_⟩;refine⟨_,rfl,p,rfl,h2,h7,fun l as m H1 nl hl hLv hall hmore s1=>?_⟩;obtain⟨hm1,hm5⟩:=Zh5 h2 h7 hmore;have hN:∀ N∈Zb2 p m,N.length<=7/\N.flatten.length<=100000/\∀ xs∈N,∀ z∈xs,YaT z<=8000:=fun N hm=>by
   unfold Zb2 at hm;obtain⟨i,hi,rfl⟩:=YaK.mp hm;have hi:=Ya8.mp hi;have ht:=hall i hi;have hg:=(ZbW h2 i).2
   have hfl:=Zcv (casN p i);rw[Za9 (by (clear hfl hg ht hi hm5 hm1 hmore hl5 h7;omega))] at hfl;refine⟨by rw[Zbw (by (clear hfl hg ht hi hm5 hm1 hmore hl5 h7;omega))];exact h7,by (clear hfl hg hi hm5 hm1 hmore hl5 h7 h2;omega),fun xs hx z hz=>?_⟩;have:=Zba i xs z hx hz;exact ZaX (by (clear hfl hg ht hi hm5 hm1 hmore hl5 h7 h2;omega)) (by (clear hi hm5 hm1 hmore hl5 h7 h2;omega))
  refine⟨_,rfl,l,ll,b,as,Zb2 p m,ls,rfl,hl,hLv,SqB.sameC s1 hL,hN,hb,fun o v H2 hO hV s2=>?_⟩;rw[Ze8] at hO
  match o,hO,hV with
  | none,hO,hV=>
   exfalso;have e:(Zb2 p m)[m - 1]?=some (casN p (m - 1)):=by unfold Zb2;rw[Yat,Yc3 (by (clear hm5 hmore hl5 h7 h2;omega))];rfl
   exact hO (m - 1) _ (by (clear hm5 hmore hl5 h7 h2;omega)) e (by unfold Fit;(clear hm1 hmore h7 h2;omega))
  | some (R,n),hO,⟨t,pl,hv,ht⟩=>
   subst hv;refine⟨2,rfl,t,_,rfl,SqT.of ht,(by show ¬ (HT.sIx 3 0 none=0/\HT.sIx 3 3 (some 2)=3);decide),fun t2 nt2=>?_⟩;exact k t2 R n m _ ((s1.trans s2).free nt2) Zab hO hall hmore ((s1.trans s2).trans (Same.new nt2))
end
end Fj99
namespace Fj99
open PySem L2 Lv
theorem len1 {P:List Value->Prop} (us:List Value) (hl:us.length=1) (h:∀ a0:Value,P [a0]):P us:=by
 match us,hl with
 | [a0],_=>exact h a0
theorem len2 {P:List Value->Prop} (us:List Value) (hl:us.length=2) (h:∀ a0 a1:Value,P [a0,a1]):P us:=by
 match us,hl with
 | [a0,a1],_=>exact h a0 a1
theorem len3 {P:List Value->Prop} (us:List Value) (hl:us.length=3) (h:∀ a0 a1 a2:Value,P [a0,a1,a2]):P us:=by
 match us,hl with
 | [a0,a1,a2],_=>exact h a0 a1 a2
theorem len4 {P:List Value->Prop} (us:List Value) (hl:us.length=4) (h:∀ a0 a1 a2 a3:Value,P [a0,a1,a2,a3]):P us:=by
 match us,hl with
 | [a0,a1,a2,a3],_=>exact h a0 a1 a2 a3
theorem len5 {P:List Value->Prop} (us:List Value) (hl:us.length=5) (h:∀ a0 a1 a2 a3 a4:Value,P [a0,a1,a2,a3,a4]):P us:=by
 match us,hl with
 | [a0,a1,a2,a3,a4],_=>exact h a0 a1 a2 a3 a4
theorem all_mk {l:YdZ}{w:World}{K:Yac}{h:Heap}{mg:Str->Option Value}{fa f0 f1 f2 f3 f4 f5 f6 f7 f8 f9 f10 f11 f12 f13 f14 f15 f16 f17 f18 f19 f20 f21 f22 f23 f24 f25 f26 f27 f28 f29 f30 f31 f32 f33 f34 f35 f36 f37 f38 f39:Addr}{tk0 tk1 tk2 tk3 tk4:Tok} (X:K.In h) (G:h.Ns mainGlobals mg) (hfa:mg "law"=some (.ref fa))
  {od0 an0 od1 an1 od2 an2 od3 an3 od4 an4 od5 an5 od6 an6 od7 an7 od8 an8 od9 an9 od10 an10 od11 an11 od12 an12 od13 an13 od14 an14 od15 an15 od16 an16 od17 an17 od18 an18 od19 an19 od20 an20 od21 an21 od22 an22 od23 an23 od24 an24 od25 an25 od26 an26 od27 an27 od28 an28 od29 an29 od30 an30 od31 an31 od32 an32 od33 an33 od34 an34 od35 an35 od36 an36 od37 an37 od38 an38 od39 an39:Option Addr}{sl0 sl1 sl2 sl3 sl4 sl5 sl6 sl7 sl8 sl9 sl10 sl11 sl12 sl13 sl14 sl15 sl16 sl17 sl18 sl19 sl20 sl21 sl22 sl23 sl24 sl25 sl26 sl27 sl28 sl29 sl30 sl31 sl32 sl33 sl34 sl35 sl36 sl37 sl38 sl39:Array (Option Value)}{oc0 kV0 dc0 pm0 cd0 ct0 oc1 kV1 dc1 pm1 cd1 ct1 oc2 kV2 dc2 pm2 cd2 ct2 oc3 kV3 dc3 pm3 cd3 ct3 oc4 kV4 dc4 pm4 cd4 ct4 oc5 kV5 dc5 pm5 cd5 ct5 oc6 kV6 dc6 pm6 cd6 ct6 oc7 kV7 dc7 pm7 cd7 ct7 oc8 kV8 dc8 pm8 cd8 ct8 oc9 kV9 dc9 pm9 cd9 ct9 oc10 kV10 dc10 pm10 cd10 ct10 oc11 kV11 dc11 pm11 cd11 ct11 oc12 kV12 dc12 pm12 cd12 ct12 oc13 kV13 dc13 pm13 cd13 ct13 oc14 kV14 dc14 pm14 cd14 ct14 oc15 kV15 dc15 pm15 cd15 ct15 oc16 kV16 dc16 pm16 cd16 ct16 oc17 kV17 dc17 pm17 cd17 ct17 oc18 kV18 dc18 pm18 cd18 ct18 oc19 kV19 dc19 pm19 cd19 ct19 oc20 kV20 dc20 pm20 cd20 ct20 oc21 kV21 dc21 pm21 cd21 ct21 oc22 kV22 dc22 pm22 cd22 ct22 oc23 kV23 dc23 pm23 cd23 ct23 oc24 kV24 dc24 pm24 cd24 ct24 oc25 kV25 dc25 pm25 cd25 ct25 oc26 kV26 dc26 pm26 cd26 ct26 oc27 kV27 dc27 pm27 cd27 ct27 oc28 kV28 dc28 pm28 cd28 ct28 oc29 kV29 dc29 pm29 cd29 ct29 oc30 kV30 dc30 pm30 cd30 ct30 oc31 kV31 dc31 pm31 cd31 ct31 oc32 kV32 dc32 pm32 cd32 ct32 oc33 kV33 dc33 pm33 cd33 ct33 oc34 kV34 dc34 pm34 cd34 ct34 oc35 kV35 dc35 pm35 cd35 ct35 oc36 kV36 dc36 pm36 cd36 ct36 oc37 kV37 dc37 pm37 cd37 ct37 oc38 kV38 dc38 pm38 cd38 ct38 oc39 kV39 dc39 pm39 cd39 ct39:Value}
  {da2:Addr}{doc2:Value}{dod2:Option Addr}{dn2:Nat}{dsl2:Array (Option Value)}{dt2_0:Tok}
  (a0:Yar K mainGlobals "is_whole"=some (some (.ref f0))) (l0:K.lookup f0=some ⟨oc0,od0,.func (YaA "is_whole" "is_whole" (Zao ZdZ) (Zal ZdZ) (Zad ZdZ) .none kV0 dc0 pm0 an0 cd0 ct0),sl0⟩) (c0:Yax K cd0 "is_whole"=true) (k0:Yaq K (.ref f0)=true)
  (a1:Yar K mainGlobals "check_ways"=some (some (.ref f1))) (l1:K.lookup f1=some ⟨oc1,od1,.func (YaA "check_ways" "check_ways" (Zao Zhz) (Zal Zhz) (Zad Zhz) .none kV1 dc1 pm1 an1 cd1 ct1),sl1⟩) (c1:Yax K cd1 "check_ways"=true) (k1:Yaq K (.ref f1)=true)
  (a2:Yar K mainGlobals "check_level"=some (some (.ref f2))) (l2:K.lookup f2=some ⟨oc2,od2,.func (YaA "check_level" "check_level" (Zao Zd5) (Zal Zd5) (Zad Zd5) (.ref da2) kV2 dc2 pm2 an2 cd2 ct2),sl2⟩) (c2:Yax K cd2 "check_level"=true) (k2:Yaq K (.ref f2)=true)
  (d2:K.lookup da2=some ⟨doc2,dod2,.seq #[.int 300 dt2_0] dn2,dsl2⟩)
  (a3:Yar K mainGlobals "first_counts"=some (some (.ref f3))) (l3:K.lookup f3=some ⟨oc3,od3,.func (YaA "first_counts" "first_counts" (Zao Zd6) (Zal Zd6) (Zad Zd6) .none kV3 dc3 pm3 an3 cd3 ct3),sl3⟩) (c3:Yax K cd3 "first_counts"=true) (k3:Yaq K (.ref f3)=true)
  (a4:Yar K mainGlobals "next_counts"=some (some (.ref f4))) (l4:K.lookup f4=some ⟨oc4,od4,.func (YaA "next_counts" "next_counts" (Zao Zf1) (Zal Zf1) (Zad Zf1) .none kV4 dc4 pm4 an4 cd4 ct4),sl4⟩) (c4:Yax K cd4 "next_counts"=true) (k4:Yaq K (.ref f4)=true)
  (a5:Yar K mainGlobals "level_counts"=some (some (.ref f5))) (l5:K.lookup f5=some ⟨oc5,od5,.func (YaA "level_counts" "level_counts" (Zao ZcH) (Zal ZcH) (Zad ZcH) .none kV5 dc5 pm5 an5 cd5 ct5),sl5⟩) (c5:Yax K cd5 "level_counts"=true) (k5:Yaq K (.ref f5)=true)
  (a6:Yar K mainGlobals "level_total"=some (some (.ref f6))) (l6:K.lookup f6=some ⟨oc6,od6,.func (YaA "level_total" "level_total" (Zao Zd0) (Zal Zd0) (Zad Zd0) .none kV6 dc6 pm6 an6 cd6 ct6),sl6⟩) (c6:Yax K cd6 "level_total"=true) (k6:Yaq K (.ref f6)=true)
  (a7:Yar K mainGlobals "check_total"=some (some (.ref f7))) (l7:K.lookup f7=some ⟨oc7,od7,.func (YaA "check_total" "check_total" (Zao sTot) (Zal sTot) (Zad sTot) .none kV7 dc7 pm7 an7 cd7 ct7),sl7⟩) (c7:Yax K cd7 "check_total"=true) (k7:Yaq K (.ref f7)=true)
  (a8:Yar K mainGlobals "check_places"=some (some (.ref f8))) (l8:K.lookup f8=some ⟨oc8,od8,.func (YaA "check_places" "check_places" (Zao ZcD) (Zal ZcD) (Zad ZcD) .none kV8 dc8 pm8 an8 cd8 ct8),sl8⟩) (c8:Yax K cd8 "check_places"=true) (k8:Yaq K (.ref f8)=true)
  (a9:Yar K mainGlobals "first_numbers"=some (some (.ref f9))) (l9:K.lookup f9=some ⟨oc9,od9,.func (YaA "first_numbers" "first_numbers" (Zao ZcG) (Zal ZcG) (Zad ZcG) .none kV9 dc9 pm9 an9 cd9 ct9),sl9⟩) (c9:Yax K cd9 "first_numbers"=true) (k9:Yaq K (.ref f9)=true)
  (a10:Yar K mainGlobals "next_numbers"=some (some (.ref f10))) (l10:K.lookup f10=some ⟨oc10,od10,.func (YaA "next_numbers" "next_numbers" (Zao ZcY) (Zal ZcY) (Zad ZcY) .none kV10 dc10 pm10 an10 cd10 ct10),sl10⟩) (c10:Yax K cd10 "next_numbers"=true) (k10:Yaq K (.ref f10)=true)
  (a11:Yar K mainGlobals "next_cascade_numbers"=some (some (.ref f11))) (l11:K.lookup f11=some ⟨oc11,od11,.func (YaA "next_cascade_numbers" "next_cascade_numbers" (Zao ZcE) (Zal ZcE) (Zad ZcE) .none kV11 dc11 pm11 an11 cd11 ct11),sl11⟩) (c11:Yax K cd11 "next_cascade_numbers"=true) (k11:Yaq K (.ref f11)=true)
  (a12:Yar K mainGlobals "numbers_after"=some (some (.ref f12))) (l12:K.lookup f12=some ⟨oc12,od12,.func (YaA "numbers_after" "numbers_after" (Zao ZcZ) (Zal ZcZ) (Zad ZcZ) .none kV12 dc12 pm12 an12 cd12 ct12),sl12⟩) (c12:Yax K cd12 "numbers_after"=true) (k12:Yaq K (.ref f12)=true)
  (a13:Yar K mainGlobals "numbers_of"=some (some (.ref f13))) (l13:K.lookup f13=some ⟨oc13,od13,.func (YaA "numbers_of" "numbers_of" (Zao Zd2) (Zal Zd2) (Zad Zd2) .none kV13 dc13 pm13 an13 cd13 ct13),sl13⟩) (c13:Yax K cd13 "numbers_of"=true) (k13:Yaq K (.ref f13)=true)
  (a14:Yar K mainGlobals "places_in"=some (some (.ref f14))) (l14:K.lookup f14=some ⟨oc14,od14,.func (YaA "places_in" "places_in" (Zao Zbn) (Zal Zbn) (Zad Zbn) .none kV14 dc14 pm14 an14 cd14 ct14),sl14⟩) (c14:Yax K cd14 "places_in"=true) (k14:Yaq K (.ref f14)=true)
  (a15:Yar K mainGlobals "numbers_told"=some (some (.ref f15))) (l15:K.lookup f15=some ⟨oc15,od15,.func (YaA "numbers_told" "numbers_told" (Zao Zf0) (Zal Zf0) (Zad Zf0) .none kV15 dc15 pm15 an15 cd15 ct15),sl15⟩) (c15:Yax K cd15 "numbers_told"=true) (k15:Yaq K (.ref f15)=true)
  (a16:Yar K mainGlobals "level_numbers"=some (some (.ref f16))) (l16:K.lookup f16=some ⟨oc16,od16,.func (YaA "level_numbers" "level_numbers" (Zao sLN) (Zal sLN) (Zad sLN) .none kV16 dc16 pm16 an16 cd16 ct16),sl16⟩) (c16:Yax K cd16 "level_numbers"=true) (k16:Yaq K (.ref f16)=true)
  (a17:Yar K mainGlobals "least_places"=some (some (.ref f17))) (l17:K.lookup f17=some ⟨oc17,od17,.func (YaA "least_places" "least_places" (Zao ZcF) (Zal ZcF) (Zad ZcF) .none kV17 dc17 pm17 an17 cd17 ct17),sl17⟩) (c17:Yax K cd17 "least_places"=true) (k17:Yaq K (.ref f17)=true)
  (a18:Yar K mainGlobals "reading_by"=some (some (.ref f18))) (l18:K.lookup f18=some ⟨oc18,od18,.func (YaA "reading_by" "reading_by" (Zao Zb4) (Zal Zb4) (Zad Zb4) .none kV18 dc18 pm18 an18 cd18 ct18),sl18⟩) (c18:Yax K cd18 "reading_by"=true) (k18:Yaq K (.ref f18)=true)
  (a19:Yar K mainGlobals "least_by"=some (some (.ref f19))) (l19:K.lookup f19=some ⟨oc19,od19,.func (YaA "least_by" "least_by" (Zao ZbP) (Zal ZbP) (Zad ZbP) .none kV19 dc19 pm19 an19 cd19 ct19),sl19⟩) (c19:Yax K cd19 "least_by"=true) (k19:Yaq K (.ref f19)=true)
  (a20:Yar K mainGlobals "best_by"=some (some (.ref f20))) (l20:K.lookup f20=some ⟨oc20,od20,.func (YaA "best_by" "best_by" (Zao ZcJ) (Zal ZcJ) (Zad ZcJ) .none kV20 dc20 pm20 an20 cd20 ct20),sl20⟩) (c20:Yax K cd20 "best_by"=true) (k20:Yaq K (.ref f20)=true)
  (a21:Yar K mainGlobals "best_placing"=some (some (.ref f21))) (l21:K.lookup f21=some ⟨oc21,od21,.func (YaA "best_placing" "best_placing" (Zao sBPl) (Zal sBPl) (Zad sBPl) .none kV21 dc21 pm21 an21 cd21 ct21),sl21⟩) (c21:Yax K cd21 "best_placing"=true) (k21:Yaq K (.ref f21)=true)
  (a22:Yar K mainGlobals "next_cascade_counts"=some (some (.ref f22))) (l22:K.lookup f22=some ⟨oc22,od22,.func (YaA "next_cascade_counts" "next_cascade_counts" (Zao Zd3) (Zal Zd3) (Zad Zd3) .none kV22 dc22 pm22 an22 cd22 ct22),sl22⟩) (c22:Yax K cd22 "next_cascade_counts"=true) (k22:Yaq K (.ref f22)=true)
  (a23:Yar K mainGlobals "check_cascade"=some (some (.ref f23))) (l23:K.lookup f23=some ⟨oc23,od23,.func (YaA "check_cascade" "check_cascade" (Zao sChk) (Zal sChk) (Zad sChk) .none kV23 dc23 pm23 an23 cd23 ct23),sl23⟩) (c23:Yax K cd23 "check_cascade"=true) (k23:Yaq K (.ref f23)=true)
  (a24:Yar K mainGlobals "cascade_counts"=some (some (.ref f24))) (l24:K.lookup f24=some ⟨oc24,od24,.func (YaA "cascade_counts" "cascade_counts" (Zao ZhC) (Zal ZhC) (Zad ZhC) .none kV24 dc24 pm24 an24 cd24 ct24),sl24⟩) (c24:Yax K cd24 "cascade_counts"=true) (k24:Yaq K (.ref f24)=true)
  (a25:Yar K mainGlobals "cascade_numbers"=some (some (.ref f25))) (l25:K.lookup f25=some ⟨oc25,od25,.func (YaA "cascade_numbers" "cascade_numbers" (Zao ZhD) (Zal ZhD) (Zad ZhD) .none kV25 dc25 pm25 an25 cd25 ct25),sl25⟩) (c25:Yax K cd25 "cascade_numbers"=true) (k25:Yaq K (.ref f25)=true)
  (a26:Yar K mainGlobals "long_cascade"=some (some (.ref f26))) (l26:K.lookup f26=some ⟨oc26,od26,.func (YaA "long_cascade" "long_cascade" (Zao Zd4) (Zal Zd4) (Zad Zd4) .none kV26 dc26 pm26 an26 cd26 ct26),sl26⟩) (c26:Yax K cd26 "long_cascade"=true) (k26:Yaq K (.ref f26)=true)
  (a27:Yar K mainGlobals "first_many"=some (some (.ref f27))) (l27:K.lookup f27=some ⟨oc27,od27,.func (YaA "first_many" "first_many" (Zao ZhB) (Zal ZhB) (Zad ZhB) .none kV27 dc27 pm27 an27 cd27 ct27),sl27⟩) (c27:Yax K cd27 "first_many"=true) (k27:Yaq K (.ref f27)=true)
  (a28:Yar K mainGlobals "least_join"=some (some (.ref f28))) (l28:K.lookup f28=some ⟨oc28,od28,.func (YaA "least_join" "least_join" (Zao Zcl) (Zal Zcl) (Zad Zcl) .none kV28 dc28 pm28 an28 cd28 ct28),sl28⟩) (c28:Yax K cd28 "least_join"=true) (k28:Yaq K (.ref f28)=true)
  (a29:Yar K mainGlobals "join_numbers"=some (some (.ref f29))) (l29:K.lookup f29=some ⟨oc29,od29,.func (YaA "join_numbers" "join_numbers" (Zao ZhA) (Zal ZhA) (Zad ZhA) .none kV29 dc29 pm29 an29 cd29 ct29),sl29⟩) (c29:Yax K cd29 "join_numbers"=true) (k29:Yaq K (.ref f29)=true)
  (a30:Yar K mainGlobals "parts_of"=some (some (.ref f30))) (l30:K.lookup f30=some ⟨oc30,od30,.func (YaA "parts_of" "parts_of" (Zao Zdp) (Zal Zdp) (Zad Zdp) .none kV30 dc30 pm30 an30 cd30 ct30),sl30⟩) (c30:Yax K cd30 "parts_of"=true) (k30:Yaq K (.ref f30)=true)
  (a31:Yar K mainGlobals "numbers_join"=some (some (.ref f31))) (l31:K.lookup f31=some ⟨oc31,od31,.func (YaA "numbers_join" "numbers_join" (Zao sNJ) (Zal sNJ) (Zad sNJ) .none kV31 dc31 pm31 an31 cd31 ct31),sl31⟩) (c31:Yax K cd31 "numbers_join"=true) (k31:Yaq K (.ref f31)=true)
  (a32:Yar K mainGlobals "_law_pot"=some (some (.ref f32))) (l32:K.lookup f32=some ⟨oc32,od32,.func (YaA "_law_pot" "_law_pot" (Zao sPot) (Zal sPot) (Zad sPot) .none kV32 dc32 pm32 an32 cd32 ct32),sl32⟩) (c32:Yax K cd32 "_law_pot"=true) (k32:Yaq K (.ref f32)=true)
  (a33:Yar K mainGlobals "_law_next"=some (some (.ref f33))) (l33:K.lookup f33=some ⟨oc33,od33,.func (YaA "_law_next" "_law_next" (Zao sNx) (Zal sNx) (Zad sNx) .none kV33 dc33 pm33 an33 cd33 ct33),sl33⟩) (c33:Yax K cd33 "_law_next"=true) (k33:Yaq K (.ref f33)=true)
  (a34:Yar K mainGlobals "_law_counts"=some (some (.ref f34))) (l34:K.lookup f34=some ⟨oc34,od34,.func (YaA "_law_counts" "_law_counts" (Zao ZcI) (Zal ZcI) (Zad ZcI) .none kV34 dc34 pm34 an34 cd34 ct34),sl34⟩) (c34:Yax K cd34 "_law_counts"=true) (k34:Yaq K (.ref f34)=true)
  (a35:Yar K mainGlobals "_law_lain"=some (some (.ref f35))) (l35:K.lookup f35=some ⟨oc35,od35,.func (YaA "_law_lain" "_law_lain" (Zao Zf2) (Zal Zf2) (Zad Zf2) .none kV35 dc35 pm35 an35 cd35 ct35),sl35⟩) (c35:Yax K cd35 "_law_lain"=true) (k35:Yaq K (.ref f35)=true)
  (a36:Yar K mainGlobals "_law_readings"=some (some (.ref f36))) (l36:K.lookup f36=some ⟨oc36,od36,.func (YaA "_law_readings" "_law_readings" (Zao Zd1) (Zal Zd1) (Zad Zd1) .none kV36 dc36 pm36 an36 cd36 ct36),sl36⟩) (c36:Yax K cd36 "_law_readings"=true) (k36:Yaq K (.ref f36)=true)
  (a37:Yar K mainGlobals "_law_laying_right"=some (some (.ref f37))) (l37:K.lookup f37=some ⟨oc37,od37,.func (YaA "_law_laying_right" "_law_laying_right" (Zao ZeF) (Zal ZeF) (Zad ZeF) .none kV37 dc37 pm37 an37 cd37 ct37),sl37⟩) (c37:Yax K cd37 "_law_laying_right"=true) (k37:Yaq K (.ref f37)=true)
  (a38:Yar K mainGlobals "_law_great_right"=some (some (.ref f38))) (l38:K.lookup f38=some ⟨oc38,od38,.func (YaA "_law_great_right" "_law_great_right" (Zao Zfg) (Zal Zfg) (Zad Zfg) .none kV38 dc38 pm38 an38 cd38 ct38),sl38⟩) (c38:Yax K cd38 "_law_great_right"=true) (k38:Yaq K (.ref f38)=true)
  (a39:Yar K mainGlobals "law"=some (some (.ref f39))) (l39:K.lookup f39=some ⟨oc39,od39,.func (YaA "law" "law" (Zao sLaw) (Zal sLaw) (Zad sLaw) .none kV39 dc39 pm39 an39 cd39 ct39),sl39⟩) (c39:Yax K cd39 "law"=true) (k39:Yaq K (.ref f39)=true)
  (y0:Yar K mainGlobals "LEAST_WAYS"=some (some (.int 2 tk0)))
  (y1:Yar K mainGlobals "MOST_WAYS"=some (some (.int 7 tk1)))
  (y2:Yar K mainGlobals "MOST_PLACES"=some (some (.int 4000 tk2)))
  (y3:Yar K mainGlobals "LAST_LEVEL"=some (some (.int 300 tk3)))
  (y4:Yar K mainGlobals "LAST_CASCADE"=some (some (.int 100 tk4)))
  (z0:Yar K mainGlobals "isinstance"=some none) (z1:Yar K mainGlobals "int"=some none) (z2:Yar K mainGlobals "bool"=some none) (z3:Yar K mainGlobals "list"=some none) (z4:Yar K mainGlobals "tuple"=some none) (z5:Yar K mainGlobals "min"=some none) (z6:Yar K mainGlobals "max"=some none) (z7:Yar K mainGlobals "len"=some none) (z8:Yar K mainGlobals "range"=some none) (z9:Yar K mainGlobals "all"=some none) (z10:Yar K mainGlobals "sum"=some none) (z11:Yar K mainGlobals "sorted"=some none) (z12:Yar K mainGlobals "zip"=some none) (zenumerate:Yar K mainGlobals "enumerate"=some none) (zreversed:Yar K mainGlobals "reversed"=some none) (zany:Yar K mainGlobals "any"=some none) :
  ∃ fd:FuncData,(∀ (s:Shared) (v:Value),BindsTo s fd ⟨[v],[]⟩ [("script",v)])/\∀ base:Heap,K.In base->base.Ns mainGlobals mg->FnOk l.prog w K mg base CX0 9 fa fd ["script"] (Zj1 K):=by
 have e:=hfa.symm.trans (Yfz X G a39);cases e;have T:Txt mg:=⟨YaP X G z0,YaP X G z1,YaP X G z2,YaP X G z3,YaP X G z4,YaP X G z5,YaP X G z6,YaP X G z7,YaP X G z8,YaP X G z9,YaP X G z10,YaP X G z11,YaP X G z12⟩
 have F0:=Zaw (st:=ZdZ) l0 c0 k0;have b0:=F0.binds (ps:=["thing"]) fun _ _ _ _ _ _ us hl=>@len1 (fun us=>bindArgs _ ⟨us,[]⟩=pure (Ybh _ us)) us hl fun _=>rfl;have F1:=Zaw (st:=Zhz) l1 c1 k1;have b1:=F1.binds (ps:=["p"]) fun _ _ _ _ _ _ us hl=>@len1 (fun us=>bindArgs _ ⟨us,[]⟩=pure (Ybh _ us)) us hl fun _=>rfl;have F2:=Zms (st:=Zd5) l2 c2 k2;have b2:=F2.binds (ps:=["n","last"]) d2 rfl [] ["n","last"] rfl fun _ _ _ _ _ _ us hl=>match us,hl with | [_,_],_=>⟨_,rfl,rfl⟩
 have F3:=Zaw (st:=Zd6) l3 c3 k3;have b3:=F3.binds (ps:=["p"]) fun _ _ _ _ _ _ us hl=>@len1 (fun us=>bindArgs _ ⟨us,[]⟩=pure (Ybh _ us)) us hl fun _=>rfl;have F4:=Zaw (st:=Zf1) l4 c4 k4;have b4:=F4.binds (ps:=["counts"]) fun _ _ _ _ _ _ us hl=>@len1 (fun us=>bindArgs _ ⟨us,[]⟩=pure (Ybh _ us)) us hl fun _=>rfl;have F5:=Zaw (st:=ZcH) l5 c5 k5;have b5:=F5.binds (ps:=["p","n"]) fun _ _ _ _ _ _ us hl=>@len2 (fun us=>bindArgs _ ⟨us,[]⟩=pure (Ybh _ us)) us hl fun _ _=>rfl;have F6:=Zaw (st:=Zd0) l6 c6 k6;have b6:=F6.binds (ps:=["p","n"]) fun _ _ _ _ _ _ us hl=>@len2 (fun us=>bindArgs _ ⟨us,[]⟩=pure (Ybh _ us)) us hl fun _ _=>rfl;have F7:=Zaw (st:=sTot) l7 c7 k7;have b7:=F7.binds (ps:=["total"]) fun _ _ _ _ _ _ us hl=>@len1 (fun us=>bindArgs _ ⟨us,[]⟩=pure (Ybh _ us)) us hl fun _=>rfl;have F8:=Zaw (st:=ZcD) l8 c8 k8;have b8:=F8.binds (ps:=["p","n"]) fun _ _ _ _ _ _ us hl=>@len2 (fun us=>bindArgs _ ⟨us,[]⟩=pure (Ybh _ us)) us hl fun _ _=>rfl;have F9:=Zaw (st:=ZcG) l9 c9 k9;have b9:=F9.binds (ps:=["p"]) fun _ _ _ _ _ _ us hl=>@len1 (fun us=>bindArgs _ ⟨us,[]⟩=pure (Ybh _ us)) us hl fun _=>rfl;have F10:=Zaw (st:=ZcY) l10 c10 k10;have b10:=F10.binds (ps:=["numbers"]) fun _ _ _ _ _ _ us hl=>@len1 (fun us=>bindArgs _ ⟨us,[]⟩=pure (Ybh _ us)) us hl fun _=>rfl;have F11:=Zaw (st:=ZcE) l11 c11 k11;have b11:=F11.binds (ps:=["numbers"]) fun _ _ _ _ _ _ us hl=>@len1 (fun us=>bindArgs _ ⟨us,[]⟩=pure (Ybh _ us)) us hl fun _=>rfl;have F12:=Zaw (st:=ZcZ) l12 c12 k12;have b12:=F12.binds (ps:=["p","n","following"]) fun _ _ _ _ _ _ us hl=>@len3 (fun us=>bindArgs _ ⟨us,[]⟩=pure (Ybh _ us)) us hl fun _ _ _=>rfl;have F13:=Zaw (st:=Zd2) l13 c13 k13;have b13:=F13.binds (ps:=["p","n"]) fun _ _ _ _ _ _ us hl=>@len2 (fun us=>bindArgs _ ⟨us,[]⟩=pure (Ybh _ us)) us hl fun _ _=>rfl;have F14:=Zaw (st:=Zbn) l14 c14 k14;have b14:=F14.binds (ps:=["numbers"]) fun _ _ _ _ _ _ us hl=>@len1 (fun us=>bindArgs _ ⟨us,[]⟩=pure (Ybh _ us)) us hl fun _=>rfl;have F15:=Zaw (st:=Zf0) l15 c15 k15;have b15:=F15.binds (ps:=["p","following"]) fun _ _ _ _ _ _ us hl=>@len2 (fun us=>bindArgs _ ⟨us,[]⟩=pure (Ybh _ us)) us hl fun _ _=>rfl;have F16:=Zaw (st:=sLN) l16 c16 k16;have b16:=F16.binds (ps:=["p","n"]) fun _ _ _ _ _ _ us hl=>@len2 (fun us=>bindArgs _ ⟨us,[]⟩=pure (Ybh _ us)) us hl fun _ _=>rfl;have F17:=Zaw (st:=ZcF) l17 c17 k17;have b17:=F17.binds (ps:=["numbers","many"]) fun _ _ _ _ _ _ us hl=>@len2 (fun us=>bindArgs _ ⟨us,[]⟩=pure (Ybh _ us)) us hl fun _ _=>rfl;have F18:=Zaw (st:=Zb4) l18 c18 k18;have b18:=F18.binds (ps:=["numbers","lengths","placing"]) fun _ _ _ _ _ _ us hl=>@len3 (fun us=>bindArgs _ ⟨us,[]⟩=pure (Ybh _ us)) us hl fun _ _ _=>rfl;have F19:=Zaw (st:=ZbP) l19 c19 k19;have b19:=F19.binds (ps:=["numbers","lengths"]) fun _ _ _ _ _ _ us hl=>@len2 (fun us=>bindArgs _ ⟨us,[]⟩=pure (Ybh _ us)) us hl fun _ _=>rfl;have F20:=Zaw (st:=ZcJ) l20 c20 k20;have b20:=F20.binds (ps:=["levels","lengths"]) fun _ _ _ _ _ _ us hl=>@len2 (fun us=>bindArgs _ ⟨us,[]⟩=pure (Ybh _ us)) us hl fun _ _=>rfl;have F21:=Zaw (st:=sBPl) l21 c21 k21;have b21:=F21.binds (ps:=["p","lengths"]) fun _ _ _ _ _ _ us hl=>@len2 (fun us=>bindArgs _ ⟨us,[]⟩=pure (Ybh _ us)) us hl fun _ _=>rfl;have F22:=Zaw (st:=Zd3) l22 c22 k22;have b22:=F22.binds (ps:=["counts"]) fun _ _ _ _ _ _ us hl=>@len1 (fun us=>bindArgs _ ⟨us,[]⟩=pure (Ybh _ us)) us hl fun _=>rfl;have F23:=Zaw (st:=sChk) l23 c23 k23;have b23:=F23.binds (ps:=["p","n"]) fun _ _ _ _ _ _ us hl=>@len2 (fun us=>bindArgs _ ⟨us,[]⟩=pure (Ybh _ us)) us hl fun _ _=>rfl;have F24:=Zaw (st:=ZhC) l24 c24 k24;have b24:=F24.binds (ps:=["p","n"]) fun _ _ _ _ _ _ us hl=>@len2 (fun us=>bindArgs _ ⟨us,[]⟩=pure (Ybh _ us)) us hl fun _ _=>rfl;have F25:=Zaw (st:=ZhD) l25 c25 k25;have b25:=F25.binds (ps:=["p","n"]) fun _ _ _ _ _ _ us hl=>@len2 (fun us=>bindArgs _ ⟨us,[]⟩=pure (Ybh _ us)) us hl fun _ _=>rfl;have F26:=Zaw (st:=Zd4) l26 c26 k26;have b26:=F26.binds (ps:=["p","lengths"]) fun _ _ _ _ _ _ us hl=>@len2 (fun us=>bindArgs _ ⟨us,[]⟩=pure (Ybh _ us)) us hl fun _ _=>rfl;have F27:=Zaw (st:=ZhB) l27 c27 k27;have b27:=F27.binds (ps:=["p","rows"]) fun _ _ _ _ _ _ us hl=>@len2 (fun us=>bindArgs _ ⟨us,[]⟩=pure (Ybh _ us)) us hl fun _ _=>rfl;have F28:=Zaw (st:=Zcl) l28 c28 k28;have b28:=F28.binds (ps:=["p","lengths"]) fun _ _ _ _ _ _ us hl=>@len2 (fun us=>bindArgs _ ⟨us,[]⟩=pure (Ybh _ us)) us hl fun _ _=>rfl;have F29:=Zaw (st:=ZhA) l29 c29 k29;have b29:=F29.binds (ps:=["p","rows","log"]) fun _ _ _ _ _ _ us hl=>@len3 (fun us=>bindArgs _ ⟨us,[]⟩=pure (Ybh _ us)) us hl fun _ _ _=>rfl;have F30:=Zaw (st:=Zdp) l30 c30 k30;have b30:=F30.binds (ps:=["there","p"]) fun _ _ _ _ _ _ us hl=>@len2 (fun us=>bindArgs _ ⟨us,[]⟩=pure (Ybh _ us)) us hl fun _ _=>rfl;have F31:=Zaw (st:=sNJ) l31 c31 k31;have b31:=F31.binds (ps:=["p","numbers"]) fun _ _ _ _ _ _ us hl=>@len2 (fun us=>bindArgs _ ⟨us,[]⟩=pure (Ybh _ us)) us hl fun _ _=>rfl;have F32:=Zaw (st:=sPot) l32 c32 k32;have b32:=F32.binds (ps:=["script","k"]) fun _ _ _ _ _ _ us hl=>@len2 (fun us=>bindArgs _ ⟨us,[]⟩=pure (Ybh _ us)) us hl fun _ _=>rfl;have F33:=Zaw (st:=sNx) l33 c33 k33;have b33:=F33.binds (ps:=["pot","many"]) fun _ _ _ _ _ _ us hl=>@len2 (fun us=>bindArgs _ ⟨us,[]⟩=pure (Ybh _ us)) us hl fun _ _=>rfl;have F34:=Zaw (st:=ZcI) l34 c34 k34;have b34:=F34.binds (ps:=["p","way","n"]) fun _ _ _ _ _ _ us hl=>@len3 (fun us=>bindArgs _ ⟨us,[]⟩=pure (Ybh _ us)) us hl fun _ _ _=>rfl;have F35:=Zaw (st:=Zf2) l35 c35 k35;have b35:=F35.binds (ps:=["pot","p","way","rows"]) fun _ _ _ _ _ _ us hl=>@len4 (fun us=>bindArgs _ ⟨us,[]⟩=pure (Ybh _ us)) us hl fun _ _ _ _=>rfl;have F36:=Zaw (st:=Zd1) l36 c36 k36;have b36:=F36.binds (ps:=["p","lengths"]) fun _ _ _ _ _ _ us hl=>@len2 (fun us=>bindArgs _ ⟨us,[]⟩=pure (Ybh _ us)) us hl fun _ _=>rfl;have F37:=Zaw (st:=ZeF) l37 c37 k37;have b37:=F37.binds (ps:=["pot","p","way","lengths","readings"]) fun _ _ _ _ _ _ us hl=>@len5 (fun us=>bindArgs _ ⟨us,[]⟩=pure (Ybh _ us)) us hl fun _ _ _ _ _=>rfl;have F38:=Zaw (st:=Zfg) l38 c38 k38;have b38:=F38.binds (ps:=["pot","p","lengths","readings"]) fun _ _ _ _ _ _ us hl=>@len4 (fun us=>bindArgs _ ⟨us,[]⟩=pure (Ybh _ us)) us hl fun _ _ _ _=>rfl;have F39:=Zaw (st:=sLaw) l39 c39 k39;refine⟨YaA "law" "law" (Zao sLaw) (Zal sLaw) (Zad sLaw) .none kV39 dc39 pm39 an39 cd39 ct39,fun s v=>.of_eq rfl,fun base _ _=>?_⟩;have m:=fun {x:Str}{v:Value} (a:Yar K mainGlobals x=some (some v))=>Yfz X G a;have mLEAST_WAYS:=m y0;have mMOST_WAYS:=m y1;have mMOST_PLACES:=m y2;have mLAST_LEVEL:=m y3;have mLAST_CASCADE:=m y4;have Cis_whole:Cal l.prog w K mg base 1 "is_whole" ["thing"] Zes _ _:=⟨Zkv F0 T,m a0,k0,b0⟩
 have Ccheck_ways:Cal l.prog w K mg base 2 "check_ways" ["p"] Zcf _ _:=⟨Zl3 F1 T mLEAST_WAYS mMOST_WAYS Cis_whole,m a1,k1,b1⟩
 have Ccheck_level:Cal l.prog w K mg base 2 "check_level" ["n","last"] Zcg _ _:=⟨ZgR F2 T Cis_whole,m a2,k2,b2⟩
 have bDdL:=F2.binds (ps:=["n","last"]) d2 rfl [.int 300 dt2_0] ["n"] rfl fun _ _ _ _ _ _ us hl=>match us,hl with | [_],_=>⟨_,rfl,rfl⟩
 have CdL:CalD l.prog w K mg base 2 "check_level" ["n","last"] [.int 300] Zcg _ _:=⟨ZgR F2 T Cis_whole,m a2,k2,⟨_,bDdL,.cons ⟨_,rfl⟩ (.nil)⟩⟩
 have Cfirst_counts:Cal l.prog w K mg base 1 "first_counts" ["p"] Zey _ _:=⟨ZkE F3 T,m a3,k3,b3⟩
 have Cnext_counts:Cal l.prog w K mg base 1 "next_counts" ["counts"] (Zic K) _ _:=⟨Zl5 F4 T,m a4,k4,b4⟩
 have Clevel_counts:Cal l.prog w K mg base 3 "level_counts" ["p","n"] Zch _ _:=⟨ZiM F5 T Ccheck_ways CdL Cfirst_counts Cnext_counts,m a5,k5,b5⟩
 have Clevel_total:Cal l.prog w K mg base 4 "level_total" ["p","n"] ZfT _ _:=⟨Zkw F6 T Clevel_counts,m a6,k6,b6⟩
 have Ccheck_total:Cal l.prog w K mg base 1 "check_total" ["total"] Zj0 _ _:=⟨Zm9 F7 T mMOST_PLACES,m a7,k7,b7⟩
 have Ccheck_places:Cal l.prog w K mg base 5 "check_places" ["p","n"] Zev _ _:=⟨ZiG F8 T Clevel_total Ccheck_total,m a8,k8,b8⟩
 have Cfirst_numbers:Cal l.prog w K mg base 1 "first_numbers" ["p"] ZbO _ _:=⟨ZiL F9 T,m a9,k9,b9⟩
 have Cnext_numbers:Cal l.prog w K mg base 1 "next_numbers" ["numbers"] ZcC _ _:=⟨ZkA F10 T,m a10,k10,b10⟩
 have Cnext_cascade_numbers:Cal l.prog w K mg base 1 "next_cascade_numbers" ["numbers"] ZbN _ _:=⟨ZiI F11 T,m a11,k11,b11⟩
 have Cnumbers_after:Cal l.prog w K mg base 2 "numbers_after" ["p","n","following"] (ZfZ _) _ _:=⟨ZkF F12 T Cfirst_numbers Cnext_numbers,m a12,k12,b12⟩
 have CafterK:Cal l.prog w K mg base 2 "numbers_after" ["p","n","following"] (ZeB _) _ _:=⟨ZiO F12 T Cfirst_numbers Cnext_cascade_numbers,m a12,k12,b12⟩
 have Cnumbers_of:Cal l.prog w K mg base 3 "numbers_of" ["p","n"] Zfc _ _:=⟨Zkz F13 T Cnext_numbers Cnumbers_after,m a13,k13,b13⟩
 have Cplaces_in:Cal l.prog w K mg base 1 "places_in" ["numbers"] Zbm _ _:=⟨Zf7 F14 T,m a14,k14,b14⟩
 have Cnumbers_told:Cal l.prog w K mg base 2 "numbers_told" ["p","following"] (ZfV _) _ _:=⟨Zkx F15 T mMOST_PLACES Cfirst_numbers Cplaces_in Cnext_numbers,m a15,k15,b15⟩
 have Clevel_numbers:Cal l.prog w K mg base 6 "level_numbers" ["p","n"] Zfc _ _:=⟨Zn0 F16 T Ccheck_places Cnumbers_of,m a16,k16,b16⟩
 have Cleast_places:Cal l.prog w K mg base 1 "least_places" ["numbers","many"] Zew _ _:=⟨ZiK F17 T (YaP X G zenumerate),m a17,k17,b17⟩
 have Creading_by:Cal l.prog w K mg base 1 "reading_by" ["numbers","lengths","placing"] (Zet K) _ _:=⟨ZiF F18 T,m a18,k18,b18⟩
 have Cleast_by:Cal l.prog w K mg base 2 "least_by" ["numbers","lengths"] (Zdm K) _ _:=⟨ZhJ F19 T (YaP X G zenumerate) Cleast_places Creading_by,m a19,k19,b19⟩
 have Cbest_by:Cal l.prog w K mg base 3 "best_by" ["levels","lengths"] (Zci K) _ _:=⟨Zec F20 T (YaP X G zenumerate) Cplaces_in Cleast_by,m a20,k20,b20⟩
 have Cbest_placing:Cal l.prog w K mg base 4 "best_placing" ["p","lengths"] (ZlF K) _ _:=⟨Znc F21 T Ccheck_ways Cnext_numbers Cnumbers_told Cbest_by,m a21,k21,b21⟩
 have Cnext_cascade_counts:Cal l.prog w K mg base 1 "next_cascade_counts" ["counts"] (ZfY K) _ _:=⟨ZkB F22 T,m a22,k22,b22⟩
 have Ctold:Cal l.prog w K mg base 2 "numbers_told" ["p","following"] (ZfU _) _ _:=⟨Zl4 F15 T mMOST_PLACES Cfirst_numbers Cplaces_in Cnext_cascade_numbers,m a15,k15,b15⟩
 have Cbestby:Cal l.prog w K mg base 3 "best_by" ["levels","lengths"] (ZeA K) _ _:=⟨(Zec F20 T (YaP X G zenumerate) Cplaces_in Cleast_by).imp (fun vs H Q E h=>ZjI h),m a20,k20,b20⟩
 have Ccheck_cascade:Cal l.prog w K mg base 3 "check_cascade" ["p","n"] ZlE _ _:=⟨Znb F23 T mLAST_CASCADE Ccheck_ways Ccheck_level,m a23,k23,b23⟩
 have Ccascade_counts:Cal l.prog w K mg base 4 "cascade_counts" ["p","n"] Zfd _ _:=⟨Zmc F24 T Ccheck_cascade Cfirst_counts Cnext_cascade_counts,m a24,k24,b24⟩
 have Ccascade_numbers:Cal l.prog w K mg base 5 "cascade_numbers" ["p","n"] Zfe _ _:=⟨Zmb F25 T Ccheck_total Ccascade_counts CafterK Cnext_cascade_numbers,m a25,k25,b25⟩
 have Clong_cascade:Cal l.prog w K mg base 4 "long_cascade" ["p","lengths"] (ZfX K) _ _:=⟨ZkC F26 T Ccheck_ways Cnext_cascade_numbers Ctold Cbestby,m a26,k26,b26⟩
 have Cfirst_many:Cal l.prog w K mg base 1 "first_many" ["p","rows"] Zih _ _:=⟨Zma F27,m a27,k27,b27⟩
 have Cleast_join:Cal l.prog w K mg base 3 "least_join" ["p","lengths"] (Zex K) _ _:=⟨ZiJ F28 T (YaP X G zenumerate) Ccheck_ways Cfirst_many,m a28,k28,b28⟩
 have Cjoin_numbers:Cal l.prog w K mg base 3 "join_numbers" ["p","rows","log"] (Zif K) _ _:=⟨Zl8 F29 T (YaP X G zreversed) Ccheck_ways,m a29,k29,b29⟩
 have Cparts_of:Cal l.prog w K mg base 1 "parts_of" ["there","p"] ZfW _ _:=⟨ZiH F30 T,m a30,k30,b30⟩
 have Cnumbers_join:Cal l.prog w K mg base 3 "numbers_join" ["p","numbers"] (spNJ K) _ _:=⟨ZnZ F31 T (YaP X G zany) Ccheck_ways Cparts_of,m a31,k31,b31⟩
 have C_law_pot:Cal l.prog w K mg base 1 "_law_pot" ["script","k"] (Zib K) _ _:=⟨Zna F32 T,m a32,k32,b32⟩
 have C_law_next:Cal l.prog w K mg base 1 "_law_next" ["pot","many"] Zdl _ _:=⟨ZnY F33 T,m a33,k33,b33⟩
 have C_law_counts:Cal l.prog w K mg base 5 "_law_counts" ["p","way","n"] Zez _ _:=⟨ZiN F34 Clevel_counts Ccascade_counts,m a34,k34,b34⟩
 have C_law_lain:Cal l.prog w K mg base 7 "_law_lain" ["pot","p","way","rows"] Zid _ _:=⟨Zl7 F35 T C_law_counts C_law_next Clevel_numbers Ccascade_numbers,m a35,k35,b35⟩
 have C_law_readings:Cal l.prog w K mg base 5 "_law_readings" ["p","lengths"] (Zeu K) _ _:=⟨Zky F36 T Cbest_placing Cleast_join Clong_cascade,m a36,k36,b36⟩
 have C_law_laying_right:Cal l.prog w K mg base 8 "_law_laying_right" ["pot","p","way","lengths","readings"] (Zie K) _ _:=⟨Zl6 F37 T (YaP X G zany) C_law_lain Cnumbers_join Cjoin_numbers,m a37,k37,b37⟩
 have C_law_great_right:Cal l.prog w K mg base 6 "_law_great_right" ["pot","p","lengths","readings"] (Zig K) _ _:=⟨Zl9 F38 T C_law_next C_law_readings,m a38,k38,b38⟩
 exact ZkD F39 T C_law_pot C_law_next Ccascade_counts Clevel_counts Ccascade_numbers Clevel_numbers C_law_readings C_law_great_right C_law_laying_right
theorem walk {l:YdZ}{q:Program}{loose:List Str}{XP:(Str->Option Value)->Heap->Prop}{YP:World->Heap->Prop}{d:DefRec}{K:Params->Yac} (hn:l.most=some 63) (hdf:d.params.defaults=[])
  (hY:∀ (w:World) (h:Heap),YP w h->(K w.params).In h)
  (F:∀ (w:World) (mg:Str->Option Value) (fa:Addr) (h:Heap),(K w.params).In h->h.Ns mainGlobals mg->mg d.name=some (.ref fa) ->
   ∃ fd:FuncData,(∀ (s:Shared) (u:Value),BindsTo s fd ⟨[u],[]⟩ [("script",u)])/\∀ base:Heap,(K w.params).In base->base.Ns mainGlobals mg->FnOk l.prog w (K w.params) mg base CX0 9 fa fd ["script"] (Zj1 (K w.params))) :
  YfA q loose XP YP l.row.toRowW d [] (fun f vs=>Yfj f vs) :=
 L2.walk_of (n:=63) (k:=9) (x:="script") (CX:=fun _=>CX0) (sp:=fun w=>Zj1 (K w.params)) hn (by decide) hdf ⟨rfl,by decide,by decide,rfl⟩ hY F (fun _ _ a ns hl _ hS=>⟨a,ns,rfl,hS,hl,fun _=>rfl⟩) fun _ _ _ _ _ z=>z
end Fj99
def PySem.W.Fast.tw13221829941057659424 : Unit := ()
def PySem.W.Fast.tw1963389944703357530 : Unit := ()
def PySem.W.Fast.tw14777841763946213844 : Unit := ()
def PySem.W.Fast.tw2973837381936834303 : Unit := ()
def PySem.W.Fast.tw7276290065237520957 : Unit := ()
def PySem.W.Fast.tw5646688930582310342 : Unit := ()
def PySem.W.Fast.tw5265208047884034345 : Unit := ()
def PySem.W.Fast.tw11719606068015536378 : Unit := ()
def PySem.W.Fast.tw11306701779260949086 : Unit := ()
def PySem.W.Fast.tw13914345778454791185 : Unit := ()
def PySem.W.Fast.tw11982006754269375381 : Unit := ()
def PySem.W.Fast.tw15129511326053087200 : Unit := ()
def PySem.W.Fast.tw4899974868248511802 : Unit := ()
def PySem.W.Fast.tw11302171440107769311 : Unit := ()
def PySem.W.Fast.tw14499512406333919846 : Unit := ()
def PySem.W.Fast.tw1985250902906724988 : Unit := ()
def PySem.W.Fast.tw7819997355313133466 : Unit := ()
def PySem.W.Fast.tw6428953683821943062 : Unit := ()
def PySem.W.Fast.tw16406973626410591639 : Unit := ()
def PySem.W.Fast.tw49699409946024320 : Unit := ()
def PySem.W.Fast.tw4939191443016094704 : Unit := ()
def PySem.W.Fast.tw12562192837334101352 : Unit := ()
def PySem.W.Fast.tw3768421066678960154 : Unit := ()
def PySem.W.Fast.tw5101258755935392219 : Unit := ()
def PySem.W.Fast.tw1149905303496873265 : Unit := ()
def PySem.W.Fast.tw6502949538383787533 : Unit := ()
def PySem.W.Fast.tw16832182040631223902 : Unit := ()
def PySem.W.Fast.tw14376317855206756684 : Unit := ()
def PySem.W.Fast.tw6107902564360133854 : Unit := ()
def PySem.W.Fast.tw16493685493355921833 : Unit := ()
def PySem.W.Fast.tw14149616545461435415 : Unit := ()
def PySem.W.Fast.tw8736354612175227878 : Unit := ()
def PySem.W.Fast.tw14147815524890268399 : Unit := ()
def PySem.W.Fast.tw10508542202502847503 : Unit := ()
def PySem.W.Fast.tw5388398763452491319 : Unit := ()
def PySem.W.Fast.tw12747686243126093380 : Unit := ()
def PySem.W.Fast.tw10179040515717537226 : Unit := ()
def PySem.W.Fast.tw6414693787026903526 : Unit := ()
def PySem.W.Fast.tw9081529383101151197 : Unit := ()
def PySem.W.Fast.tw2801160977620122095 : Unit := ()
def PySem.W.Fast.tw7775912706312476597 : Unit := ()
def PySem.W.Fast.tw17725538795030708814 : Unit := ()
def PySem.W.Fast.tw1651126302615829004 : Unit := ()
def PySem.W.Fast.tw15184426599323036415 : Unit := ()
def PySem.W.Fast.tw17442253835480963815 : Unit := ()
def PySem.W.Fast.tw450763214736352439 : Unit := ()
def PySem.W.Fast.tw14632167624852363971 : Unit := ()
def PySem.W.Fast.tw10421961713625105411 : Unit := ()
def PySem.W.Fast.tw17780091677462157059 : Unit := ()
def PySem.W.Fast.tw8941859245051591646 : Unit := ()
def PySem.W.Fast.tw4905709374927081565 : Unit := ()
def PySem.W.Fast.tw18378601856645936790 : Unit := ()
def PySem.W.Fast.tw11286719780161105906 : Unit := ()
def PySem.W.Fast.tw15658978135979123215 : Unit := ()
def PySem.W.Fast.tw11219737171856423265 : Unit := ()
def PySem.W.Fast.tw16930440273622290248 : Unit := ()
def PySem.W.Fast.tw3784146512378204042 : Unit := ()
def PySem.W.Fast.tw15064692448934399625 : Unit := ()
def PySem.W.Fast.tw2533561965652238991 : Unit := ()
def PySem.W.Fast.tw7091898535149500740 : Unit := ()
def PySem.W.Fast.tw8709673012886648446 : Unit := ()
def PySem.W.Fast.tw6414339337898387184 : Unit := ()
def PySem.W.Fast.tw14558099277424521789 : Unit := ()
def PySem.W.Fast.tw11729271917820105902 : Unit := ()
def PySem.W.Fast.tw5230203346190738225 : Unit := ()
def PySem.W.Fast.tw4020692562571249673 : Unit := ()
def PySem.W.Fast.tw12605260068545705199 : Unit := ()
def PySem.W.Fast.tw8106205300324981993 : Unit := ()
def PySem.W.Fast.tw8467068792651126008 : Unit := ()
def PySem.W.Fast.tw2205329557168275279 : Unit := ()
def PySem.W.Fast.tw14387984423671974649 : Unit := ()
def PySem.W.Fast.tw8502529425655536350 : Unit := ()
def PySem.W.Fast.tw2807946620494400002 : Unit := ()
def PySem.W.Fast.tw17447828885650148672 : Unit := ()
def PySem.W.Fast.tw14537260112707021285 : Unit := ()
def PySem.W.Fast.tw7409022534781259862 : Unit := ()
def PySem.W.Fast.tw498242659209227885 : Unit := ()
def PySem.W.Fast.tw5640716633643562569 : Unit := ()
def PySem.W.Fast.tw7972715816814858486 : Unit := ()
def PySem.W.Fast.tw16915930492239338692 : Unit := ()
def PySem.W.Fast.tw10262043945656689725 : Unit := ()
def PySem.W.Fast.tw10181747818227970887 : Unit := ()
def PySem.W.Fast.tw8241525885380084852 : Unit := ()
def PySem.W.Fast.tw14471666363488902378 : Unit := ()
def PySem.W.Fast.tw1347263803192338881 : Unit := ()
def PySem.W.Fast.tw10099062045464001324 : Unit := ()
def PySem.W.Fast.tw97858667225104820 : Unit := ()
def PySem.W.Fast.tw7650299767407945329 : Unit := ()
def PySem.W.Fast.tw9416247642489780724 : Unit := ()
def PySem.W.Fast.tw12734326319012937327 : Unit := ()
def PySem.W.Fast.tw7037653420112236037 : Unit := ()
def PySem.W.Fast.tw2632713774766690312 : Unit := ()
def PySem.W.Fast.tw723607566855430830 : Unit := ()
def PySem.W.Fast.tw4997308262533203111 : Unit := ()
def PySem.W.Fast.tw10181154095597934201 : Unit := ()
def PySem.W.Fast.tw9953575203205988421 : Unit := ()
def PySem.W.Fast.tw9797887889715628520 : Unit := ()
def PySem.W.Fast.tw15114496966867511459 : Unit := ()
def PySem.W.Fast.tw7620292554113639492 : Unit := ()
def PySem.W.Fast.tw14280034916093267159 : Unit := ()
def PySem.W.Fast.tw12644284803071999530 : Unit := ()
def PySem.W.Fast.tw9569289343212052802 : Unit := ()
def PySem.W.Fast.tw15197698053495902766 : Unit := ()
def PySem.W.Fast.tw14886193733835080860 : Unit := ()
def PySem.W.Fast.tw5901433316466691818 : Unit := ()
def PySem.W.Fast.tw9407370212802648819 : Unit := ()
def PySem.W.Fast.tw5184239442218068842 : Unit := ()
def PySem.W.Fast.tw1639252072945283542 : Unit := ()
def PySem.W.Fast.tw3253525147894202761 : Unit := ()
def PySem.W.Fast.tw4150244545880305481 : Unit := ()
def PySem.W.Fast.tw15209944159643258710 : Unit := ()
def PySem.W.Fast.tw354002697348410731 : Unit := ()
def PySem.W.Fast.tw9419934938758355803 : Unit := ()
def PySem.W.Fast.tw11915935900091050134 : Unit := ()
def PySem.W.Fast.tw9291396711552619167 : Unit := ()
def PySem.W.Fast.tw154027256879490186 : Unit := ()
def PySem.W.Fast.tw2502220264848355315 : Unit := ()
def PySem.W.Fast.tw7629974524118237401 : Unit := ()
def PySem.W.Fast.tw2890365903364763252 : Unit := ()
def PySem.W.Fast.tw17656909028117352451 : Unit := ()
def PySem.W.Fast.tw16588348649360870211 : Unit := ()
def PySem.W.Fast.tw10596829870435226845 : Unit := ()
def PySem.W.Fast.tw9499474330314424412 : Unit := ()
def PySem.W.Fast.tw15683710650660098658 : Unit := ()
def PySem.W.Fast.tw17847333864655245176 : Unit := ()
def PySem.W.Fast.tw16516145610829659401 : Unit := ()
def PySem.W.Fast.tw4950753952395388630 : Unit := ()
def PySem.W.Fast.tw10177526151734390750 : Unit := ()
def PySem.W.Fast.tw505305168002190960 : Unit := ()
def PySem.W.Fast.tw6477371973551793233 : Unit := ()
def PySem.W.Fast.tw13539495950271935794 : Unit := ()
def PySem.W.Fast.tw1750757393900979011 : Unit := ()
def PySem.W.Fast.tw13408983684760377334 : Unit := ()
def PySem.W.Fast.tw3503305977999656535 : Unit := ()
def PySem.W.Fast.tw13983874887290882540 : Unit := ()
def PySem.W.Fast.tw13693013591832427816 : Unit := ()
def PySem.W.Fast.tw15633152881529267983 : Unit := ()
def PySem.W.Fast.tw6440996612602437829 : Unit := ()
def PySem.W.Fast.tw6825683386587056383 : Unit := ()
def PySem.W.Fast.tw5903286664310830607 : Unit := ()
def PySem.W.Fast.tw2466061146235352947 : Unit := ()
def PySem.W.Fast.tw2389538516843490788 : Unit := ()
def PySem.W.Fast.tw15730390909757087567 : Unit := ()
def PySem.W.Fast.tw3418286175514373529 : Unit := ()
def PySem.W.Fast.tw16807193248075244228 : Unit := ()
def PySem.W.Fast.tw4816076440392965675 : Unit := ()
def PySem.W.Fast.tw385429925018961598 : Unit := ()
def PySem.W.Fast.tw10050240921252814931 : Unit := ()
def PySem.W.Fast.tw1397003320034194029 : Unit := ()
def PySem.W.Fast.tw7784178720814878223 : Unit := ()
def PySem.W.Fast.tw10671582017351405164 : Unit := ()
def PySem.W.Fast.tw13414661485725528777 : Unit := ()
def PySem.W.Fast.tw5335862179035356139 : Unit := ()
def PySem.W.Fast.tw11548132664444422677 : Unit := ()
def PySem.W.Fast.tw1320806499244600638 : Unit := ()
def PySem.W.Fast.tw6381808527865257893 : Unit := ()
def PySem.W.Fast.tw16852058630793506024 : Unit := ()
def PySem.W.Fast.tw16526491350702360541 : Unit := ()
def PySem.W.Fast.tw2918068697650801393 : Unit := ()
def PySem.W.Fast.tw17585873006442271936 : Unit := ()
def PySem.W.Fast.tw10737790675055453923 : Unit := ()
def PySem.W.Fast.tw4662087823134943227 : Unit := ()
def PySem.W.Fast.tw17769956858900237749 : Unit := ()
def PySem.W.Fast.tw726752986048771069 : Unit := ()
def PySem.W.Fast.tw15489951992591615997 : Unit := ()
def PySem.W.Fast.tw8190845367789959719 : Unit := ()
def PySem.W.Fast.tw14887280917818059545 : Unit := ()
def PySem.W.Fast.tw17677418373665061389 : Unit := ()
def PySem.W.Fast.tw4666952111739727502 : Unit := ()
def PySem.W.Fast.tw11190264497759208338 : Unit := ()
def PySem.W.Fast.tw14210299024085245238 : Unit := ()
open PySem PySem.W PyProof.Rows
set_option maxRecDepth 100000 in
set_option maxHeartbeats 0 in
theorem PySem.Challenge.cw_fewreels_k99_whole_ways_side_by_side_holds : PySem.Challenge.rw_fewreels_k99_whole_ways_side_by_side.Holds := by
  w_on; o_law; k_head; (case hw => w_witness2)
  k_fill
  refine Fj99.walk (l := PySem.Challenge.rw_fewreels_k99_whole_ways_side_by_side) rfl rfl (fun w h Y => PySem.W.kIn_of Y) ?F
  case F =>
    intro w mg fa h KX G hmg
    refine' Fj99.all_mk KX G hmg ?a0 ?l0 ?c0 ?k0 ?a1 ?l1 ?c1 ?k1 ?a2 ?l2 ?c2 ?k2 ?d2 ?a3 ?l3 ?c3 ?k3 ?a4 ?l4 ?c4 ?k4 ?a5 ?l5 ?c5 ?k5 ?a6 ?l6 ?c6 ?k6 ?a7 ?l7 ?c7 ?k7 ?a8 ?l8 ?c8 ?k8 ?a9 ?l9 ?c9 ?k9 ?a10 ?l10 ?c10 ?k10 ?a11 ?l11 ?c11 ?k11 ?a12 ?l12 ?c12 ?k12 ?a13 ?l13 ?c13 ?k13 ?a14 ?l14 ?c14 ?k14 ?a15 ?l15 ?c15 ?k15 ?a16 ?l16 ?c16 ?k16 ?a17 ?l17 ?c17 ?k17 ?a18 ?l18 ?c18 ?k18 ?a19 ?l19 ?c19 ?k19 ?a20 ?l20 ?c20 ?k20 ?a21 ?l21 ?c21 ?k21 ?a22 ?l22 ?c22 ?k22 ?a23 ?l23 ?c23 ?k23 ?a24 ?l24 ?c24 ?k24 ?a25 ?l25 ?c25 ?k25 ?a26 ?l26 ?c26 ?k26 ?a27 ?l27 ?c27 ?k27 ?a28 ?l28 ?c28 ?k28 ?a29 ?l29 ?c29 ?k29 ?a30 ?l30 ?c30 ?k30 ?a31 ?l31 ?c31 ?k31 ?a32 ?l32 ?c32 ?k32 ?a33 ?l33 ?c33 ?k33 ?a34 ?l34 ?c34 ?k34 ?a35 ?l35 ?c35 ?k35 ?a36 ?l36 ?c36 ?k36 ?a37 ?l37 ?c37 ?k37 ?a38 ?l38 ?c38 ?k38 ?a39 ?l39 ?c39 ?k39 ?y0 ?y1 ?y2 ?y3 ?y4 ?z0 ?z1 ?z2 ?z3 ?z4 ?z5 ?z6 ?z7 ?z8 ?z9 ?z10 ?z11 ?z12 ?zenumerate ?zreversed ?zany
    (case a0 => k_is); (case l0 => k_is); (case c0 => k_is); (case k0 => k_is); (case a1 => k_is); (case l1 => k_is)
    (case c1 => k_is); (case k1 => k_is); (case a2 => k_is); (case l2 => k_is); (case c2 => k_is); (case k2 => k_is)
    (case d2 => k_is); (case a3 => k_is); (case l3 => k_is); (case c3 => k_is); (case k3 => k_is); (case a4 => k_is)
    (case l4 => k_is); (case c4 => k_is); (case k4 => k_is); (case a5 => k_is); (case l5 => k_is); (case c5 => k_is)
    (case k5 => k_is); (case a6 => k_is); (case l6 => k_is); (case c6 => k_is); (case k6 => k_is); (case a7 => k_is)
    (case l7 => k_is); (case c7 => k_is); (case k7 => k_is); (case a8 => k_is); (case l8 => k_is); (case c8 => k_is)
    (case k8 => k_is); (case a9 => k_is); (case l9 => k_is); (case c9 => k_is); (case k9 => k_is); (case a10 => k_is)
    (case l10 => k_is); (case c10 => k_is); (case k10 => k_is); (case a11 => k_is); (case l11 => k_is); (case c11 => k_is)
    (case k11 => k_is); (case a12 => k_is); (case l12 => k_is); (case c12 => k_is); (case k12 => k_is); (case a13 => k_is)
    (case l13 => k_is); (case c13 => k_is); (case k13 => k_is); (case a14 => k_is); (case l14 => k_is); (case c14 => k_is)
    (case k14 => k_is); (case a15 => k_is); (case l15 => k_is); (case c15 => k_is); (case k15 => k_is); (case a16 => k_is)
    (case l16 => k_is); (case c16 => k_is); (case k16 => k_is); (case a17 => k_is); (case l17 => k_is); (case c17 => k_is)
    (case k17 => k_is); (case a18 => k_is); (case l18 => k_is); (case c18 => k_is); (case k18 => k_is); (case a19 => k_is)
    (case l19 => k_is); (case c19 => k_is); (case k19 => k_is); (case a20 => k_is); (case l20 => k_is); (case c20 => k_is)
    (case k20 => k_is); (case a21 => k_is); (case l21 => k_is); (case c21 => k_is); (case k21 => k_is); (case a22 => k_is)
    (case l22 => k_is); (case c22 => k_is); (case k22 => k_is); (case a23 => k_is); (case l23 => k_is); (case c23 => k_is)
    (case k23 => k_is); (case a24 => k_is); (case l24 => k_is); (case c24 => k_is); (case k24 => k_is); (case a25 => k_is)
    (case l25 => k_is); (case c25 => k_is); (case k25 => k_is); (case a26 => k_is); (case l26 => k_is); (case c26 => k_is)
    (case k26 => k_is); (case a27 => k_is); (case l27 => k_is); (case c27 => k_is); (case k27 => k_is); (case a28 => k_is)
    (case l28 => k_is); (case c28 => k_is); (case k28 => k_is); (case a29 => k_is); (case l29 => k_is); (case c29 => k_is)
    (case k29 => k_is); (case a30 => k_is); (case l30 => k_is); (case c30 => k_is); (case k30 => k_is); (case a31 => k_is)
    (case l31 => k_is); (case c31 => k_is); (case k31 => k_is); (case a32 => k_is); (case l32 => k_is); (case c32 => k_is)
    (case k32 => k_is); (case a33 => k_is); (case l33 => k_is); (case c33 => k_is); (case k33 => k_is); (case a34 => k_is)
    (case l34 => k_is); (case c34 => k_is); (case k34 => k_is); (case a35 => k_is); (case l35 => k_is); (case c35 => k_is)
    (case k35 => k_is); (case a36 => k_is); (case l36 => k_is); (case c36 => k_is); (case k36 => k_is); (case a37 => k_is)
    (case l37 => k_is); (case c37 => k_is); (case k37 => k_is); (case a38 => k_is); (case l38 => k_is); (case c38 => k_is)
    (case k38 => k_is); (case a39 => k_is); (case l39 => k_is); (case c39 => k_is); (case k39 => k_is); (case y0 => k_is)
    (case y1 => k_is); (case y2 => k_is); (case y3 => k_is); (case y4 => k_is); (case z0 => k_is); (case z1 => k_is)
    (case z2 => k_is); (case z3 => k_is); (case z4 => k_is); (case z5 => k_is); (case z6 => k_is); (case z7 => k_is)
    (case z8 => k_is); (case z9 => k_is); (case z10 => k_is); (case z11 => k_is); (case z12 => k_is); (case zenumerate => k_is)
    (case zreversed => k_is); (case zany => k_is)
