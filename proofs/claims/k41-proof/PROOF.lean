import PyProof.Rows.All
import Wide.All
import OpenK.AllK
import Wide.FinOn
import Lean
import PyProof.EqAt
import PyProof.EqKinds
import PyProof.TupleCall
import PyProof.NeKinds
import PyProof.Draws
import PyProof.SumWalkG
import PyProof.ListRange
import PyProof.ZipIter
import PyProof.Rows.SortRev
import KE.IntBitsLaws
import PyProof.ListMulRoad
import PyProof.TupleKey
import PyProof.StationsW
import PyProof.RulesAs
import PyProof.NsDelKeeps
import PyProof.Rows.Own
import PyProof.Rows.Catch
import KE.KTryMore
import KE.KIsNot
import OpenK.KDescr
import PyProof.ExcAttrAll.ValueError
import PyProof.FString
import KE.KItemsList
import KE.KPairComp
import PyProof.DictWalks
import PyProof.Rows.SortShellK
import KE.KSortTup
import KE.KDictSum
import PyProof.ReprRoads
import PyProof.ReprLen
import PyProof.CallStr
import PyProof.Rows.RuleIs
import PyProof.Rows.SeqMore2
import KE.KRevIter
import PyProof.StrLawsRepr
import PyProof.RulesTry
import PyProof.InstStoreFacts
import OpenK.KMake
import PyProof.FactsAll.range_2
import PyProof.RangeFor
import PyProof.Rows.TupAdd
import PyProof.Rows.StrJoin2
import PyProof.Rows.Range3
import PyProof.Rows.SetFrom
import PyProof.WalksMore
import PySem.Challenge.RW_fewreels_k41_whole_no_placing_reads_less
open List renaming getElem?_eq_getElem → Yaa, length_map → Yac, getElem?_eq_some_iff → Yad, replicate → Yai, mem_append → Yaj, length_append → Yak, getElem?_map → Yam, mem_cons → Yao, mem_cons_self → Yaq, mem_cons_of_mem → Yar, getD_eq_getElem?_getD → Yat, mem_of_getElem? → Yau, map_append → Yay, length_take → Yaz, mem_append_right → YaA, size_toArray → YaC, mem_singleton → YaF, mem_map → YaG, map_cons → YaH, getElem?_append_right → YaI, getElem?_append_left → YaL, take_append_drop → YaM, append_assoc → YaN, take_length → YaO, pairwise_append → YaR, sum_cons → YaS, range → YaT, length_cons → YaU, pairwise_cons → YaZ, mem_append_left → Ya0, pairwise_map → Ya1, getElem?_set_ne → Ya5, mergeSort_perm → Ya8, flatten_cons → Ya9, zip → Ybd, take_add_one → Ybe, mem_range → Ybg, length_replicate → Ybk, not_mem_nil → Ybm, take_of_length_le → Ybn, replicate_succ → Ybo, length_drop → Ybp, ext_getElem → Ybr, mem_of_mem_take → Ybt, getElem_of_mem → Ybu, getElem_mem → Ybw, mem_of_mem_drop → Ybz, append_nil → YbI, lookup_cons → YbJ, nodup_cons → YbL, pairwise_mergeSort → YbP, take_zero → YbQ, map_congr_left → YbR, filterMap_cons → YbS, mem_replicate → YbZ, mem_iff_getElem? → Yb0, getElem?_eq_none → Yb1, reverse_cons → Yb6, length_range → Yb7, getElem?_take_of_lt → Yb8, map_nil → Yb9, length_reverse → Yca, zipWith → Ycg, map_map → Ych, getElem?_eq_none_iff → Yct, nodup_range → Ycu, all_eq_true → Ycv, length → Ycx, getElem?_range → Ycy, flatten_append → Ycz, getElem?_replicate → YcC, find?_cons → YcD, take_succ_eq_append_getElem → YcG, flatten_replicate_singleton → YcH, reverse_perm → YcK, getElem_take → YcL, mem_reverse → YcP, getElem_map → YcQ, cons_append → YcR, getElem?_mapIdx → YcU, dropLast_concat_getLast → YcV, sum_append → YcW, reverse_append → YcX, count_cons → YcY, nodup_iff_pairwise_ne → Yc5, getElem?_drop → Yc6, filterMap_map → Yc7, pairwise_iff_getElem → Yc9, nodup_nil → Yda, nodup_append → Ydd, getElem_drop → Yde, getD → Ydf, ext_getElem? → Ydg, map_take → Ydi, length_eq_zero_iff → Ydj, reverse_nil → Ydo, mem_flatten → Ydp, getElem?_set_self → Ydr, pairwise_reverse → Ydu, length_set → Ydv, length_nil → Ydw, zip_cons_cons → YdK, mem_filterMap → YdL, map_drop → YdM, take_sublist → YdR, zipIdx_cons → YdX, any_eq_true → YdY, of_mem_zip → Yeb, nil_append → Yec, mem_filter → Yed, map_id → Yee, forIn_cons → Yef, foldl_cons → Yeg, perm_ext_iff_of_nodup → Yes, perm_append_singleton → Yet, take_left → YeE, getElem?_zip_eq_some → YeF, drop_eq_getElem_cons → YeG, foldl → YeL, pairwise_singleton → YeN, pairwise_replicate → YeO, any_cons → YeP, zipWith_cons_cons → YeS, pairwise_lt_range → YeT, perm_append_comm → YeZ, extract → Ye0, perm_cons_erase → Yfa, mem_iff_getElem → Yfb, map_eq_cons_iff → Yfc, getElem?_of_mem → Yfd, dropLast_concat → Yfe, length_flatten → Yfj, map_replicate → Yfr, mapIdx_append → Yfs, count_filter → YfA, count_append → YfB, Nodup → YfC, perm_middle → YfF, getElem_inj → YfG, filter_cons → YfH
open PySem.Heap renaming get?_push_of_some → Yab, lt_size → Yah, get?_push_size → Yas, size_push → YaY, SameBut → Yck, get?_update_self → Ydx, IsTuple → Ydy, ExtBut → YdE, IsList → Yeh, get?_update_other → YeU, get?_update_ne → Yfk
open PySem.W renaming Frag → Yae, keepIn → Yan, nsIn → Yap, codeIn → Yav, fnOf → YaB, mg_none_of → YaX, kia_one → YbG, kitOne → Yc0, findIn → Yc1, kia_tup → Ydk, methodObj → YdG, kitx_list → YdH, kat_nil → YdT, instObj → YdU, OpenLaw → YdV, lookIn → Yd2, kitAny → Yd3, cellsFrom_some → YeA, kitx_tuple → YeW, callWith_K → YeX, specialIn → Ye5, kitx_dict → Ye6, kitx_bool → Ye7, plainGet → Yfh, kitx_int → Yfi, mg_of → YfD, WalkO → YfE
open Array renaming getElem?_toList → Yaf, length_toList → Yax, getElem?_eq_getElem → YaP, getElem?_eq_some_iff → Ya6, getD_eq_getD_getElem? → Ybb, toList_append → Ybi, getD → YbN, toList_reverse → Ycq, toList_push → YcJ, toList_extract → YcT, mem_toList_iff → YdD, toList_setIfInBounds → Yek, perm_iff_toList_perm → Yel, getElem?_replicate → YeK, forIn_toList → Yfl
open Nat renaming le_refl → Yag, lt_of_lt_of_le → Yal, ne_of_lt → Yaw, zero_le → YaW, le_of_lt → Ya2, lt_irrefl → Ya7, lt_or_ge → Ybl, lt_succ_self → Ybs, le_trans → Ybv, lt_succ_of_lt → Yby, ne_of_gt → YbA, not_lt_zero → YbC, zero_add → YbF, lt_of_le_of_lt → Yce, min_eq_left → Ycm, add_le_add_left → Yc2, lt_trichotomy → Ydh, le_succ → Ydm, add_sub_cancel_left → Ydn, le_add_right → Ydq, add_zero → Ydz, eq_zero_or_pos → YdN, mod_lt → YdW, min_eq_right → Yd4, max_eq_right → Yd5, le_of_not_lt → Yd6, div_div_eq_div_mul → YeY, succ_pos → Ye8, lt_trans → Ye9, add_lt_add_left → Yfq, lt_or_eq_of_le → Yfy
open Bool renaming false_eq_true → YaD, false_ne_true → YaV, not_true → Yb2, eq_iff_iff → YcF, and_eq_true → YcS, or_eq_true → Yej, not_false → YeJ
open Option.some renaming inj → YaE
open Or renaming inl → YaJ, inr → Ydb
open PySem.Value renaming ref → YaK, type → YbV, none → Ycb, isInt → Yd0, int → Yd1, bool → Yez, str → YeR
open Int renaming toNat_natCast → YaQ, emod_nonneg → Ya4, emod_lt_of_pos → Yba, le_refl → Ybx, mul_le_mul_of_nonneg_right → YbB, natCast_add → YdB, mul_comm → YdC, toNat → YdQ, add_zero → YdZ, mul_le_mul_of_nonneg_left → Yd7, mul_sub → Yeu, le_antisymm → Yev, add_mul → Yew, fdiv_eq_ediv_of_nonneg → YeH, zero_add → Yff
open PySem.Builtin.Int renaming intBits → Ya3
open PySem.Builtin.SmallTypes renaming nextOf → Ybc, ownedTupleIsFree → YbK, ownedTupleHandOut → Yc4
open PySem.PassesOwn renaming never → Ybf
open ForInStep renaming yield → Ybh, done → Yco
open PySem renaming boot_len → Ybj, mem_of_lookup → YbD, evalArgs_none → Ye4, call → Yfn
open Ne renaming symm → Ybq
open Sum renaming inl → YbE, inr → Yem
open PySem.F renaming plainAttrs_list → YbH, type_list_append → Yb3, slot_list_append → Yb4, slot_dict_get → Ydl, args_tuple_add_2 → Yea, slot_dict_items → Yen, plainAttrs_dict → Yeo, entry_tuple_add → Yep, args_dict_get_3 → Yeq, slot_tuple_add → YeB, entry_dict_get → YeC
open List.Pairwise renaming nil → YbM, imp_of_mem → Yci
open PyProof.Rows renaming callWith_type1 → YbO, slot_tuple_getitem → Ycw
open PySem.SetTable.probe renaming go → YbT
open Decidable renaming byContradiction → YbU
open Option renaming toList_some → YbW, map_some → YcB, isSome_iff_exists → Yer, getD_some → Yfo, getD_none → Yfp
open True renaming intro → YbX
open PySem.Obj renaming mapSeq → YbY, putSet → YeM, data_mapFields → Yfx
open PySem.NameKind renaming free → Yb5, cell → Yfz
open List.Perm renaming append_left → Ycc, refl → Ycn, swap → YcE, eq_of_pairwise → Yc3, append_right → Ydc, trans → YdO, of_eq → YdP
open PySem.Builtin.Slice renaming slicePlaces → Ycd, sliceAdjust → YcO, sliceApplied → YdF
open PyProof.Rows.KeyOrd renaming kle_refl → Ycf, kle_of_klt → Ycj, kle_trans → YcN, kle_antisymm → Ye1
open PySem.Builtin.Tuple renaming tupleExact → Ycl
open PySem.Builtin.List renaming listTooLong → Ycp
open PySem.AutoSeq1 renaming wpAny_loadPart' → Ycr
open PySem.Shared renaming heap → Ycs
open False renaming elim → YcA
open PySem.Calls renaming callWith_builtin → YcI, spliced_cons → YdI, Name_function_global → Yei, call_function_entry → Yex, evalArgs_plain → Ye2, spliced_nil → Yfu
open PySem.Heap.SameBut renaming update → YcM
open PySem.Str renaming empty → YcZ, ofString → Yc8
open PySem.Builtin.Frozenset renaming updateFrom → Yds
open PySem.SetTable renaming fresh → Ydt, fill → Yd9, slot → Yfv, fits → Yfw
open List.cons renaming inj → YdA
open PyProof.Rows.SortSt renaming mk' → YdJ
open Sum.inl renaming inj → YdS
open PySem.Heap.IsSliceOf renaming new → Yd8
open PySem.Walks renaming list → Yey, tuple → Ye3
open PySem.Paired renaming length → YeD
open PySem.Heap.IsTuple renaming push → YeI
open PySem.Heap.IsList renaming push → YeQ
open PySem.Around renaming under_plainId → YeV, under_plain → Yfg
open PySem.SetFound renaming there → Yfm
open PySem.Code renaming quiet_builtin → Yft
set_option Elab.async false
set_option linter.all false
set_option maxRecDepth 100000
namespace L2
open PySem PySem.Spec PyProof.Rows
abbrev Key:=Sum Int Str
def Zgi:Key->Value->Bool
 | .inl k,v=>Yd0 k v
 | .inr x,v=>Value.isStrOf x v
def keyH (w:World):Key->Int
 | .inl k=>hashInt k
 | .inr x=>hashStr w x
theorem ZaG:∀ {k:Key}{v:Value},Zgi k v=true->(∃ i t,k=YbE i/\v=Yd1 i t)∨(∃ x t,k=Yem x/\v=YeR x t)
 | .inl i,v,h=>by
  obtain⟨t,e⟩:=Value.isInt_shape (k:=i) (v:=v) h;exact .inl ⟨i,t,rfl,e⟩
 | .inr x,v,h=>by
  obtain⟨t,e⟩:=Value.isStrOf_shape (x:=x) (v:=v) h;exact .inr ⟨x,t,rfl,e⟩
theorem ZjJ (i:Int) (t:Tok):Zgi (.inl i) (.int i t)=true:=by simp[Zgi,Yd0]
theorem ZjI (x:Str) (t:Tok):Zgi (.inr x) (.str x t)=true:=by simp[Zgi,Value.isStrOf]
theorem Zoo (a b:Int):decide ((YbE a:Key)=YbE b)=(a == b):=by
 by_cases e:a=b
 ·subst e;simp
 ·have h:¬ (YbE a:Key)=YbE b:=fun q=>e (YdS q);rw[decide_eq_false h];exact (beq_eq_false_iff_ne.mpr e).symm
theorem Zol (a b:Str):decide ((Yem a:Key)=Yem b)=decide (a=b):=by
 by_cases e:a=b
 ·subst e;simp
 ·have h:¬ (Yem a:Key)=Yem b:=fun q=>e (Sum.inr.inj q);rw[decide_eq_false h,decide_eq_false e]
theorem Zon (a:Int) (b:Str):decide ((YbE a:Key)=Yem b)=false:=decide_eq_false (fun q=>nomatch q)
theorem Zom (a:Str) (b:Int):decide ((Yem a:Key)=YbE b)=false:=decide_eq_false (fun q=>nomatch q)
def ZaD (prog:Program) (w:World):PySem.KeyKind prog w Key where
 is:=Zgi
 hash:=keyH w
 inj:=fun v a b ha hb=>by
  rcases ZaG ha with ⟨i,t,rfl,rfl⟩ | ⟨x,t,rfl,rfl⟩
  ·rcases ZaG hb with ⟨j,u,rfl,e⟩ | ⟨y,u,rfl,e⟩
   ·injection e with e1 _;rw[e1]
   ·exact nomatch e
  ·rcases ZaG hb with ⟨j,u,rfl,e⟩ | ⟨y,u,rfl,e⟩
   ·exact nomatch e
   ·injection e with e1 _;rw[e1]
 byValue:=fun k v h=>by
  rcases ZaG h with ⟨i,t,rfl,rfl⟩ | ⟨x,t,rfl,rfl⟩ <;> rfl
 pyHash:=fun hv h=>by
  rcases ZaG hv with ⟨i,t,rfl,rfl⟩ | ⟨x,t,rfl,rfl⟩
  ·exact wpAny_pyHash_int h
  ·exact wpAny_pyHash_str h
 eqBool:=fun hu hv h=>by
  rcases ZaG hu with ⟨i,t,rfl,rfl⟩ | ⟨x,t,rfl,rfl⟩
  ·rcases ZaG hv with ⟨j,u,rfl,rfl⟩ | ⟨y,u,rfl,rfl⟩
   ·rw[Zoo] at h;exact wpAny_eqBool_int h
   ·rw[Zon] at h;exact SeqAt.EqAt.int_str i t y u _ _ _ _ h
  ·rcases ZaG hv with ⟨j,u,rfl,rfl⟩ | ⟨y,u,rfl,rfl⟩
   ·rw[Zom] at h;exact SeqAt.EqAt.str_int x t j u _ _ _ _ h
   ·rw[Zol] at h;exact wpAny_eqBool_str h
 «strs»:=fun k x t v h=>by
  rcases ZaG h with ⟨i,u,rfl,e⟩ | ⟨y,u,rfl,e⟩
  ·exact nomatch e
  ·injection e with e1 _;subst e1;cases v <;> rfl
theorem ZhU (prog:Program) (w:World) (k:Key) (v:Value):(ZaD prog w).is k v=Zgi k v:=rfl
theorem Zge (prog:Program) (w:World) (i:Int) (t:Tok):(ZaD prog w).is (.inl i) (.int i t)=true:=ZjJ i t
theorem Zgd (prog:Program) (w:World) (x:Str) (t:Tok):(ZaD prog w).is (.inr x) (.str x t)=true:=ZjI x t
end L2
namespace L2
open PySem PySem.Spec PyProof.Rows
inductive V where
 | non | bl (b:Bool) | int (i:Int) | str (x:Str) | byt (b:Array UInt8) | flt (b:UInt64) | ref (a:Addr) | ty (n:String)
 deriving DecidableEq
def RelV:V->Value->Prop
 | .non,u=>u=Ycb
 | .bl b,u=>u=Yez b
 | .int i,u=>∃ t,u=Yd1 i t
 | .str x,u=>∃ t,u=YeR x t
 | .byt b,u=>∃ t,u=Value.bytes b t
 | .flt b,u=>∃ t,u=Value.float b t
 | .ref a,u=>u=YaK a
 | .ty n,u=>u=YbV n
abbrev Vals:List V->List Value->Prop:=Paired RelV
theorem Vals.length {xs:List V}{us:List Value} (r:Vals xs us):xs.length=us.length:=YeD r
theorem Vals.get:∀ {xs:List V}{us:List Value}{i:Nat}{x:V},Vals xs us->xs[i]?=some x->∃ u,us[i]?=some u/\RelV x u
 | _,_,_,_,.nil,e=>by simp at e
 | _,_,0,_,.cons r _,e=>by simp at e;subst e;exact⟨_,rfl,r⟩
 | _,_,i+1,x,.cons _ t,e=>by
  obtain⟨u,h1,h2⟩:=Vals.get (i:=i) (x:=x) t (by simpa using e);exact⟨u,by simpa using h1,h2⟩
theorem Vals.set {x:V}{u:Value} (r:RelV x u):∀ {xs:List V}{us:List Value} (i:Nat),Vals xs us->Vals (xs.set i x) (us.set i u)
 | _,_,_,.nil=>.nil
 | _,_,0,.cons _ t=>.cons r t
 | _,_,i+1,.cons q t=>.cons q (Vals.set r i t)
theorem Vals.append:∀ {xs ys:List V}{us ws:List Value},Vals xs us->Vals ys ws->Vals (xs++ys) (us++ws)
 | _,_,_,_,.nil,s=>s
 | _,_,_,_,.cons r t,s=>.cons r (Vals.append t s)
theorem Vals.take:∀ {xs:List V}{us:List Value} (n:Nat),Vals xs us->Vals (xs.take n) (us.take n)
 | _,_,0,_=>.nil
 | _,_,_+1,.nil=>.nil
 | _,_,n+1,.cons r t=>.cons r (Vals.take n t)
theorem Vals.drop:∀ {xs:List V}{us:List Value} (n:Nat),Vals xs us->Vals (xs.drop n) (us.drop n)
 | _,_,0,r=>r
 | _,_,_+1,.nil=>.nil
 | _,_,n+1,.cons _ t=>Vals.drop n t
theorem Vals.none_of:∀ {xs:List V}{us:List Value}{i:Nat},Vals xs us->xs[i]?=none->us[i]?=none:=fun {xs us i} r e=>by
 have h1:=r.length;have h2:xs.length<=i:=Yct.mp e;exact Yct.mpr (by omega)
def RelO:Option V->Option Value->Prop
 | some v,some u=>RelV v u
 | none,none=>True
 | _,_=>False
def KV {κ:Type}:List (κ × V)->List (κ × Value)->Prop:=Paired fun (p:κ × V) (q:κ × Value)=>p.1=q.1/\RelV p.2 q.2
def kV:Key->V
 | .inl i=>.int i
 | .inr x=>.str x
inductive HO where
 | lst (xs:List V)
 | tup (xs:List V)
 | dK (kvs:List (Key × V)) | dT (kvs:List (List Key × V))
 | set (S:Int->Bool) (n:Nat)
 | ins (C dx:Addr) (fs:List (Str × V))
 | own (x:Addr)
 | xd (fs:List (Str × V))
 | met (f x:Addr)
 | rng (lo hi:Int)
 | frz (o:Obj) (u:HO)
 | tbl (ps:Array Value)
 | ext (φ:Heap->Prop)
abbrev Hp:=Addr->Option HO
def upd (H:Hp) (a:Addr) (o:HO):Hp:=fun b=>if b=a then some o else H b
theorem Zab {H:Hp}{a:Addr}{o:HO}:upd H a o a=some o:=by unfold upd;rw[if_pos rfl]
theorem Zaf {H:Hp}{a b:Addr}{o:HO} (h:b≠a):upd H a o b=H b:=by unfold upd;rw[if_neg h]
theorem Zmt {H:Hp}{a:Addr}{o u:HO}:upd (upd H a o) a u=upd H a u:=by
 funext b;unfold upd;split <;> rfl
theorem Znd {H:Hp}{a b:Addr}{o u:HO} (h:H a=some o) (h':H b=some u) (d:o≠u):a≠b:=by
 intro e;subst e;rw[h] at h';exact d (YaE h')
theorem Zag {H:Hp}{a b:Addr}{o:HO} (h:H a=some o) (h':H b=none):a≠b:=by
 intro e;subst e;rw[h] at h';cases h'
def IsTupD (h:Heap) (a:Addr) (items:Array Value):Prop:=∃ o,h.get? a=some o/\o.cls=.type "tuple"/\o.dict=none/\∃ n,o.data=.seq items n
theorem IsTupD.tup {h:Heap}{a:Addr}{items:Array Value} (x:IsTupD h a items):IsTup h a items:=let ⟨o,e,c,_,d⟩:=x;⟨o,e,c,d⟩
theorem IsTupD.new (h:Heap) (items:Array Value):IsTupD (h.push { cls:=.type "tuple",data:=.seq items }) h.objs.size items:=⟨_,Yas _ rfl,rfl,rfl,_,rfl⟩
section
variable (P:Program) (w:World)
def ObjOk (H:Hp) (h:Heap) (a:Addr):HO->Prop
 | .lst xs=>xs.length<=sizeLine/\∃ (its:List Value) (n:Nat),Vals xs its/\h.get? a=some { cls:=.type "list",data:=.seq its.toArray n }
 | .tup xs=>xs.length<=sizeLine/\∃ its:List Value,Vals xs its/\IsTupD h a its.toArray
 | .dK kvs=>kvs.length<=sizeLine/\(a == sysModules)=false/\∃ vs,KV kvs vs/\h.DictOf (ZaD P w) a vs
 | .dT kvs=>kvs.length<=sizeLine/\(a == sysModules)=false/\∃ xs:List (List Key × Addr × Value),
   Paired (fun (p:List Key × V) (q:List Key × Addr × Value)=>p.1=q.1/\H q.2.1=some (.tup (p.1.map kV))/\RelV p.2 q.2.2) kvs xs /\
   ∃ o es ep,h.get? a=some o/\o.ExactDict/\o.data=.dict es ep/\es.toList=xs.map (entryOfKey (tupleKind (ZaD P w)))/\(xs.map (·.1)).Nodup
 | .set S n=>h.SetOf (intKind P w) a S n
 | .ins C dx fs=>H dx=some (.own a)/\fs.length<=1000/\dx≠a/\h.get? a=some (YdU C dx) /\
   ∃ mA,h.Ns1 dx mA/\(∀ f,RelO (fs.lookup f) (mA f))/\PySem.Within mA (fs.map (·.1))
 | .own _=>∃ o,h.get? a=some o
 | .xd fs=>∃ mA,h.Ns1 a mA/\∀ f,RelO (fs.lookup f) (mA f)
 | .rng lo hi=>∃ t u v,h.get? a=some { cls:=.type "range",data:=.fields #[.int lo t,.int hi u,.int 1 v] }
 | .frz o u=>h.get? a=some o/\ObjOk H h a u
 | .tbl ps=>h.get? a=some { cls:=.none,data:=.fields ps }
 | .met f x=>h.get? a=some (YdG (.ref f) (.ref x))
 | .ext φ=>φ h/\(∃ o,h.get? a=some o)/\∀ h1 h2:Heap,φ h1->(∀ o,h1.get? a=some o->h2.get? a=some o)->φ h2
def HOk (H:Hp) (h:Heap):Prop:=∀ a o,H a=some o->ObjOk P w H h a o
end
section
variable {P:Program}{w:World}{H H':Hp}{h h':Heap}{a:Addr}{o:HO}
theorem ObjOk.lt (x:ObjOk P w H h a o):a<h.objs.size:=by
 cases o with
 | lst xs=>obtain⟨_,_,_,_,e⟩:=x;exact Yah e
 | tup xs=>obtain⟨_,_,_,p⟩:=x;exact p.tup.lt
 | dK kvs=>obtain⟨_,_,_,_,o,_,_,e,_⟩:=x;exact Yah e
 | dT kvs=>obtain⟨_,_,_,_,o,_,_,e,_⟩:=x;exact Yah e
 | set S n=>obtain⟨o,_,_,_,e,_⟩:=x;exact Yah e
 | ins C dx fs=>obtain⟨_,_,_,e,_⟩:=x;exact Yah e
 | own y=>obtain⟨_,e⟩:=x;exact Yah e
 | xd fs=>obtain⟨_,⟨_,_,_,e,_⟩,_⟩:=x;exact Yah e
 | rng lo hi=>obtain⟨_,_,_,e⟩:=x;exact Yah e
 | frz ob u=>obtain⟨e,_⟩:=x;exact Yah e
 | tbl ps=>exact Yah (show h.get? a=some _ from x)
 | met f y=>exact Yah (show h.get? a=some _ from x)
 | ext φ=>obtain⟨_,⟨_,e⟩,_⟩:=x;exact Yah e
theorem Paired.mapP {α β:Type}{F G:α->β->Prop}:∀ {l₁:List α}{l₂:List β},Paired F l₁ l₂->(∀ a b,F a b->G a b)->Paired G l₁ l₂
 | _,_,.nil,_=>.nil
 | _,_,.cons r t,f=>.cons (f _ _ r) (Paired.mapP t f)
theorem ObjOk.stay (x:ObjOk P w H h a o) (k:∀ b u,(b=a∨H b=some (.own a))->h.get? b=some u->h'.get? b=some u)
  (ho:∀ b,H b=some (.own a)->H' b=some (.own a)) (ht:∀ b xs,H b=some (.tup xs)->H' b=some (.tup xs)):ObjOk P w H' h' a o:=by
 induction o with
 | lst xs=>obtain⟨z,its,n,r,e⟩:=x;exact⟨z,its,n,r,k _ _ (.inl rfl) e⟩
 | tup xs=>obtain⟨z,its,r,ob,e,c⟩:=x;exact⟨z,its,r,ob,k _ _ (.inl rfl) e,c⟩
 | dK kvs=>obtain⟨z,y,vs,r,ob,es,ep,e,c⟩:=x;exact⟨z,y,vs,r,ob,es,ep,k _ _ (.inl rfl) e,c⟩
 | dT kvs=>
  obtain⟨z,y,xs,r,ob,es,ep,e,c⟩:=x;exact⟨z,y,xs,Paired.mapP r fun p q z=>⟨z.1,ht _ _ z.2.1,z.2.2⟩,ob,es,ep,k _ _ (.inl rfl) e,c⟩
 | set S n=>obtain⟨ob,es,ep,t,e,c⟩:=x;exact⟨ob,es,ep,t,k _ _ (.inl rfl) e,c⟩
 | ins C dx fs=>
  obtain⟨d,z,ne,e,mA,⟨od,es,ep,e2,c⟩,r⟩:=x;exact⟨ho _ d,z,ne,k _ _ (.inl rfl) e,mA,⟨od,es,ep,k _ _ (.inr d) e2,c⟩,r⟩
 | own y=>obtain⟨ob,e⟩:=x;exact⟨ob,k _ _ (.inl rfl) e⟩
 | xd fs=>obtain⟨mA,⟨od,es,ep,e,c⟩,r⟩:=x;exact⟨mA,⟨od,es,ep,k _ _ (.inl rfl) e,c⟩,r⟩
 | rng lo hi=>obtain⟨t,u,v,e⟩:=x;exact⟨t,u,v,k _ _ (.inl rfl) e⟩
 | frz ob u ih=>obtain⟨e,q⟩:=x;exact⟨k _ _ (.inl rfl) e,ih q⟩
 | tbl ps=>
  have e:h.get? a=some { cls:=.none,data:=.fields ps }:=x;show h'.get? a=some { cls:=.none,data:=.fields ps };exact k a _ (.inl rfl) e
 | met f y=>
  have e:h.get? a=some (YdG (.ref f) (.ref y)):=x;show h'.get? a=some (YdG (.ref f) (.ref y));exact k a _ (.inl rfl) e
 | ext φ=>obtain⟨p,⟨o,e⟩,st⟩:=x;exact⟨st _ _ p fun o q=>k _ _ (.inl rfl) q,⟨o,k _ _ (.inl rfl) e⟩,st⟩
theorem HOk.lt (x:HOk P w H h) (e:H a=some o):a<h.objs.size:=(x a o e).lt
theorem HOk.fresh (x:HOk P w H h) (e:h.objs.size<=a):H a=none:=by
 cases q:H a with
 | none=>rfl
 | some u=>exact absurd (Yal (x.lt q) e) (Ya7 _)
theorem HOk.kept (x:HOk P w H h) (k:∀ b u,h.get? b=some u->h'.get? b=some u):HOk P w H h':=fun a o e=>
 (x a o e).stay (fun b u _ q=>k b u q) (fun _ q=>q) fun _ _ q=>q
theorem HOk.laid (x:HOk P w H h) (k:∀ b u,h.get? b=some u->h'.get? b=some u) (hp:h.objs.size<=a) (new:ObjOk P w (upd H a o) h' a o):HOk P w (upd H a o) h':=fun b u e=>by
 have hn:=x.fresh hp;by_cases hb:b=a
 ·subst hb;rw[Zab] at e;cases e;exact new
 ·rw[Zaf hb] at e;exact (x b u e).stay (fun c v _ q=>k c v q) (fun c q=>by rw[Zaf (Zag q hn)];exact q) fun c xs q=>by rw[Zaf (Zag q hn)];exact q
end
def Rd (H:Hp) (a:Addr) (u:HO):Prop:=H a=some u∨∃ o,H a=some (.frz o u)
theorem Rd.ok {P:Program}{w:World}{H:Hp}{h:Heap}{a:Addr}{u:HO} (r:Rd H a u) (x:HOk P w H h):ObjOk P w H h a u:=by
 rcases r with r | ⟨o,r⟩
 ·exact x a u r
 ·obtain⟨_,q⟩:=x a _ r;exact q
def Mut:Option HO->Prop
 | some (.lst _)=>True
 | some (.dK _)=>True
 | some (.dT _)=>True
 | some (.set _ _)=>True
 | some (.ins _ _ _)=>True
 | some (.ext _)=>True
 | _=>False
section
variable {P:Program}{w:World}{H:Hp}{h h':Heap}{x e:Addr}{o':HO}
theorem HOk.write (ok:HOk P w H h) (mu:Mut (H x)) (he:e=x∨H e=some (.own x)) (k:∀ b u,b≠e->h.get? b=some u->h'.get? b=some u) (heo:∃ u,h'.get? e=some u)
  (new:ObjOk P w (upd H x o') h' x o'):HOk P w (upd H x o') h':=fun b u q=>by
 have nown:∀ c y,H c=some (.own y)->c≠x:=fun c y r z=>by subst z;rw[r] at mu;exact mu
 have ntup:∀ c xs,H c=some (.tup xs)->c≠x:=fun c xs r z=>by subst z;rw[r] at mu;exact mu
 by_cases hb:b=x
 ·subst hb;rw[Zab] at q;cases q;exact new
 ·rw[Zaf hb] at q;by_cases hbe:b=e
  ·have q':H b=some (.own x):=by
    rcases he with z | z
    ·exact absurd (hbe.trans z) hb
    ·rw[hbe];exact z
   rw[q] at q';cases q';obtain⟨v,hv⟩:=heo;exact⟨v,by rw[hbe];exact hv⟩
  ·refine (ok b u q).stay (fun c v hc r=>k c v ?_ r) (fun c r=>by rw[Zaf (nown c b r)];exact r) fun c xs r=>by rw[Zaf (ntup c xs r)];exact r
   rcases hc with rfl | hc
   ·exact hbe
   ·rintro rfl;rcases he with z | z
    ·exact nown c b hc z
    ·rw[hc] at z;cases z;exact hb rfl
end
structure Un (fs ex:List Addr) (H H':Hp) (h h':Heap):Prop where
 keep:∀ b o,h.get? b=some o->H b=none->b ∉ fs->b ∉ ex->h'.get? b=some o
 slot:∀ b o,h.get? b=some o->H b=none->b∈fs->b ∉ ex->∃ sl,h'.get? b=some { o with slots:=sl }
 free:∀ b o,h.get? b=some o->H b=none->b ∉ ex->H' b=none
 there:∀ b o,h.get? b=some o->b ∉ ex->∃ o',h'.get? b=some o'
 tups:∀ b xs,H b=some (.tup xs)->H' b=some (.tup xs)
 frzs:∀ b o u,H b=some (.frz o u)->H' b=some (.frz o u)
 tbls:∀ b ps,H b=some (.tbl ps)->∃ more,H' b=some (.tbl (ps++more))
section
variable {fs fs' ex ex':List Addr}{H H1 H2:Hp}{h h1 h2 h':Heap}{a x e:Addr}{o:HO}
theorem Un.any (u:Un fs ex H H1 h h1) {b:Addr}{ob:Obj} (q:h.get? b=some ob) (n:H b=none) (hx:b ∉ ex):∃ sl,h1.get? b=some { ob with slots:=sl }:=by
 by_cases hb:b∈fs
 ·exact u.slot b ob q n hb hx
 ·exact⟨ob.slots,u.keep b ob q n hb hx⟩
theorem Un.kept (k:∀ b u,h.get? b=some u->h'.get? b=some u):Un fs ex H H h h' :=
 ⟨fun b ob q _ _ _=>k b ob q,fun b ob q _ _ _=>⟨ob.slots,k b ob q⟩,fun _ _ _ n _=>n,fun b ob q _=>⟨ob,k b ob q⟩,fun _ _ q=>q,fun _ _ _ q=>q,fun _ ps q=>⟨#[],by rw[q];simp⟩⟩
theorem Un.refl:Un fs ex H H h h:=Un.kept fun _ _ q=>q
theorem Un.laid (k:∀ b u,h.get? b=some u->h'.get? b=some u) (hp:h.objs.size<=a) (hn:H a=none):Un fs ex H (upd H a o) h h' where
 keep:=fun b u q _ _ _=>k b u q
 slot:=fun b u q _ _ _=>⟨u.slots,k b u q⟩
 free:=fun b u q n _=>by rw[Zaf (Yaw (Yal (Yah q) hp))];exact n
 there:=fun b u q _=>⟨u,k b u q⟩
 tups:=fun b xs q=>by rw[Zaf (Zag q hn)];exact q
 frzs:=fun b u xs q=>by rw[Zaf (Zag q hn)];exact q
 tbls:=fun b ps q=>⟨#[],by rw[Zaf (Zag q hn),q];simp⟩
theorem Un.write (mu:Mut (H x)) (he:e=x∨H e=some (.own x)) (k:∀ b u,b≠e->h.get? b=some u->h'.get? b=some u) (heo:∃ u,h'.get? e=some u):Un fs ex H (upd H x o) h h':=by
 have hx:∀ b,H b=none->b≠x:=fun b n z=>by subst z;rw[n] at mu;exact mu
 have hb:∀ b,H b=none->b≠e:=fun b n z=>by
  subst z;rcases he with r | r
  ·exact hx b n r
  ·rw[n] at r;cases r
 have hm:∀ b u,H b=some u->¬ Mut (some u)->b≠x:=fun b u q nm z=>by subst z;rw[q] at mu;exact nm mu
 refine⟨fun b u q n _ _=>k b u (hb b n) q,fun b u q n _ _=>⟨u.slots,k b u (hb b n) q⟩,fun b u q n _=>by rw[Zaf (hx b n)];exact n,fun b u q _=>?_,
  fun b xs q=>by rw[Zaf (hm b _ q fun z=>z)];exact q,fun b u xs q=>by rw[Zaf (hm b _ q fun z=>z)];exact q,fun b ps q=>⟨#[],by rw[Zaf (hm b _ q fun z=>z),q];simp⟩⟩
 by_cases hbe:b=e
 ·subst hbe;exact heo
 ·exact⟨u,k b u hbe q⟩
end
def trk (h:Heap) (H:Hp):List Addr:=(YaT h.objs.size).filter fun a=>(H a).isSome
def hidT (h:Heap) (H:Hp):Heap:=PySem.W.hideAll h (trk h H)
theorem ZjV (h:Heap) (H:Hp):(hidT h H).objs.size=h.objs.size:=PySem.W.hideAll_size _ _
theorem ZlB {h:Heap}{H:Hp}{b:Addr}{o:Obj} (e:h.get? b=some o) (n:H b=none):(hidT h H).get? b=some o :=
 PySem.W.hideAll_get _ e fun hm=>by
  have q:(H b).isSome=true:=(Yed.mp hm).2
  rw[n] at q;simp at q
theorem Znb {h:Heap}{H:Hp}{b:Addr}{o:Obj} (e:(hidT h H).get? b=some o):h.get? b=some o/\H b=none:=by
 have e':h.get? b=some o:=PySem.W.of_hideAll (trk h H) e;refine⟨e',?_⟩
 cases q:H b with
 | none=>rfl
 | some x=>
  have hm:b∈trk h H:=Yed.mpr ⟨Ybg.mpr (Yah e'),by simp[q]⟩;have z:(hidT h H).get? b=none:=PySem.W.hideAll_none (trk h H) hm;rw[z] at e;cases e
def ZnB (g h:Heap) (L:Addr):List (Addr × Obj):=(YaT h.objs.size).filterMap fun a=>if a=L∨(g.get? a).isSome=true then none else (h.get? a).map fun o=>(a,o)
def rest (g h:Heap) (L d:Addr):List (Addr × Obj):=(ZnB g h L).filter fun p=>decide (p.1≠d)
end L2
namespace L2
open PySem PySem.Spec PyProof.Rows
structure Mod (K:Yae) (mg:Str->Option Value) (base:Heap):Prop where
 kin:K.In base
 glob:base.Ns mainGlobals mg
 blt:∃ mb,base.Ns builtinsNs mb/\∀ x:Str,x≠"__name__"->mb x=bootBuiltins x
 nolimit:base.NoLimit
structure Cx where
 prog:Program
 w:World
 K:Yae
 mg:Str->Option Value
 base:Heap
 A:Around
 N:List Str
 s₀:Shared
 H₀:Hp
 env:Env
 outer:List Env
 stack:List Env
 ex:List Addr
 fn:Str->Bool
 calm:Bool
 pn:List (Addr × Obj)
 xe:Value->Shared->Prop
def frs (l:List Env):List Addr:=l.filterMap (·.frame)
abbrev Cx.fs (X:Cx):List Addr:=frs X.outer
def Vis (sc:Scope) (x:Str):Prop:=sc.names.lookup x=some .local ∨ sc.names.lookup x=some .cell∨sc.names.lookup x=some .free
def Loc (sc:Scope) (x:Str):Prop:=sc.names.lookup x=some .local ∨ sc.names.lookup x=some .cell
def Look (env:Env) (h:Heap) (m:Str->Option Value) (x:Str) (u:Value):Prop :=
 (env.kindOf x=some .local /\ m x=some u)∨((env.kindOf x=some .cell∨env.kindOf x=some .free)/\∃ c,env.cells.lookup x=some c/\h.IsCell c (some u))
structure Cx.Ok (X:Cx):Prop where
 mod:Mod X.K X.mg X.base
 kind:X.env.scope.kind=.function
 glob:X.env.globals=mainGlobals
 blt:X.env.builtins=builtinsNs
 above:X.s₀.heap.objs.size<=X.env.locals
 inj:∀ x y c,X.env.cells.lookup x=some c->X.env.cells.lookup y=some c->x=y
 has:∀ x,(X.env.kindOf x=some .cell∨X.env.kindOf x=some .free)->∃ c,X.env.cells.lookup x=some c
 cab:∀ x c,X.fn x=true->X.env.cells.lookup x=some c->X.s₀.heap.objs.size<=c
 hd:X.calm=true->X.A.handled=none
 frames:X.A.frames=some X.stack
 stk:X.stack=X.outer∨(X.stack=X.env::X.outer/\X.env.frame=some X.env.locals)
 exf:∀ b∈X.ex,b≠X.env.locals/\∀ x c,X.env.cells.lookup x=some c->c≠b
 bs:∀ b o,X.base.get? b=some o->X.s₀.heap.get? b=some o/\X.H₀ b=none
 bsz:X.base.objs.size<=X.s₀.heap.objs.size
 noex:∀ b o,X.base.get? b=some o->b ∉ X.ex
 exfs:∀ b∈X.ex,b ∉ X.fs
 funs:X.s₀.heap.FunFrames X.base X.outer
 frf:∀ b∈X.fs,X.H₀ b=none
structure Inv (X:Cx) (pins:List (Addr × Obj)) (σ:List (Option V)) (H:Hp) (s:Shared):Prop where
 ok:X.Ok
 os:s.os=X.s₀.os
 bare:AllBare s.gens
 base:Un X.fs X.ex X.H₀ H X.s₀.heap s.heap
 loc:∃ m,s.heap.Ns X.env.locals m/\∀ (i:Nat) (x:Str) (v:V),X.N[i]?=some x->σ[i]?=some (some v)->Vis X.env.scope x->∃ u,RelV v u/\Look X.env s.heap m x u
 cell:∀ x c,X.env.cells.lookup x=some c->∃ v,s.heap.IsCell c v
 free:H X.env.locals=none
 freeC:∀ x c,X.env.cells.lookup x=some c->H c=none
 pin:∀ p∈X.pn++pins,s.heap.get? p.1=some p.2/\H p.1=none/\p.1≠X.env.locals/\p.1 ∉ X.fs/\∀ v,p.2.data≠.cell v
 hok:HOk X.prog X.w H s.heap
 len:σ.length=X.N.length
section
variable {X:Cx}{pins:List (Addr × Obj)}{σ:List (Option V)}{H H':Hp}{s:Shared}{h':Heap}
theorem Cx.Ok.nofr (ok:X.Ok) {b:Addr}{o:Obj} (e:X.base.get? b=some o):b ∉ X.fs:=fun hb=>by
 have:=(ok.funs.mem hb).1
 rw[e] at this;cases this
theorem Inv.bs (I:Inv X pins σ H s):∀ b o,X.base.get? b=some o->s.heap.get? b=some o/\H b=none:=fun b o e=>
 ⟨I.base.keep b o (I.ok.bs b o e).1 (I.ok.bs b o e).2 (I.ok.nofr e) (I.ok.noex b o e),I.base.free b o (I.ok.bs b o e).1 (I.ok.bs b o e).2 (I.ok.noex b o e)⟩
theorem Inv.bk (I:Inv X pins σ H s):∀ b o,X.base.get? b=some o->s.heap.get? b=some o:=fun b o e=>(I.bs b o e).1
theorem Inv.mod (I:Inv X pins σ H s):Mod X.K X.mg X.base:=I.ok.mod
theorem Inv.kIn (I:Inv X pins σ H s):X.K.In s.heap:=I.ok.mod.kin.keeps I.bk
theorem Inv.lt (I:Inv X pins σ H s):X.env.locals<s.heap.objs.size:=let ⟨_,hn,_⟩:=I.loc;hn.lt
theorem Inv.sz (I:Inv X pins σ H s):X.s₀.heap.objs.size<=s.heap.objs.size:=Ybv I.ok.above (Ya2 I.lt)
theorem Inv.nofs (I:Inv X pins σ H s) {a:Addr} (h:s.heap.objs.size<=a):a ∉ X.fs:=fun hb=>by
 obtain⟨_,o,ho,_⟩:=I.ok.funs.mem hb;exact absurd (Yal (Yah ho) (Ybv I.sz h)) (Ya7 _)
theorem Inv.cne (I:Inv X pins σ H s):∀ x c,X.env.cells.lookup x=some c->c≠X.env.locals:=fun x c e z=>by
 obtain⟨v,o,ho,hd⟩:=I.cell x c e;obtain⟨m,⟨o',es,ep,ho',hd',_⟩,_⟩:=I.loc;rw[z,ho'] at ho;cases ho;rw[hd'] at hd;cases hd
theorem Inv.funs (I:Inv X pins σ H s):s.heap.FunFrames X.base X.outer:=by
 have all:∀ (l:List Env),(∀ b∈frs l,b∈X.fs)->X.s₀.heap.FunFrames X.base l->s.heap.FunFrames X.base l:=by
  intro l
  induction l with
  | nil=>intro _ _;trivial
  | cons env r ih=>
   intro hs hl;obtain⟨hk,⟨L,o,hf,hn,ho,hd⟩,hr⟩:=hl;have hL:L∈X.fs:=hs L (by unfold frs;rw[YbS,hf];exact Yaq);obtain⟨sl,e⟩:=I.base.slot L o ho (I.ok.frf L hL) hL fun z=>I.ok.exfs L z hL;exact⟨hk,⟨L,_,hf,hn,e,hd⟩,ih (fun b hb=>hs b (by unfold frs;rw[YbS,hf];exact Yar _ hb)) hr⟩
 exact all X.outer (fun _ hb=>hb) I.ok.funs
theorem Inv.stack (I:Inv X pins σ H s):s.heap.FunFrames X.base X.stack:=by
 rcases I.ok.stk with e | ⟨e,hf⟩
 ·rw[e];exact I.funs
 ·rw[e];obtain⟨m,hn,_⟩:=I.loc;refine .cons (by rw[I.ok.kind];decide) hf hn ?_ I.funs;exact Heap.get?_none_of_le (Ybv I.ok.bsz I.ok.above)
theorem Inv.stkSub (I:Inv X pins σ H s):∀ b∈frs X.stack,b∈X.env.locals::X.fs:=fun b hb=>by
 rcases I.ok.stk with e | ⟨e,hf⟩
 ·rw[e] at hb;exact Yar _ hb
 ·rw[e] at hb;unfold frs at hb;rw[YbS,hf] at hb;exact hb
theorem Inv.stkFree (I:Inv X pins σ H s):∀ b∈frs X.stack,H b=none:=fun b hb=>by
 rcases Yao.mp (I.stkSub b hb) with e | hb
 ·rw[e];exact I.free
 ·obtain⟨_,o,ho,_⟩:=I.ok.funs.mem hb;exact I.base.free b o ho (I.ok.frf b hb) fun z=>I.ok.exfs b z hb
theorem Inv.step {g':Array GenState}{t':Nat}{d':Drawn}{ch:List Addr} (I:Inv X pins σ H s)
  (hch:∀ b∈ch,(b∈X.ex∨X.s₀.heap.objs.size<=b)/\b≠X.env.locals/\(∀ x c,X.env.cells.lookup x=some c->c≠b)/\∀ p∈X.pn++pins,p.1≠b)
  (keep:∀ b o,b≠X.env.locals->b ∉ X.fs->b ∉ ch->s.heap.get? b=some o->H b=none->h'.get? b=some o)
  (slot:∀ b o,b≠X.env.locals->b∈X.fs->b ∉ ch->s.heap.get? b=some o->H b=none->∃ sl,h'.get? b=some { o with slots:=sl }) (free:∀ b o,b ∉ ch->s.heap.get? b=some o->H b=none->H' b=none)
  (there:∀ b o,b ∉ ch->s.heap.get? b=some o->∃ o',h'.get? b=some o')
  (tups:∀ b xs,H b=some (.tup xs)->H' b=some (.tup xs)) (frzs:∀ b o u,H b=some (.frz o u)->H' b=some (.frz o u)) (tbls:∀ b ps,H b=some (.tbl ps)->∃ more,H' b=some (.tbl (ps++more)))
  (ns:∀ m,s.heap.Ns X.env.locals m->h'.Ns X.env.locals m) (hok:HOk X.prog X.w H' h') (hg:AllBare g') :
  Inv X pins σ H' { s with heap:=h',gens:=g',drawn:=d',toks:=t' }:=by
 have neL:∀ b o,X.s₀.heap.get? b=some o->b≠X.env.locals:=fun b o e=>Yaw (Yal (Yah e) I.ok.above);have neC:∀ b o,X.s₀.heap.get? b=some o->b ∉ X.ex->b ∉ ch:=fun b o e hx hb=>by
  rcases (hch b hb).1 with z | z
  ·exact hx z
  ·exact absurd (Yal (Yah e) z) (Ya7 _)
 have cellK:∀ x c,X.env.cells.lookup x=some c->∀ v,s.heap.IsCell c v->h'.IsCell c v:=fun x c e v ⟨o,ho,hd⟩=>by
  have nch:c ∉ ch:=fun z=>(hch c z).2.2.1 x c e rfl;by_cases hc:c∈X.fs
  ·obtain⟨sl,q⟩:=slot c o (I.cne x c e) hc nch ho (I.freeC x c e);exact⟨_,q,hd⟩
  ·exact⟨o,keep c o (I.cne x c e) hc nch ho (I.freeC x c e),hd⟩
 refine⟨I.ok,I.os,hg,⟨fun b o e n hb hx=>?_,fun b o e n hb hx=>?_,fun b o e n hx=>?_,fun b o e hx=>?_,fun b xs e=>tups b xs (I.base.tups b xs e),fun b o xs e=>frzs b o xs (I.base.frzs b o xs e),fun b ps e=>?_⟩,?_,fun x c e=>?_,?_,fun x c e=>?_,fun p hp=>?_,hok,I.len⟩
 ·exact keep b o (neL b o e) hb (neC b o e hx) (I.base.keep b o e n hb hx) (I.base.free b o e n hx)
 ·obtain⟨sl,e1⟩:=I.base.slot b o e n hb hx;obtain⟨sl',e2⟩:=slot b _ (neL b o e) hb (neC b o e hx) e1 (I.base.free b o e n hx);exact⟨sl',e2⟩
 ·obtain⟨o',e1⟩:=I.base.there b o e hx;exact free b o' (neC b o e hx) e1 (I.base.free b o e n hx)
 ·obtain⟨o',e1⟩:=I.base.there b o e hx;exact there b o' (neC b o e hx) e1
 ·obtain⟨m1,e1⟩:=I.base.tbls b ps e;obtain⟨m2,e2⟩:=tbls b _ e1;exact⟨m1++m2,by rw[e2,Array.append_assoc]⟩
 ·obtain⟨m,hn,hl⟩:=I.loc;refine⟨m,ns m hn,fun i x v e1 e2 e3=>?_⟩;obtain⟨u,r,l⟩:=hl i x v e1 e2 e3;refine⟨u,r,?_⟩;rcases l with l | ⟨k,c,e,z⟩
  ·exact .inl l
  ·exact .inr ⟨k,c,e,cellK x c e _ z⟩
 ·obtain⟨v,z⟩:=I.cell x c e;exact⟨v,cellK x c e v z⟩
 ·obtain⟨m,⟨o,_,_,ho,_⟩,_⟩:=I.loc;exact free _ o (fun z=>(hch _ z).2.1 rfl) ho I.free
 ·obtain⟨v,o,ho,hd⟩:=I.cell x c e;exact free c o (fun z=>(hch c z).2.2.1 x c e rfl) ho (I.freeC x c e)
 ·obtain⟨e,n,ne,nf,d⟩:=I.pin p hp;have nch:p.1 ∉ ch:=fun z=>(hch p.1 z).2.2.2 p hp rfl;exact⟨keep p.1 p.2 ne nf nch e n,free p.1 p.2 nch e n,ne,nf,d⟩
theorem Inv.un {t':Nat} (I:Inv X pins σ H s) (u:Un X.fs [] H H' s.heap h') (hok:HOk X.prog X.w H' h'):Inv X pins σ H' { s with heap:=h',toks:=t' }:=by
 obtain⟨m,⟨o,es,ep,ho,r⟩,_⟩:=id I.loc;obtain⟨sl,hL⟩:=u.any ho I.free (by simp);exact I.step (g':=s.gens) (d':=s.drawn) (ch:=[]) (fun _ z=>nomatch z) (fun b o _ hb _ e n=>u.keep b o e n hb (by simp)) (fun b o _ hb _ e n=>u.slot b o e n hb (by simp)) (fun b o _ e n=>u.free b o e n (by simp)) (fun b o _ e=>u.there b o e (by simp)) u.tups u.frzs u.tbls (fun m' hm=>by
  obtain⟨o',es',ep',ho',r'⟩:=hm;rw[ho] at ho';cases ho';exact⟨_,es',ep',hL,r'⟩) hok I.bare
theorem Inv.call {g':Array GenState}{t':Nat}{d':Drawn}{ch:List Addr} (I:Inv X pins σ H s) (u:Un (frs X.stack) ch H H' s.heap h') (hok:HOk X.prog X.w H' h') (hg:AllBare g')
  (hch:∀ b∈ch,(b∈X.ex∨X.s₀.heap.objs.size<=b)/\b≠X.env.locals/\(∀ x c,X.env.cells.lookup x=some c->c≠b)/\∀ p∈X.pn++pins,p.1≠b) :
  Inv X pins σ H' { s with heap:=h',gens:=g',drawn:=d',toks:=t' }:=by
 obtain⟨m,⟨o,es,ep,ho,r⟩,_⟩:=id I.loc;obtain⟨sl,hL⟩:=u.any ho I.free fun z=>(hch _ z).2.1 rfl;exact I.step (ch:=ch) hch (fun b o hL hb hc e n=>u.keep b o e n (fun z=>(Yao.mp (I.stkSub b z)).elim hL hb) hc) (fun b o _ _ hc e n=>u.any e n hc) (fun b o hc e n=>u.free b o e n hc) (fun b o hc e=>u.there b o e hc) u.tups u.frzs u.tbls (fun m' hm=>by
  obtain⟨o',es',ep',ho',r'⟩:=hm;rw[ho] at ho';cases ho';exact⟨_,es',ep',hL,r'⟩) hok hg
theorem Inv.turned {t':Nat}{it:Addr} (I:Inv X pins σ H s) (k:∀ b o,b≠it->s.heap.get? b=some o->h'.get? b=some o) (hn:H it=none) (hL:it≠X.env.locals)
  (h1:it∈X.ex∨X.s₀.heap.objs.size<=it) (h2:∀ x c,X.env.cells.lookup x=some c->c≠it) (h3:∀ p∈X.pn++pins,p.1≠it):Inv X pins σ H { s with heap:=h',toks:=t' }:=by
 have nit:∀ b u,H b=some u->b≠it:=fun b u e z=>by rw[z,hn] at e;cases e
 refine I.step (g':=s.gens) (d':=s.drawn) (ch:=[it]) (fun b hb=>?_) (fun b o _ _ hc e _=>k b o (fun z=>hc (by simp[z])) e) (fun b o _ _ hc e _=>⟨o.slots,k b o (fun z=>hc (by simp[z])) e⟩) (fun _ _ _ _ n=>n)
  (fun b o hc e=>⟨o,k b o (fun z=>hc (by simp[z])) e⟩) (fun _ _ e=>e) (fun _ _ _ e=>e) (fun b ps e=>⟨#[],by rw[e];simp⟩) (fun m hm=>?_) (fun b u e=>?_) I.bare
 ·have e:b=it:=by simpa using hb
  subst e;exact⟨h1,hL,h2,h3⟩
 ·obtain⟨o,es,ep,ho,r⟩:=hm;exact⟨o,es,ep,k _ o (Ybq hL) ho,r⟩
 ·refine (I.hok b u e).stay (fun c v hc q=>k c v ?_ q) (fun _ q=>q) fun _ _ q=>q;rcases hc with z | z
  ·rw[z];exact nit b u e
  ·exact nit c _ z
theorem Inv.tok (I:Inv X pins σ H s) (t:Nat):Inv X pins σ H { s with toks:=t }:=I.un (h':=s.heap) (t':=t) Un.refl I.hok
theorem Inv.kept {t':Nat} (I:Inv X pins σ H s) (k:∀ b u,s.heap.get? b=some u->h'.get? b=some u):Inv X pins σ H { s with heap:=h',toks:=t' }:=I.un (Un.kept k) (I.hok.kept k)
theorem Inv.laid {a:Addr}{o:HO}{t':Nat} (I:Inv X pins σ H s) (k:∀ b u,s.heap.get? b=some u->h'.get? b=some u) (hp:s.heap.objs.size<=a) (new:ObjOk X.prog X.w (upd H a o) h' a o) :
  Inv X pins σ (upd H a o) { s with heap:=h',toks:=t' }:=I.un (Un.laid k hp (I.hok.fresh hp)) (I.hok.laid k hp new)
theorem Inv.write {x e:Addr}{o:HO}{t':Nat} (I:Inv X pins σ H s) (mu:Mut (H x)) (he:e=x∨H e=some (.own x)) (k:∀ b u,b≠e->s.heap.get? b=some u->h'.get? b=some u) (heo:∃ u,h'.get? e=some u)
  (new:ObjOk X.prog X.w (upd H x o) h' x o):Inv X pins σ (upd H x o) { s with heap:=h',toks:=t' }:=I.un (Un.write mu he k heo) (I.hok.write mu he k heo new)
theorem Inv.weak {σ':List (Option V)} (I:Inv X pins σ H s) (hl:σ'.length=σ.length) (w:∀ (i:Nat) v,σ'[i]?=some (some v)->σ[i]?=some (some v)):Inv X pins σ' H s :=
 ⟨I.ok,I.os,I.bare,I.base,let ⟨m,hn,hl'⟩:=I.loc;⟨m,hn,fun i x v e1 e2 e3=>hl' i x v e1 (w i v e2) e3⟩,I.cell,I.free,I.freeC,I.pin,I.hok,hl.trans I.len⟩
theorem Inv.pins_of {pins':List (Addr × Obj)} (I:Inv X pins σ H s) (h:∀ p∈pins',s.heap.get? p.1=some p.2/\H p.1=none/\p.1≠X.env.locals/\p.1 ∉ X.fs/\∀ v,p.2.data≠.cell v):Inv X pins' σ H s :=
 ⟨I.ok,I.os,I.bare,I.base,I.loc,I.cell,I.free,I.freeC,fun p hp=>(Yaj.mp hp).elim (fun z=>I.pin p (Ya0 _ z)) (h p),I.hok,I.len⟩
theorem Zg3 {N:List Str} (hN:N.Nodup) {i j:Nat}{x:Str} (a:N[i]?=some x) (b:N[j]?=some x):i=j:=by
 obtain⟨h1,e1⟩:=Yad.mp a;obtain⟨h2,e2⟩:=Yad.mp b;exact (YfG hN).mp (e1.trans e2.symm)
theorem Zc0 {M:Model}{A:Around}{E:Value->Shared->Prop}{i:Nat}{x:Str}{v:V}{u:Value}{Q:Unit->Shared->Prop} (I:Inv X pins σ H s) (hN:X.N.Nodup) (hi:X.N[i]?=some x) (hx:Loc X.env.scope x) (r:RelV v u)
  (h:∀ s',Inv X pins (σ.set i (some v)) H s'->(∃ a,Yck a s.heap s'.heap/\(a=X.env.locals∨X.env.cells.lookup x=some a))->Q () s') (hf:X.fn x=true∨X.env.scope.names.lookup x=some .local:=by first | exact .inl rfl | exact .inr rfl | assumption):wpAny M A (storeName X.env x u) Q E s:=by
 obtain⟨m,hn,hl⟩:=id I.loc;have hcls:(X.env.scope.kind == .class || (X.env.scope.kind == .module && X.env.locals != X.env.globals))=false:=by rw[I.ok.kind];rfl
 have hiσ:i<σ.length:=by rw[I.len];exact (Yad.mp hi).1
 have cne:=I.cne;have tracked:∀ {a:Addr}{h':Heap},(∃ o,s.heap.get? a=some o/\H a=none)->Yck a s.heap h'->HOk X.prog X.w H h':=fun {a h'} ha hs b ob e=>by
  obtain⟨_,_,hfree⟩:=ha;refine (I.hok b ob e).stay (fun c w' hc q=>(hs.2 c ?_).trans q) (fun _ q=>q) fun _ _ q=>q;rintro rfl;rcases hc with rfl | hc
  ·rw[hfree] at e;cases e
  ·rw[hfree] at hc;cases hc
 rcases hx with hk | hk
 ·refine wpAny_storeName_local hk hn (fun h' hn' hs=>?_) hcls;obtain⟨oL,_,_,hoL,_⟩:=id hn;refine h _ ⟨I.ok,I.os,I.bare,⟨fun b o e n hb hx=>?_,fun b o e n hb hx=>?_,I.base.free,fun b o e hx=>?_,I.base.tups,I.base.frzs,I.base.tbls⟩,⟨_,hn',fun j y v' e1 e2 e3=>?_⟩,fun y c e=>?_,I.free,I.freeC,fun p hp=>?_,tracked ⟨oL,hoL,I.free⟩ hs,by simpa using I.len⟩ ⟨_,hs,.inl rfl⟩
  ·exact (hs.2 b (Yaw (Yal (Yah e) I.ok.above))).trans (I.base.keep b o e n hb hx)
  ·obtain⟨sl,e1⟩:=I.base.slot b o e n hb hx;exact⟨sl,(hs.2 b (Yaw (Yal (Yah e) I.ok.above))).trans e1⟩
  ·obtain⟨o',e1⟩:=I.base.there b o e hx;exact⟨o',(hs.2 b (Yaw (Yal (Yah e) I.ok.above))).trans e1⟩
  ·by_cases hj:j=i
   ·subst hj;rw[hi] at e1;cases e1;rw[Ydr hiσ] at e2;cases e2;exact⟨u,r,.inl ⟨hk,by simp⟩⟩
   ·rw[Ya5 (Ybq hj)] at e2;obtain⟨u',r',q⟩:=hl j y v' e1 e2 e3;refine⟨u',r',?_⟩;rcases q with ⟨k,e⟩ | ⟨k,c,e,z⟩
    ·refine .inl ⟨k,?_⟩;have:y≠x:=fun e=>hj (Zg3 hN e1 (e ▸ hi));simp[this,e]
    ·exact .inr ⟨k,c,e,z.sameBut hs (cne y c e)⟩
  ·obtain⟨w',z⟩:=I.cell y c e;exact⟨w',z.sameBut hs (cne y c e)⟩
  ·obtain⟨e,n,ne,nf,d⟩:=I.pin p hp;exact⟨(hs.2 p.1 ne).trans e,n,ne,nf,d⟩
 ·have hfn:X.fn x=true:=by
   rcases hf with z | z
   ·exact z
   ·rw[z] at hk;cases hk
  obtain⟨c,hc⟩:=I.ok.has x (.inl hk);obtain⟨w',z⟩:=I.cell x c hc;refine wpAny_storeName_cell I.ok.kind hk hc z (fun h' hc' hs=>?_);obtain⟨oc,hoc,hocd⟩:=id z;refine h { s with heap:=h' } ⟨I.ok,I.os,I.bare,⟨fun b o e n hb hx=>?_,fun b o e n hb hx=>?_,I.base.free,fun b o e hx=>?_,I.base.tups,I.base.frzs,I.base.tbls⟩,⟨m,hn.sameBut hs (Ybq (cne x c hc)),fun j y v' e1 e2 e3=>?_⟩,fun y c' e=>?_,I.free,I.freeC,fun p hp=>?_,tracked ⟨oc,hoc,I.freeC x c hc⟩ hs,by simpa using I.len⟩ ⟨c,hs,.inr hc⟩
  ·exact (hs.2 b (Yaw (Yal (Yah e) (I.ok.cab x c hfn hc)))).trans (I.base.keep b o e n hb hx)
  ·obtain⟨sl,e1⟩:=I.base.slot b o e n hb hx;exact⟨sl,(hs.2 b (Yaw (Yal (Yah e) (I.ok.cab x c hfn hc)))).trans e1⟩
  ·obtain⟨o',e1⟩:=I.base.there b o e hx;exact⟨o',(hs.2 b (Yaw (Yal (Yah e) (I.ok.cab x c hfn hc)))).trans e1⟩
  ·by_cases hj:j=i
   ·subst hj;rw[hi] at e1;cases e1;rw[Ydr hiσ] at e2;cases e2;exact⟨u,r,.inr ⟨.inl hk,c,hc,hc'⟩⟩
   ·rw[Ya5 (Ybq hj)] at e2;obtain⟨u',r',q⟩:=hl j y v' e1 e2 e3;refine⟨u',r',?_⟩;rcases q with q | ⟨k,c',e,z'⟩
    ·exact .inl q
    ·refine .inr ⟨k,c',e,z'.sameBut hs ?_⟩;rintro rfl;exact hj (Zg3 hN e1 (I.ok.inj _ _ _ e hc ▸ hi))
  ·by_cases hcc:c'=c
   ·subst hcc;exact⟨_,hc'⟩
   ·obtain⟨w2,z2⟩:=I.cell y c' e;exact⟨w2,z2.sameBut hs hcc⟩
  ·obtain⟨e,n,ne,nf,d⟩:=I.pin p hp;refine⟨(hs.2 p.1 ?_).trans e,n,ne,nf,d⟩;intro q;rw[q,hoc] at e;have q':oc=p.2:=YaE e;exact d w' (by rw[<- q'];exact hocd)
theorem Zeb {M:Model}{A:Around}{E:Value->Shared->Prop}{i:Nat}{x:Str}{v:V}{u:Value}{Q:Unit->Shared->Prop} (I:Inv X pins σ H s) (hN:X.N.Nodup) (hi:X.N[i]?=some x) (hx:Loc X.env.scope x) (r:RelV v u)
  (h:∀ s',Inv X pins (σ.set i (some v)) H s'->Q () s') (hf:X.fn x=true∨X.env.scope.names.lookup x=some .local:=by first | exact .inl rfl | exact .inr rfl | assumption):wpAny M A (storeName X.env x u) Q E s :=
 Zc0 I hN hi hx r (fun s' I' _=>h s' I') hf
theorem Inv.call' {s':Shared}{ch:List Addr} (I:Inv X pins σ H s) (ho:s'.os=s.os) (u:Un (frs X.stack) ch H H' s.heap s'.heap) (hok:HOk X.prog X.w H' s'.heap) (hg:AllBare s'.gens)
  (hch:∀ b∈ch,(b∈X.ex∨X.s₀.heap.objs.size<=b)/\b≠X.env.locals/\(∀ x c,X.env.cells.lookup x=some c->c≠b)/\∀ p∈X.pn++pins,p.1≠b):Inv X pins σ H' s':=by
 obtain⟨h',g',d',t',o'⟩:=s';have e:o'=s.os:=ho;subst e;exact I.call (g':=g') (t':=t') (d':=d') u hok hg hch
end
abbrev XK:=Value->Option Addr->Hp->Prop
abbrev St:=List (Option V)
abbrev VK:=V->Hp->Prop
abbrev TE:=St->Hp->VK->Prop
abbrev TT:=St->Hp->(Bool->Hp->Prop)->Prop
abbrev TA:=St->Hp->(List V->Hp->Prop)->Prop
structure Ends where
 nx:St->Hp->Prop
 rt:VK
 bk:St->Hp->Prop:=fun _ _=>False
 ct:St->Hp->Prop:=fun _ _=>False
abbrev TS:=Ends->St->Hp->Prop
def EP (X:Cx) (pins:List (Addr × Obj)) (σ:St) (Q:VK) (u:Value) (s':Shared):Prop:=∃ v H',Inv X pins σ H' s'/\RelV v u/\Q v H'
def TP (X:Cx) (pins:List (Addr × Obj)) (σ:St) (Q:Bool->Hp->Prop) (b:Bool) (s':Shared):Prop:=∃ H',Inv X pins σ H' s'/\Q b H'
def AP (X:Cx) (pins:List (Addr × Obj)) (σ:St) (Q:List V->Hp->Prop) (us:List Value) (s':Shared):Prop:=∃ vs H',Inv X pins σ H' s'/\Vals vs us/\Q vs H'
def SP (X:Cx) (pins:List (Addr × Obj)) (D:Ends) (f:Flow) (s':Shared):Prop :=
 match f with
 | .next=>∃ σ' H',Inv X pins σ' H' s'/\D.nx σ' H'
 | .brk=>∃ σ' H',Inv X pins σ' H' s'/\D.bk σ' H'
 | .cont=>∃ σ' H',Inv X pins σ' H' s'/\D.ct σ' H'
 | .ret u=>∃ v σ' H',Inv X pins σ' H' s'/\RelV v u/\D.rt v H'
def PE (X:Cx) (e:Expr) (t:TE):Prop :=
 ∀ (pins:List (Addr × Obj)) (s:Shared) (σ:St) (H:Hp) (Q:VK),Inv X pins σ H s->t σ H Q->wpAny (model X.prog X.w) X.A (eval e X.env) (EP X pins σ Q) X.xe s
def PT (X:Cx) (e:Expr) (t:TT):Prop :=
 ∀ (pins:List (Addr × Obj)) (s:Shared) (σ:St) (H:Hp) (Q:Bool->Hp->Prop),Inv X pins σ H s->t σ H Q->wpAny (model X.prog X.w) X.A (isTrue e X.env (eval e X.env)) (TP X pins σ Q) X.xe s
def PW (X:Cx) (e:Expr) (t:TT):Prop :=
 ∀ (whole:Sem Value) (pins:List (Addr × Obj)) (s:Shared) (σ:St) (H:Hp) (Q:Bool->Hp->Prop),Inv X pins σ H s->t σ H Q->wpAny (model X.prog X.w) X.A (isTrue e X.env whole) (TP X pins σ Q) X.xe s
theorem PW.pt {X:Cx}{e:Expr}{t:TT} (h:PW X e t):PT X e t:=h _
def PA (X:Cx) (es:List Expr) (t:TA):Prop :=
 ∀ (pos:Pos) (pins:List (Addr × Obj)) (s:Shared) (σ:St) (H:Hp) (Q:List V->Hp->Prop),Inv X pins σ H s->t σ H Q->wpAny (model X.prog X.w) X.A (spliced (backTo pos (starEach es X.env))) (AP X pins σ Q) X.xe s
def PS (X:Cx) (st:Stmt) (t:TS):Prop :=
 ∀ (pins:List (Addr × Obj)) (s:Shared) (σ:St) (H:Hp) (D:Ends),Inv X pins σ H s->t D σ H->wpAny (model X.prog X.w) X.A (exec st X.env) (SP X pins D) X.xe s
def PSs (X:Cx) (st:List Stmt) (t:TS):Prop :=
 ∀ (pins:List (Addr × Obj)) (s:Shared) (σ:St) (H:Hp) (D:Ends),Inv X pins σ H s->t D σ H->wpAny (model X.prog X.w) X.A (execs st X.env) (SP X pins D) X.xe s
theorem thn {α:Type}{t:Sem α}{Q Q':α->Shared->Prop}{M:Model}{A:Around}{E:Value->Shared->Prop}{s:Shared} (h:wpAny M A t Q E s) (hQ:∀ a s,Q a s->Q' a s):wpAny M A t Q' E s:=wpAny_mono h hQ fun _ _ x=>x
end L2
namespace L2
open PySem PySem.Spec PyProof.Rows
section
variable {X:Cx}
def tVar (i:Nat):TE:=fun σ H Q=>∃ v,σ[i]?=some (some v)/\Q v H
def tC (v:V):TE:=fun _ H Q=>Q v H
theorem Zl5 {i:Nat}{x:Str}{pos:Pos} (hN:X.N[i]?=some x) (hv:Vis X.env.scope x) (hd:(x == ("__debug__":Str))=false:=by decide) (hcd:(x == ("__classdict__":Str))=false:=by decide):PE X (.Name x pos) (tVar i):=by
 intro pins s σ H Q I h;obtain⟨v,e,h⟩:=h;obtain⟨m,hn,hl⟩:=I.loc;obtain⟨u,r,l⟩:=hl i x v hN e hv;have fin:EP X pins σ Q u s:=⟨v,H,I,r,h⟩
 rcases l with ⟨hk,hm⟩ | ⟨hk,c,hc,hcell⟩
 ·exact wpAny_Name (wpAny_loadName_local I.ok.kind hk hn hm fin) hd
 ·rcases hk with hk | hk
  ·exact wpAny_Name (wpAny_loadName_cell I.ok.kind hk hc hcell fin) hd
  ·exact wpAny_Name (wpAny_loadName_free I.ok.kind hk hc hcell fin hcd) hd
theorem Zae {i j pos}:PE X (.Constant (.int i) j pos) (tC (.int i)):=fun _ _ _ H _ I h=>wpAny_Constant_int ⟨.int i,H,I.tok _,⟨_,rfl⟩,h⟩
theorem Zga {b j pos}:PE X (.Constant (.bool b) j pos) (tC (.bl b)):=fun _ _ _ H _ I h=>Constant_bool ⟨.bl b,H,I,rfl,h⟩
theorem Zi0 {j pos}:PE X (.Constant .none j pos) (tC .non):=fun _ _ _ H _ I h=>Constant_none ⟨.non,H,I,rfl,h⟩
def Gl (X:Cx) (x:Str):Prop:=X.env.kindOf x=some .globalImplicit
theorem ZjF {E:Value->Shared->Prop}{pins:List (Addr × Obj)}{s:Shared}{σ:St}{H:Hp}{x:Str}{u:Value}{pos:Pos}{Q:Value->Shared->Prop} (I:Inv X pins σ H s) (hg:Gl X x) (hm:X.mg x=some u) (h:Q u s)
  (hd:(x == ("__debug__":Str))=false:=by decide):wpAny (model X.prog X.w) X.A (eval (.Name x pos) X.env) Q E s :=
 Yei I.ok.kind hg (Calls.loadGlobal_global (by rw[I.ok.glob];exact I.mod.glob.keeps I.bk) hm h) hd
theorem Zdg {E:Value->Shared->Prop}{pins:List (Addr × Obj)}{s:Shared}{σ:St}{H:Hp}{x:Str}{u:Value}{pos:Pos}{Q:Value->Shared->Prop} (I:Inv X pins σ H s) (hg:Gl X x) (hm:X.mg x=none) (hv:bootBuiltins x=some u) (h:Q u s)
  (hn:x≠"__name__":=by decide) (hd:(x == ("__debug__":Str))=false:=by decide):wpAny (model X.prog X.w) X.A (eval (.Name x pos) X.env) Q E s:=by
 obtain⟨mb,h1,h2⟩:=I.mod.blt;exact Yei I.ok.kind hg (Calls.loadGlobal_builtin (by rw[I.ok.glob];exact I.mod.glob.keeps I.bk) hm (by rw[I.ok.blt];exact h1.keeps I.bk) ((h2 x hn).trans hv) h) hd
theorem Zi1 {x:Str}{v:V}{u:Value}{pos:Pos} (hg:Gl X x) (hm:X.mg x=some u) (r:RelV v u) (hd:(x == ("__debug__":Str))=false:=by decide):PE X (.Name x pos) (tC v) :=
 fun _ _ _ H _ I h=>ZjF I hg hm ⟨v,H,I,r,h⟩ hd
theorem ZmZ {x:Str}{v:V}{u:Value}{pos:Pos} (hg:Gl X x) (hm:X.mg x=none) (hv:bootBuiltins x=some u) (r:RelV v u) (hn:x≠"__name__":=by decide) (hd:(x == ("__debug__":Str))=false:=by decide):PE X (.Name x pos) (tC v) :=
 fun _ _ _ H _ I h=>Zdg I hg hm hv ⟨v,H,I,r,h⟩ hn hd
variable {a b:Expr}{ta tb:TE}{pos:Pos}
def PC (X:Cx) (op:CmpOp) (a b:Expr) (t:TE):Prop :=
 ∀ (pins:List (Addr × Obj)) (s:Shared) (σ:St) (H:Hp) (Q:VK),Inv X pins σ H s->t σ H Q ->
  wpAny (model X.prog X.w) X.A (eval a X.env) (fun v s₁=>wpAny (model X.prog X.w) X.A (eval b X.env) (fun u s₂=>wpAny (model X.prog X.w) X.A (compareOp op v u) (EP X pins σ Q) X.xe s₂) X.xe s₁) X.xe s
theorem Zlu (b:Expr) {op:CmpOp} (h:op≠.In) (h2:op≠.NotIn):behindInMarks op b=false:=by
 have e1:(op == CmpOp.In)=false:=by cases op <;> first | rfl | exact absurd rfl h
 have e2:(op == CmpOp.NotIn)=false:=by cases op <;> first | rfl | exact absurd rfl h2
 cases b <;> simp[behindInMarks,e1,e2]
def tIsN (ta:TE):TE:=fun σ H Q=>ta σ H fun x H1=>Q (.bl (decide (x=.non))) H1
theorem RelV.none_iff {x:V}{v:Value} (r:RelV x v):(v == Ycb)=decide (x=.non):=by
 cases x with
 | non=>cases r;rfl
 | bl _=>cases r;rfl
 | int _=>obtain⟨t,rfl⟩:=r;rfl
 | str _=>obtain⟨t,rfl⟩:=r;rfl
 | byt _=>obtain⟨t,rfl⟩:=r;rfl
 | flt _=>obtain⟨t,rfl⟩:=r;rfl
 | ref _=>cases r;rfl
 | ty _=>cases r;rfl
theorem Zl6 {j pos'} (ha:PE X a ta):PC X .Is a (.Constant .none j pos') (tIsN ta):=by
 intro pins s σ H Q I h;refine thn (ha pins s σ H _ I h) fun v s1 ⟨x,H1,I1,r1,q1⟩=>?_;exact Constant_none (is_none_gen ⟨.bl _,H1,I1,by rw[r1.none_iff];rfl,q1⟩)
def tB (t:TE):TT:=fun σ H Q=>t σ H fun x H1=>∃ c,x=.bl c/\Q c H1
theorem Zl2 {op:CmpOp}{t:TE} (h:PC X op a b t) (h1:behindInMarks op b=false:=by first | exact Zlu _ (by decide) (by decide) | rfl):PT X (.Compare a [op] [b] pos) (tB t):=by
 intro pins s σ H Q I hw;refine wpAny_isTrue_Compare1 (thn (h pins s σ H _ I hw) fun v s1 h1=>thn h1 fun u s2 h2=>thn h2 fun c s3 ⟨x,H1,I1,r1,q1⟩=>?_) h1;obtain⟨d,rfl,q⟩:=q1;cases r1;exact wpAny_truthy_bool ⟨H1,I1,q⟩
theorem Zcn {e:Expr}{t:TE} (h:PE X e t) (he:∀ whole,isTrue e X.env whole=(do let v <- whole;standAt e.pos;holding [v] (truthy v)):=by intro _;rfl):PT X e (tB t):=by
 intro pins s σ H Q I hw;refine isTrue_plain (thn (h pins s σ H _ I hw) fun v s1 ⟨x,H1,I1,r1,q1⟩=>?_) (he _);obtain⟨d,rfl,q⟩:=q1;cases r1;exact wpAny_truthy_bool ⟨H1,I1,q⟩
variable {tA tB':TT}{rest:List Expr}
def tOr (t u:TT):TT:=fun σ H Q=>t σ H fun c H1=>if c=true then Q true H1 else u σ H1 Q
def tNot (t:TT):TT:=fun σ H Q=>t σ H fun c H1=>Q (!c) H1
theorem Zda (ha:PT X a tA):PW X (.BoolOp .Or [a] pos) tA:=by
 intro wh pins s σ H Q I h;refine isTrue_or (thn (ha pins s σ H Q I h) fun c s1 e=>?_)
 cases c with
 | false=>exact isTrue_or_nil e
 | true=>exact e
theorem Zfd (ha:PT X a tA) (hb:PW X (.BoolOp .Or (b::rest) pos) tB'):PW X (.BoolOp .Or (a::b::rest) pos) (tOr tA tB'):=by
 intro wh pins s σ H Q I h;refine isTrue_or (thn (ha pins s σ H _ I h) fun c s1 ⟨H1,I1,q1⟩=>?_)
 cases c with
 | true=>exact⟨H1,I1,q1⟩
 | false=>exact hb wh pins s1 σ H1 Q I1 q1
theorem ZbE (ha:PT X a tA):PT X (.UnaryOp .Not a pos) (tNot tA):=by
 intro pins s σ H Q I h;exact isTrue_not (ha pins s σ H (fun c H1=>Q (!c) H1) I h)
def ZoO (ta tb:TE):TE:=fun σ H Q=>ta σ H fun x H1=>∃ c,x=.bl c/\if c=true then tb σ H1 Q else Q (.bl false) H1
def ZoL (ta:TE):TE:=fun σ H Q=>ta σ H fun x H1=>∃ c,x=.bl c/\Q (.bl (!c)) H1
theorem Zd0 {op}{t:TE} (h:PE X a t):PE X (.BoolOp op [a] pos) t:=fun pins s σ H Q I hw=>BoolOp_one (h pins s σ H Q I hw)
theorem Zd1 (ha:PE X a ta) (hb:PE X (.BoolOp .And (b::rest) pos) tb):PE X (.BoolOp .And (a::b::rest) pos) (ZoO ta tb):=by
 intro pins s σ H Q I h;refine BoolOp_and (thn (ha pins s σ H _ I h) fun v s1 ⟨x,H1,I1,r1,q1⟩=>?_);obtain⟨c,rfl,q1⟩:=q1;cases r1;refine wpAny_truthy_bool ?_
 cases c with
 | true=>exact hb pins s1 σ H1 Q I1 q1
 | false=>exact⟨.bl false,H1,I1,rfl,q1⟩
theorem Zn9 (ha:PE X a ta):PE X (.UnaryOp .Not a pos) (ZoL ta):=by
 intro pins s σ H Q I h;refine UnaryOp_ (thn (ha pins s σ H _ I h) fun v s1 ⟨x,H1,I1,r1,q1⟩=>?_);obtain⟨c,rfl,q1⟩:=q1;cases r1;exact not_of (wpAny_truthy_bool ⟨.bl (!c),H1,I1,rfl,q1⟩)
def tIf (t:TT) (ta tb:TE):TE:=fun σ H Q=>t σ H fun c H1=>if c=true then ta σ H1 Q else tb σ H1 Q
theorem Zk3 {c:Expr} (hc:PT X c tA) (ha:PE X a ta) (hb:PE X b tb):PE X (.IfExp c a b pos) (tIf tA ta tb):=by
 intro pins s σ H Q I h;refine wpAny_IfExp (thn (hc pins s σ H _ I h) fun d s1 ⟨H1,I1,q1⟩=>?_)
 cases d with
 | true=>exact ha pins s1 σ H1 Q I1 q1
 | false=>exact hb pins s1 σ H1 Q I1 q1
end
end L2
namespace L2
open PySem PySem.Spec PyProof.Rows
def SqL (K:Yae) (H:Hp) (a:Addr) (xs:List V):Prop :=
 Rd H a (.lst xs) ∨
  ∃ (o:Obj) (its:Array Value) (n:Nat),K.lookup a=some o/\o.cls=.type "list"/\o.dict=none/\o.data=.seq its n/\its.size<=sizeLine/\Vals xs its.toList
def SqT (K:Yae) (H:Hp) (a:Addr) (xs:List V):Prop :=
 Rd H a (.tup xs) ∨
  ∃ (o:Obj) (its:Array Value) (n:Nat),K.lookup a=some o/\o.cls=.type "tuple"/\o.data=.seq its n/\its.size<=sizeLine/\Vals xs its.toList
def absV:Value->Option V
 | .none=>some .non
 | .bool b=>some (.bl b)
 | .int i _=>some (.int i)
 | .str x _=>some (.str x)
 | .bytes b _=>some (.byt b)
 | .float b _=>some (.flt b)
 | .ref a=>some (.ref a)
 | .type n=>some (.ty n)
 | _=>none
theorem RelV.abs {x:V}{u:Value} (r:RelV x u):absV u=some x:=by
 cases x with
 | non=>cases r;rfl
 | bl _=>cases r;rfl
 | int _=>obtain⟨t,rfl⟩:=r;rfl
 | str _=>obtain⟨t,rfl⟩:=r;rfl
 | byt _=>obtain⟨t,rfl⟩:=r;rfl
 | flt _=>obtain⟨t,rfl⟩:=r;rfl
 | ref _=>cases r;rfl
 | ty _=>cases r;rfl
theorem RelV.inj {x y:V}{u:Value} (r:RelV x u) (q:RelV y u):x=y:=YaE (r.abs.symm.trans q.abs)
theorem Vals.inj:∀ {xs ys:List V}{us:List Value},Vals xs us->Vals ys us->xs=ys
 | _,_,_,.nil,.nil=>rfl
 | _,_,_,.cons r t,.cons r' t'=>by rw[r.inj r',Vals.inj t t']
section
variable {X:Cx}{pins:List (Addr × Obj)}{σ:St}{H:Hp}{s:Shared}{a:Addr}{xs ys:List V}
theorem SqL.of {K:Yae} (h:H a=some (.lst xs)):SqL K H a xs:=.inl (.inl h)
theorem SqT.of {K:Yae} (h:H a=some (.tup xs)):SqT K H a xs:=.inl (.inl h)
theorem Inv.list (I:Inv X pins σ H s) (h:SqL X.K H a xs):∃ its:List Value,Vals xs its/\PlainL s.heap a its.toArray/\xs.length<=sizeLine:=by
 rcases h with h | ⟨o,its,n,hk,hc,hd,hs,hz,r⟩
 ·obtain⟨z,its,n,r,e⟩:=h.ok I.hok;exact⟨its,r,⟨_,n,e,rfl,rfl,rfl⟩,z⟩
 ·refine⟨its.toList,r,⟨o,n,I.kIn a o hk,hc,hd,by simpa using hs⟩,?_⟩;have e:=r.length;simp only[Yax] at e;omega
theorem Inv.tuple (I:Inv X pins σ H s) (h:SqT X.K H a xs):∃ its:List Value,Vals xs its/\IsTup s.heap a its.toArray/\xs.length<=sizeLine:=by
 rcases h with h | ⟨o,its,n,hk,hc,hs,hz,r⟩
 ·obtain⟨z,its,r,p⟩:=h.ok I.hok;exact⟨its,r,p.tup,z⟩
 ·refine⟨its.toList,r,⟨o,I.kIn a o hk,hc,n,by simpa using hs⟩,?_⟩;have e:=r.length;simp only[Yax] at e;omega
theorem Inv.list_inj (I:Inv X pins σ H s) (h:SqL X.K H a xs) (h':SqL X.K H a ys):xs=ys:=by
 obtain⟨its,r,⟨o,n,e,_,_,d⟩,_⟩:=I.list h;obtain⟨its',r',⟨o',n',e',_,_,d'⟩,_⟩:=I.list h';rw[e] at e';cases e';rw[d] at d';injection d' with d1 _;have:its=its':=by simpa using congrArg Array.toList d1
 subst this;exact r.inj r'
theorem Inv.tuple_inj (I:Inv X pins σ H s) (h:SqT X.K H a xs) (h':SqT X.K H a ys):xs=ys:=by
 obtain⟨its,r,⟨o,e,_,n,d⟩,_⟩:=I.tuple h;obtain⟨its',r',⟨o',e',_,n',d'⟩,_⟩:=I.tuple h';rw[e] at e';cases e';rw[d] at d';injection d' with d1 _;have:its=its':=by simpa using congrArg Array.toList d1
 subst this;exact r.inj r'
end
abbrev Cx.wish (X:Cx) (E:Value->Shared->Prop):Cx:={ X with xe:=E }
abbrev Cx.nox (X:Cx):Cx:=X.wish fun _ _=>False
theorem Cx.Ok.wish {X:Cx} (ok:X.Ok) (E:Value->Shared->Prop):(X.wish E).Ok :=
 ⟨ok.mod,ok.kind,ok.glob,ok.blt,ok.above,ok.inj,ok.has,ok.cab,ok.hd,ok.frames,ok.stk,ok.exf,ok.bs,ok.bsz,ok.noex,ok.exfs,ok.funs,ok.frf⟩
theorem Cx.Ok.unwish {X:Cx}{E:Value->Shared->Prop} (ok:(X.wish E).Ok):X.Ok :=
 ⟨ok.mod,ok.kind,ok.glob,ok.blt,ok.above,ok.inj,ok.has,ok.cab,ok.hd,ok.frames,ok.stk,ok.exf,ok.bs,ok.bsz,ok.noex,ok.exfs,ok.funs,ok.frf⟩
section
variable {X:Cx}{pins:List (Addr × Obj)}{σ:St}{H:Hp}{s:Shared}{E:Value->Shared->Prop}
theorem Inv.wish (I:Inv X pins σ H s) (E:Value->Shared->Prop):Inv (X.wish E) pins σ H s:=⟨I.ok.wish E,I.os,I.bare,I.base,I.loc,I.cell,I.free,I.freeC,I.pin,I.hok,I.len⟩
theorem Inv.unwish (I:Inv (X.wish E) pins σ H s):Inv X pins σ H s:=⟨I.ok.unwish,I.os,I.bare,I.base,I.loc,I.cell,I.free,I.freeC,I.pin,I.hok,I.len⟩
theorem SP.unwish {D:Ends}{f:Flow}{s':Shared} (h:SP (X.wish E) pins D f s'):SP X pins D f s':=by
 cases f with
 | next=>obtain⟨σ',H',I,q⟩:=h;exact⟨σ',H',I.unwish,q⟩
 | brk=>obtain⟨σ',H',I,q⟩:=h;exact⟨σ',H',I.unwish,q⟩
 | cont=>obtain⟨σ',H',I,q⟩:=h;exact⟨σ',H',I.unwish,q⟩
 | ret u=>obtain⟨v,σ',H',I,r,q⟩:=h;exact⟨v,σ',H',I.unwish,r,q⟩
theorem PSs.nox {st:List Stmt}{t:TS} (h:PSs X.nox st t):PSs X st t:=fun pins s σ H D I hw=>
 wpAny_mono (h pins s σ H D (I.wish _) hw) (fun _ _ q=>q.unwish) fun _ _ z=>YcA z
end
section
variable {X:Cx}{st:Stmt}{rest:List Stmt}{t u:TS}{e:Expr}{te:TE}{pos:Pos}
def ZnK:TS:=fun D σ H=>D.nx σ H
def tSeq (t u:TS):TS:=fun D σ H=>t { D with nx:=u D } σ H
theorem Zb9:PSs X [] ZnK:=fun _ _ σ H _ I h=>wpAny_execs_nil ⟨σ,H,I,h⟩
theorem Zan (h1:PS X st t) (h2:PSs X rest u):PSs X (st::rest) (tSeq t u):=by
 intro pins s σ H D I h;refine wpAny_execs_cons (thn (h1 pins s σ H { D with nx:=u D } I h) fun f s1 q=>?_)
 cases f with
 | next=>
  obtain⟨σ',H',I',q⟩:=q;exact h2 pins s1 σ' H' D I' q
 | ret v=>exact q
 | brk=>exact q
 | cont=>exact q
theorem Zao (h1:PS X st t):PSs X [st] t:=by
 intro pins s σ H D I h;refine wpAny_execs_cons (thn (h1 pins s σ H D I h) fun f s1 q=>?_)
 cases f with
 | next=>exact wpAny_execs_nil q
 | ret v=>exact q
 | brk=>exact q
 | cont=>exact q
theorem Inv.quiet {pins:List (Addr × Obj)}{σ:St}{H:Hp}{s:Shared} (I:Inv X pins σ H s):interactive X.env=false:=by simp[interactive,I.ok.kind]
def ZoM (te:TE):TS:=fun D σ H=>te σ H fun _ H1=>D.nx σ H1
theorem ZaX (he:PE X e te) (hs:swapsWith e none pos.line X.env=pure false:=by rfl):PS X (.Expr e pos) (ZoM te):=by
 intro pins s σ H D I h;exact wpAny_Expr_any (thn (he pins s σ H _ I h) fun v s1 ⟨x,H1,I1,r1,q1⟩=>⟨σ,H1,I1,q1⟩) I.quiet hs
def tRet (te:TE):TS:=fun D σ H=>te σ H D.rt
theorem Zav (he:PE X e te):PS X (.Return (some e) pos) (tRet te):=by
 intro pins s σ H D I h;exact wpAny_Return_some (thn (he pins s σ H _ I h) fun v s1 ⟨x,H1,I1,r1,q1⟩=>⟨x,σ,H1,I1,r1,q1⟩)
def tIfS (c:TT) (t u:TS):TS:=fun D σ H=>c σ H fun b H1=>if b=true then t D σ H1 else u D σ H1
theorem Zfe {c:Expr}{a b:List Stmt}{tc:TT} (hc:PT X c tc) (ha:PSs X a t) (hb:PSs X b u):PS X (.If c a b pos) (tIfS tc t u):=by
 intro pins s σ H D I h;refine wpAny_If (thn (hc pins s σ H _ I h) fun d s1 ⟨H1,I1,q1⟩=>?_)
 cases d with
 | true=>exact ha pins s1 σ H1 D I1 q1
 | false=>exact hb pins s1 σ H1 D I1 q1
def ZnL:TS:=fun _ _ _=>False
theorem Za9 {sts:List Stmt}:PSs X sts ZnL:=fun _ _ _ _ _ _ h=>h.elim
end
abbrev TG:=V->St->Hp->(St->Hp->Prop)->Prop
abbrev TGs:=List V->St->Hp->(St->Hp->Prop)->Prop
def PG (X:Cx) (target:Expr) (t:TG):Prop :=
 ∀ (pins:List (Addr × Obj)) (s:Shared) (σ:St) (H:Hp) (v:V) (u:Value) (Q:St->Hp->Prop),Inv X pins σ H s->RelV v u->t v σ H Q ->
  wpAny (model X.prog X.w) X.A (assign target X.env u) (fun _ s'=>∃ σ' H',Inv X pins σ' H' s'/\Q σ' H') X.xe s
def PGs (X:Cx) (ts:List Expr) (t:TGs):Prop :=
 ∀ (pins:List (Addr × Obj)) (s:Shared) (σ:St) (H:Hp) (vs:List V) (us:List Value) (Q:St->Hp->Prop),Inv X pins σ H s->Vals vs us->t vs σ H Q ->
  wpAny (model X.prog X.w) X.A (assignInOrder ((assignEach ts X.env).map (·.2)) us) (fun _ s'=>∃ σ' H',Inv X pins σ' H' s'/\Q σ' H') X.xe s
abbrev TSet:=V->V->V->Hp->(Hp->Prop)->Prop
def PSet (X:Cx) (t:TSet):Prop :=
 ∀ (pins:List (Addr × Obj)) (s:Shared) (σ:St) (H:Hp) (o i v:V) (ov iv u:Value) (Q:Hp->Prop),Inv X pins σ H s->RelV o ov->RelV i iv->RelV v u->t o i v H Q ->
  wpAny (model X.prog X.w) X.A (setItem ov iv u) (fun _ s'=>∃ H',Inv X pins σ H' s'/\Q H') X.xe s
abbrev TIp:=V->V->Hp->VK->Prop
def PIp (X:Cx) (op:Operator) (t:TIp):Prop :=
 ∀ (pins:List (Addr × Obj)) (s:Shared) (σ:St) (H:Hp) (x y:V) (v u:Value) (Q:VK),Inv X pins σ H s->RelV x v->RelV y u->t x y H Q ->
  wpAny (model X.prog X.w) X.A (inplaceOp op v u) (EP X pins σ Q) X.xe s
section
variable {X:Cx}{pos:Pos}
def Zbw (i:Nat):TG:=fun v σ H Q=>Q (σ.set i (some v)) H
theorem Zaj {i:Nat}{x:Str} (hN:X.N.Nodup) (hi:X.N[i]?=some x) (hx:Loc X.env.scope x) (hf:X.fn x=true∨X.env.scope.names.lookup x=some .local:=by first | exact .inl rfl | exact .inr rfl | assumption):PG X (.Name x pos) (Zbw i):=by
 intro pins s σ H v u Q I r h;exact wpAny_assign_Name (Zeb I hN hi hx r (fun s' I'=>⟨_,H,I',h⟩) hf)
def gNil:TGs:=fun vs σ H Q=>vs=[]/\Q σ H
def Zdl (t:TG) (u:TGs):TGs:=fun vs σ H Q=>∃ v r,vs=v::r/\t v σ H fun σ' H'=>u r σ' H' Q
theorem ZaT:PGs X [] gNil:=by
 intro pins s σ H vs us Q I r h;obtain⟨e,h⟩:=h;subst e;cases r;exact assignInOrder_nil ⟨σ,H,I,h⟩
theorem Zar {e:Expr}{es:List Expr}{t:TG}{u:TGs} (h1:PG X e t) (h2:PGs X es u)
  (hs:(assignEach (e::es) X.env).map (·.2)=assign e X.env::(assignEach es X.env).map (·.2):=by rfl):PGs X (e::es) (Zdl t u):=by
 intro pins s σ H vs us Q I r h;obtain⟨v,vr,e1,h⟩:=h;subst e1
 cases r with
 | cons r rr=>
  rw[hs];refine assignInOrder_cons (thn (h1 pins s σ H _ _ _ I r h) fun _ s1 ⟨σ1,H1,I1,q1⟩=>?_);exact h2 pins s1 σ1 H1 _ _ Q I1 rr q1
def gTup (K:Yae) (n:Nat) (t:TGs):TG:=fun v σ H Q=>∃ a xs,v=.ref a/\SqT K H a xs/\xs.length=n/\t xs σ H Q
theorem ZbF {es:List Expr}{k:Nat}{t:TGs}{n:Nat} (hc:X.calm=true) (h:PGs X es t)
  (hn:(assignEach es X.env).length=n:=by rfl) (hst:(assignEach es X.env).findIdx? (·.1)=none:=by rfl):PG X (.Tuple es k pos) (gTup X.K n t):=by
 intro pins s σ H v u Q I r hw;obtain⟨a,xs,e1,hq,hl,hw⟩:=hw;subst e1;cases r;obtain⟨its,rv,ht,hz⟩:=I.tuple hq;refine assign_Tuple_tuple (I.ok.hd hc) ht (by simp[hn,<- hl,rv.length]) hst fun h' hx=>?_;have I1:Inv X pins σ H { s with heap:=h' }:=I.kept (t':=s.toks) fun b o e=>hx b o (Yaw (Yah e)) e;exact h pins _ σ H xs _ Q I1 (by simpa using rv) hw
def gSub (to ti:TE) (t:TSet):TG:=fun v σ H Q=>to σ H fun o H1=>ti σ H1 fun i H2=>t o i v H2 fun H3=>Q σ H3
theorem ZiX {o i:Expr}{to ti:TE}{t:TSet} (ho:PE X o to) (hi:PE X i ti) (hs:PSet X t)
  (ha:∀ v,assign (.Subscript o i pos) X.env v=(do
   let ov <- holding [v] (eval o X.env)
   let iv <- holding [v,ov] (eval i X.env)
   standAt pos
   holding [v,ov,iv] (setItem ov iv v)
   release [v,ov,iv] []):=by intro _;rfl):PG X (.Subscript o i pos) (gSub to ti t):=by
 intro pins s σ H v u Q I r h;rw[ha];refine wpAny_bind (wpAny_holding (thn (ho pins s σ H _ I h) fun ov s1 ⟨x,H1,I1,r1,q1⟩=>?_));refine wpAny_bind (wpAny_holding (thn (hi pins s1 σ H1 _ I1 q1) fun iv s2 ⟨y,H2,I2,r2,q2⟩=>?_));refine wpAny_bind (wpAny_standAt (wpAny_bind (wpAny_holding (thn (hs pins s2 σ H2 x y v ov iv u _ I2 r1 r2 r q2) fun _ s3 ⟨H3,I3,q3⟩=>?_))));exact wpAny_release ⟨σ,H3,I3,q3⟩
def tAsg (te:TE) (g:TG):TS:=fun D σ H=>te σ H fun x H1=>g x σ H1 D.nx
theorem ZdY {tg e:Expr}{te:TE}{g:TG} (he:PE X e te) (hg:PG X tg g) (hs:swapsWithSole [tg] e pos.line X.env=pure false:=by rfl) (hw:swappedStores [tg] e X.env=pure none:=by rfl)
  (h1:(assignEach [tg] X.env).map (·.2)=[assign tg X.env]:=by rfl):PS X (.Assign [tg] e pos) (tAsg te g):=by
 intro pins s σ H D I h;refine wpAny_Assign_stores (thn (he pins s σ H _ I h) fun v s1 ⟨x,H1,I1,r1,q1⟩=>?_) hs hw;rw[h1];exact thn (hg pins s1 σ H1 x v _ I1 r1 q1) fun _ s2 q=>q
theorem Zaq {i:Nat}{x:Str}{e:Expr}{te:TE}{pos':Pos} (hN:X.N.Nodup) (hi:X.N[i]?=some x) (hx:Loc X.env.scope x) (he:PE X e te) (hs:swapsWith e (some (.Name x pos')) pos.line X.env=pure false:=by rfl) (hf:X.fn x=true∨X.env.scope.names.lookup x=some .local:=by first | exact .inl rfl | exact .inr rfl | assumption) :
  PS X (.Assign [.Name x pos'] e pos) (tAsg te (Zbw i)):=by
 intro pins s σ H D I h;refine wpAny_Assign_Name (thn (he pins s σ H _ I h) fun v s1 ⟨y,H1,I1,r1,q1⟩=>?_) hs;exact Zeb I1 hN hi hx r1 (fun s2 I2=>⟨_,H1,I2,q1⟩) hf
def tAug (i:Nat) (te:TE) (ti:TIp):TS:=fun D σ H=>∃ x,σ[i]?=some (some x)/\te σ H fun y H1=>ti x y H1 fun z H2=>D.nx (σ.set i (some z)) H2
theorem Zl3 {i:Nat}{x:Str}{e:Expr}{te:TE}{op:Operator}{ti:TIp}{pos':Pos} (hN:X.N.Nodup) (hi:X.N[i]?=some x) (hx:Loc X.env.scope x) (he:PE X e te) (ho:PIp X op ti) (hf:X.fn x=true∨X.env.scope.names.lookup x=some .local:=by first | exact .inl rfl | exact .inr rfl | assumption) :
  PS X (.AugAssign (.Name x pos') op e pos) (tAug i te ti):=by
 intro pins s σ H D I h;obtain⟨v,e1,h⟩:=h;obtain⟨m,hn,hl⟩:=I.loc;have vis:Vis X.env.scope x:=by rcases hx with k | k;exact .inl k;exact .inr (.inl k)
 obtain⟨u,r,l⟩:=hl i x v hi e1 vis;refine wpAny_AugAssign_Name ?_;have go:wpAny (model X.prog X.w) X.A (eval e X.env) (fun w s₂=>wpAny (model X.prog X.w) X.A (inplaceOp op u w) (fun r s₃=>wpAny (model X.prog X.w) X.A (storeName X.env x r) (fun _=>SP X pins D .next) X.xe s₃) X.xe s₂) X.xe s:=by
  refine thn (he pins s σ H _ I h) fun w s1 ⟨y,H1,I1,r1,q1⟩=>?_;refine thn (ho pins s1 σ H1 v y u w _ I1 r r1 q1) fun z s2 ⟨zv,H2,I2,r2,q2⟩=>?_;exact Zeb I2 hN hi hx r2 (fun s3 I3=>⟨_,H2,I3,q2⟩) hf
 rcases l with ⟨hk,hm⟩ | ⟨hk,c,hc,hcell⟩
 ·exact wpAny_loadName_local I.ok.kind hk hn hm go
 ·rcases hk with hk | hk
  ·exact wpAny_loadName_cell I.ok.kind hk hc hcell go
  ·rcases hx with k | k
   ·have:X.env.scope.names.lookup x=some .free:=hk;rw[k] at this;cases this
   ·have:X.env.scope.names.lookup x=some .free:=hk;rw[k] at this;cases this
def ipI (f:Int->Int->Int):TIp:=fun x y H Q=>∃ i j,x=.int i/\y=.int j/\Q (.int (f i j)) H
theorem Zor:PIp X .Add (ipI fun i j=>i+j):=by
 intro pins s σ H x y v u Q I r1 r2 h;obtain⟨i,j,e1,e2,q⟩:=h;subst e1;subst e2;obtain⟨t,rfl⟩:=r1;obtain⟨t',rfl⟩:=r2;exact iadd_int ⟨.int _,H,I.tok _,⟨_,rfl⟩,q⟩
theorem Zoq:PIp X .Sub (ipI fun i j=>i - j):=by
 intro pins s σ H x y v u Q I r1 r2 h;obtain⟨i,j,e1,e2,q⟩:=h;subst e1;subst e2;obtain⟨t,rfl⟩:=r1;obtain⟨t',rfl⟩:=r2;exact isub_int ⟨.int _,H,I.tok _,⟨_,rfl⟩,q⟩
end
section
variable {X:Cx}{pos:Pos}
def ZnI (c:TT) (tb:TS):TS:=fun D σ H=>∃ W:Nat->St->Hp->Prop,(∃ m,W m σ H)/\∀ m σ H,W m σ H ->
 c σ H fun b H1=>if b=true then ∃ N:St->Hp->Prop,(∀ σ' H',N σ' H'->∃ m',m'<m/\W m' σ' H')/\tb { D with nx:=N,ct:=N,bk:=D.nx } σ H1 else D.nx σ H1
theorem ZgS {c:Expr}{body:List Stmt}{tc:TT}{tb:TS} (hp:PassesOwn (model X.prog X.w) X.A X.env X.xe) (hc:PT X c tc) (hb:PSs X body tb):PS X (.While c body [] pos) (ZnI tc tb):=by
 intro pins s σ H D I h;obtain⟨W,⟨m0,w0⟩,turn⟩:=h;refine wpAny_While (codeAny_whileLoop (fun n s'=>∃ σ' H',Inv X pins σ' H' s'/\W n σ' H') ?_ m0 ⟨σ,H,I,w0⟩);rintro n s1 ⟨σ1,H1,I1,w1⟩;refine wpAny_passesOwn hp (thn (hc pins s1 σ1 H1 _ I1 (turn n σ1 H1 w1)) fun b s2 ⟨H2,I2,q2⟩=>?_)
 cases b with
 | true=>
  obtain⟨N,hN,q2⟩:=q2;rw[if_pos rfl];refine wpAny_passesOwn hp (thn (hb pins s2 σ1 H2 _ I2 q2) fun f s3 q3=>?_)
  cases f with
  | next=>
   obtain⟨σ3,H3,I3,n3⟩:=q3;obtain⟨m',hm,w3⟩:=hN σ3 H3 n3;exact⟨m',hm,σ3,H3,I3,w3⟩
  | cont=>
   obtain⟨σ3,H3,I3,n3⟩:=q3;obtain⟨m',hm,w3⟩:=hN σ3 H3 n3;exact⟨m',hm,σ3,H3,I3,w3⟩
  | brk=>exact q3
  | ret v=>exact q3
 | false=>
  rw[if_neg YaV];exact wpAny_execs_nil ⟨σ1,H2,I2,q2⟩
end
structure It where
 go:Nat->Hp->Prop
 yld:Nat->Hp->V->Hp->Prop
 stop:Nat->Hp->Prop
def FpOk (X:Cx) (pins:List (Addr × Obj)) (H:Hp) (b:Addr):Prop :=
 H b=none/\b≠X.env.locals/\b ∉ X.fs/\(b∈X.ex∨X.s₀.heap.objs.size<=b)/\(∀ x c,X.env.cells.lookup x=some c->c≠b)/\∀ p∈X.pn++pins,p.1≠b
theorem Inv.fpOk {X:Cx}{pins:List (Addr × Obj)}{σ:St}{H H':Hp}{s:Shared}{b:Addr} (I:Inv X pins σ H s) (hb:s.heap.objs.size<=b) (hn:H' b=none):FpOk X pins H' b:=by
 refine⟨hn,YbA (Yal I.lt hb),I.nofs hb,.inr (Ybv I.sz hb),fun x c e z=>?_,fun p hp z=>?_⟩
 ·obtain⟨v,q⟩:=I.cell x c e;exact absurd (Yal q.lt (by rw[z];exact hb)) (Ya7 _)
 ·exact absurd (Yal (Yah (I.pin p hp).1) (by rw[z];exact hb)) (Ya7 _)
structure Turn (P:Program) (w:World) (K:Yae) (tg:Expr) (J:It) (fp:List Addr) (it:Addr) (tn:Nat->Heap->Prop):Prop where
 mem:it∈fp
 obj:∀ i h,tn i h->∀ b∈fp,∃ o,h.get? b=some o/\∀ v,o.data≠.cell v
 keep:∀ i h h',tn i h->(∀ b∈fp,∀ o,h.get? b=some o->h'.get? b=some o)->tn i h'
 item:∀ (X:Cx),X.prog=P->X.w=w->X.K=K->X.calm=true->∀ (i:Nat) (pins:List (Addr × Obj)) (s:Shared) (σ:St) (H:Hp) (E:Value->Shared->Prop),Inv X pins σ H s->(∀ b∈fp,FpOk X pins H b)->tn i s.heap->J.go i H ->
  wpAny (model P w) X.A (pyNext (.ref it)) (fun r s1=>∃ u,r=some u /\
   wpAny (model P w) X.A (letOwnedTupleGo tg (.ref it) u) (fun _ s2=>∃ x H',Inv X pins σ H' s2/\RelV x u/\J.yld i H x H'/\tn (i+1) s2.heap/\∀ b∈fp,H' b=none) E s1) E s
 done:∀ (X:Cx),X.prog=P->X.w=w->X.K=K->X.calm=true->∀ (i:Nat) (pins:List (Addr × Obj)) (s:Shared) (σ:St) (H:Hp) (E:Value->Shared->Prop),Inv X pins σ H s->(∀ b∈fp,FpOk X pins H b)->tn i s.heap->J.stop i H ->
  wpAny (model P w) X.A (pyNext (.ref it)) (fun r s1=>r=none/\Inv X pins σ H s1) E s
 self:∀ (A:Around) (i:Nat) (s:Shared) (Q:Value->Shared->Prop) (E:Value->Shared->Prop),tn i s.heap->Q (.ref it) s->wpAny (model P w) A (pyIter (.ref it)) Q E s
abbrev TI:=St->Hp->(It->Hp->Prop)->Prop
def PIE (X:Cx) (pins:List (Addr × Obj)) (σ:St) (tg:Expr) (R:It->Hp->Prop) (itv:Value) (s2:Shared):Prop :=
 ∃ (it:Addr) (fp:List Addr) (tn:Nat->Heap->Prop) (J:It) (H':Hp),itv=.ref it/\Inv X pins σ H' s2/\Turn X.prog X.w X.K tg J fp it tn/\tn 0 s2.heap/\(∀ b∈fp,FpOk X pins H' b)/\R J H'
def PI (X:Cx) (tg iter:Expr) (wi:TI):Prop :=
 ∀ (pins:List (Addr × Obj)) (s:Shared) (σ:St) (H:Hp) (R:It->Hp->Prop),Inv X pins σ H s->wi σ H R ->
  wpAny (model X.prog X.w) X.A (eval iter X.env) (fun v s1=>wpAny (model X.prog X.w) X.A (pyIter v) (PIE X pins σ tg R) X.xe s1) X.xe s
theorem Znq {M:Model}{A:Around}{E:Value->Shared->Prop}{s:Shared}{tg:Expr}{it:Addr}{u:Value}{o:Obj}{n:String}{vs:Array Value}{Q:Unit->Shared->Prop} (ho:s.heap.get? it=some o) (hc:o.cls=.type n) (hd:o.data=.fields vs)
    (hn:["enumerate","zip","dict_itemiterator","dict_reverseitemiterator","odict_iterator","itertools.zip_longest","itertools.pairwise"].contains n=false) (hQ:Q () s):wpAny M A (letOwnedTupleGo tg (.ref it) u) Q E s:=by
  unfold letOwnedTupleGo;cases tg <;> first
    | exact wpAny_pure hQ
    | (cases u <;> first
        | exact wpAny_pure hQ
        | (refine wpAny_bind (wpAny_load ho ?_)
           rw[hc,hd];show wpAny M A (if (["enumerate","zip","dict_itemiterator","dict_reverseitemiterator","odict_iterator","itertools.zip_longest","itertools.pairwise"].contains n && vs[0]? == some (rawInt _))=true then _ else _) Q E s;rw[if_neg (by intro h;rw[hn,Bool.false_and] at h;cases h)];exact wpAny_pure hQ))
def Itl (K:Yae) (a:Addr):It :=
 ⟨fun i H=>∃ xs x,SqL K H a xs/\xs[i]?=some x,fun i H x H'=>H'=H/\∀ xs,SqL K H a xs->xs[i]?=some x,fun i H=>∃ xs,SqL K H a xs/\xs.length<=i⟩
def Itt (K:Yae) (a:Addr):It :=
 ⟨fun i H=>∃ xs x,SqT K H a xs/\xs[i]?=some x,fun i H x H'=>H'=H/\∀ xs,SqT K H a xs->xs[i]?=some x,fun i H=>∃ xs,SqT K H a xs/\xs.length<=i⟩
def Itr (lo:Int) (n:Nat):It:=⟨fun i _=>i<n,fun i H x H'=>H'=H/\x=.int (lo+i),fun i _=>n<=i⟩
theorem ZeZ {P:Program}{w:World}{K:Yae}{tg:Expr} (a it:Addr):Turn P w K tg (Itl K a) [it] it (fun i h=>h.IsListIter it a i) where
 mem:=by simp
 obj:=fun i h st b hb=>by
  have e:b=it:=by simpa using hb
  subst e;obtain⟨o,e,c,d⟩:=st;exact⟨o,e,fun v z=>by rw[d] at z;cases z⟩
 keep:=fun i h h' st k=>st.at fun o e=>k it (by simp) o e
 item:=by
  intro X hP hw hK hc i pins s σ H E I hf st hg;subst hP hw hK;obtain⟨xs,x,hq,hx⟩:=hg;obtain⟨its,rv,p,hz⟩:=I.list hq;obtain⟨u,hu,ru⟩:=rv.get hx;obtain⟨f0,f1,f2,f3,f4,f5⟩:=hf it (by simp);refine wpAny_pyNext_list_item st p.isList (x:=u) (by simpa using hu) fun h' st' sb=>?_;have I1:Inv X pins σ H { s with heap:=h' }:=I.turned (t':=s.toks) (fun b o hb e=>(sb.2 b hb).trans e) f0 f1 f3 f4 f5;obtain⟨o,e,c,d⟩:=id st';exact⟨u,rfl,Znq (s:={ s with heap:=h' }) e c d (by decide) ⟨x,H,I1,ru,⟨rfl,fun ys hy=>by rw[I.list_inj hy hq];exact hx⟩,st',fun b hb=>(hf b hb).1⟩⟩
 done:=by
  intro X hP hw hK hc i pins s σ H E I hf st hg;subst hP hw hK;obtain⟨xs,hq,hx⟩:=hg;obtain⟨its,rv,p,hz⟩:=I.list hq;obtain⟨f0,f1,f2,f3,f4,f5⟩:=hf it (by simp);have hl:=rv.length;exact wpAny_pyNext_list_end (I.ok.hd hc) st p.isList (by simp;omega) fun h' eb=>⟨rfl,I.turned (t':=s.toks) (fun b o hb e=>eb b o hb e) f0 f1 f3 f4 f5⟩
 self:=fun _ _ _ _ _ st h=>wpAny_pyIter_listiter st h
theorem ZdE {P:Program}{w:World}{K:Yae}{tg:Expr} (a it:Addr):Turn P w K tg (Itt K a) [it] it (fun i h=>h.IsTupleIter it a i) where
 mem:=by simp
 obj:=fun i h st b hb=>by
  have e:b=it:=by simpa using hb
  subst e;obtain⟨o,e,c,d⟩:=st;exact⟨o,e,fun v z=>by rw[d] at z;cases z⟩
 keep:=fun i h h' st k=>st.at fun o e=>k it (by simp) o e
 item:=by
  intro X hP hw hK hc i pins s σ H E I hf st hg;subst hP hw hK;obtain⟨xs,x,hq,hx⟩:=hg;obtain⟨its,rv,p,hz⟩:=I.tuple hq;obtain⟨u,hu,ru⟩:=rv.get hx;obtain⟨f0,f1,f2,f3,f4,f5⟩:=hf it (by simp);refine wpAny_pyNext_tuple_item st (show s.heap.IsTuple a its.toArray from p) (x:=u) (by simpa using hu) fun h' st' sb=>?_;have I1:Inv X pins σ H { s with heap:=h' }:=I.turned (t':=s.toks) (fun b o hb e=>(sb.2 b hb).trans e) f0 f1 f3 f4 f5;obtain⟨o,e,c,d⟩:=id st';exact⟨u,rfl,Znq (s:={ s with heap:=h' }) e c d (by decide) ⟨x,H,I1,ru,⟨rfl,fun ys hy=>by rw[I.tuple_inj hy hq];exact hx⟩,st',fun b hb=>(hf b hb).1⟩⟩
 done:=by
  intro X hP hw hK hc i pins s σ H E I hf st hg;subst hP hw hK;obtain⟨xs,hq,hx⟩:=hg;obtain⟨its,rv,p,hz⟩:=I.tuple hq;obtain⟨f0,f1,f2,f3,f4,f5⟩:=hf it (by simp);have hl:=rv.length;exact wpAny_pyNext_tuple_end (I.ok.hd hc) st (show s.heap.IsTuple a its.toArray from p) (by simp;omega) fun h' eb=>⟨rfl,I.turned (t':=s.toks) (fun b o hb e=>eb b o hb e) f0 f1 f3 f4 f5⟩
 self:=fun _ _ _ _ _ st h=>wpAny_pyIter_tupleiter st h
theorem Zhr {P:Program}{w:World}{K:Yae}{tg:Expr} (it:Addr) (lo:Int) (n:Nat):Turn P w K tg (Itr lo n) [it] it (fun i h=>IsRangeIter h it (lo+(i:Nat)*1) ((n:Int) - (i:Nat)) 1) where
 mem:=by simp
 obj:=fun i h st b hb=>by
  have e:b=it:=by simpa using hb
  subst e;exact⟨_,st,fun v z=>by
   have z':Data.fields _=Data.cell v:=z;cases z'⟩
 keep:=fun i h h' st k=>k it (by simp) _ st
 item:=by
  intro X hP hw hK hc i pins s σ H E I hf st hg;subst hP hw hK;obtain⟨f0,f1,f2,f3,f4,f5⟩:=hf it (by simp);have W:=Walks.range (prog:=X.prog) (w:=X.w) (I.ok.hd hc) it lo 1 n;refine W.item i s _ _ hg st fun v h' tk hv st' kk=>?_;obtain⟨t,rfl⟩:=hv;have I1:Inv X pins σ H { s with heap:=h',toks:=tk }:=I.turned (fun b o hb e=>kk b o (by simpa using hb) e) f0 f1 f3 f4 f5;refine⟨_,rfl,Znq (s:={ s with heap:=h',toks:=tk }) (n:="range_iterator") st' rfl rfl (by decide) ⟨.int (lo+i),H,I1,⟨t,?_⟩,⟨rfl,rfl⟩,st',fun b hb=>(hf b hb).1⟩⟩;rw[Int.mul_one]
 done:=by
  intro X hP hw hK hc i pins s σ H E I hf st hg;subst hP hw hK;obtain⟨f0,f1,f2,f3,f4,f5⟩:=hf it (by simp);exact wpAny_pyNext_range_end (I.ok.hd hc) st (by have:n<=i:=hg;omega) fun h' eb=>⟨rfl,I.turned (t':=s.toks) (fun b o hb e=>eb b o hb e) f0 f1 f3 f4 f5⟩
 self:=fun _ _ _ _ _ st h=>wpAny_pyIter_rangeiter st h
end L2
namespace L2
open PySem PySem.Spec PyProof.Rows
section
variable {X:Cx}{tg:Expr}
def Zo9 (K:Yae) (tl:TE):TI:=fun σ H R=>tl σ H fun x H1=>∃ a,x=.ref a/\(∃ xs,SqL K H1 a xs)/\R (Itl K a) H1
def iTup (K:Yae) (tl:TE):TI:=fun σ H R=>tl σ H fun x H1=>∃ a,x=.ref a/\(∃ xs,SqT K H1 a xs)/\R (Itt K a) H1
theorem ZiV {l:Expr}{tl:TE} (hl:PE X l tl):PI X tg l (Zo9 X.K tl):=by
 intro pins s σ H R I h;refine thn (hl pins s σ H _ I h) fun v s1 ⟨x,H1,I1,r1,q1⟩=>?_;obtain⟨a,e,⟨xs,hq⟩,q⟩:=q1;subst e;cases r1;obtain⟨its,rv,p,hz⟩:=I1.list hq;refine wpAny_pyIter_list p.isList ?_;refine⟨s1.heap.objs.size,[s1.heap.objs.size],_,_,H1,rfl,I1.kept (t':=s1.toks) fun b o e=>Yab _ e,ZeZ a _,⟨_,Yas _ rfl,rfl,rfl⟩,fun b hb=>?_,q⟩;have e:b=s1.heap.objs.size:=by simpa using hb
 subst e;exact I1.fpOk (Yag _) (I1.hok.fresh (Yag _))
theorem Zff {l:Expr}{tl:TE} (hl:PE X l tl):PI X tg l (iTup X.K tl):=by
 intro pins s σ H R I h;refine thn (hl pins s σ H _ I h) fun v s1 ⟨x,H1,I1,r1,q1⟩=>?_;obtain⟨a,e,⟨xs,hq⟩,q⟩:=q1;subst e;cases r1;obtain⟨its,rv,p,hz⟩:=I1.tuple hq;refine wpAny_pyIter_tuple (show s1.heap.IsTuple a its.toArray from p) ?_;refine⟨s1.heap.objs.size,[s1.heap.objs.size],_,_,H1,rfl,I1.kept (t':=s1.toks) fun b o e=>Yab _ e,ZdE a _,⟨_,Yas _ rfl,rfl,rfl⟩,fun b hb=>?_,q⟩;have e:b=s1.heap.objs.size:=by simpa using hb
 subst e;exact I1.fpOk (Yag _) (I1.hok.fresh (Yag _))
theorem ZgP {pins:List (Addr × Obj)}{σ:St}{H:Hp}{s:Shared}{R:It->Hp->Prop}{E:Value->Shared->Prop}{lo hi:Int}{t u v:Tok}{tk:Nat} (I:Inv X pins σ H s) (h1:-(2 ^ 62)<=lo) (h2:lo<2 ^ 62) (h3:-(2 ^ 62)<=hi) (h4:hi<2 ^ 62)
  (q:R (Itr lo (hi - lo).toNat) H):wpAny (model X.prog X.w) X.A (pyIter (.ref s.heap.objs.size)) (PIE X pins σ tg R) E { s with heap:=s.heap.push { cls:=.type "range",data:=.fields #[.int lo t,.int hi u,.int 1 v] },toks:=tk }:=by
 refine wpAny_pyIter_range (IsRange.new ..) (small_one h1 h2 h3 h4) ?_;have I1:Inv X pins σ H { s with heap:=s.heap.push { cls:=.type "range",data:=.fields #[.int lo t,.int hi u,.int 1 v] },toks:=tk }:=I.kept fun b o e=>Yab _ e;refine⟨(s.heap.push { cls:=.type "range",data:=.fields #[.int lo t,.int hi u,.int 1 v] }).objs.size,[(s.heap.push { cls:=.type "range",data:=.fields #[.int lo t,.int hi u,.int 1 v] }).objs.size],_,_,H,rfl,
  I1.kept (t':=tk) fun b o e=>Yab _ e,Zhr _ lo (hi - lo).toNat,?_,fun b hb=>?_,q⟩
 ·have e1:lo+((0:Nat):Int)*1=lo:=by simp
  have e2:(((hi - lo).toNat:Nat):Int) - ((0:Nat):Int)=Builtin.Range.rangeSize lo hi 1:=by rw[rangeSize_one];split <;> omega
  show IsRangeIter _ _ (lo+((0:Nat):Int)*1) ((((hi - lo).toNat:Nat):Int) - ((0:Nat):Int)) 1;rw[e1,e2];exact Yas _ rfl
 ·have e:b=(s.heap.push { cls:=.type "range",data:=.fields #[.int lo t,.int hi u,.int 1 v] }).objs.size:=by simpa using hb
  subst e;exact I1.fpOk (Yag _) (I1.hok.fresh (Yag _))
def Zo8 (ta:TA):TI:=fun σ H R=>ta σ H fun vs H1=>∃ j:Int,vs=[.int j]/\-(2 ^ 62)<=j/\j<2 ^ 62/\R (Itr 0 j.toNat) H1
def Zo7 (ta:TA):TI:=fun σ H R=>ta σ H fun vs H1=>∃ i j:Int,vs=[.int i,.int j]/\(-(2 ^ 62)<=i/\i<2 ^ 62/\-(2 ^ 62)<=j/\j<2 ^ 62)/\R (Itr i (j - i).toNat) H1
theorem ZaH {a:Expr}{ta:TA}{p pos:Pos} (hg:Gl X "range") (hm:X.mg "range"=none) (ha:PA X [a] ta) (hs:starEach [a] X.env=[(false,eval a X.env)]:=by rfl):PI X tg (.Call (.Name "range" p) [a] [] pos) (Zo8 ta):=by
 intro pins s σ H R I h;refine Call_ (Zdg I hg hm boot_range (YbO (thn (ha pos pins s σ H _ I h) fun us s1 ⟨vs,H1,I1,r1,q1⟩=>?_) hs rfl));obtain⟨j,e,q1,q2,q⟩:=q1;subst e
 cases r1 with
 | cons r rr=>
  cases rr;obtain⟨t,rfl⟩:=r;exact call_range_1 (ZgP I1 (by omega) (by omega) q1 q2 (by simpa using q))
theorem ZiU {a b:Expr}{ta:TA}{p pos:Pos} (hg:Gl X "range") (hm:X.mg "range"=none) (ha:PA X [a,b] ta) (hs:starEach [a,b] X.env=[(false,eval a X.env),(false,eval b X.env)]:=by rfl) (hs2:starEach [b] X.env=[(false,eval b X.env)]:=by rfl) :
  PI X tg (.Call (.Name "range" p) [a,b] [] pos) (Zo7 ta):=by
 intro pins s σ H R I h;refine Call_ (Zdg I hg hm boot_range (YbO (thn (ha pos pins s σ H _ I h) fun us s1 ⟨vs,H1,I1,r1,q1⟩=>?_) (by rw[hs,hs2]) (by rw[hs2];rfl)));obtain⟨i,j,e,⟨q1,q2,q3,q4⟩,q⟩:=q1;subst e
 cases r1 with
 | cons r rr=>
  cases rr with
  | cons r' rr=>
   cases rr;obtain⟨t,rfl⟩:=r;obtain⟨t',rfl⟩:=r';exact call_range_2 (ZgP I1 q1 q2 q3 q4 q)
def tFor (wi:TI) (g:TG) (tb:TS):TS:=fun D σ H=>wi σ H fun J H1=>∃ W:Nat->Nat->St->Hp->Prop,(∃ m,W 0 m σ H1)/\∀ i m σ H,W i m σ H ->
 (J.stop i H/\D.nx σ H)∨(J.go i H/\∃ N:St->Hp->Prop,(∀ σ' H',N σ' H'->∃ m',m'<m/\W (i+1) m' σ' H')/\∀ x H',J.yld i H x H'->g x σ H' fun σ2 H2=>tb { D with nx:=N,ct:=N,bk:=D.nx } σ2 H2)
def ZcN (fp:List Addr) (h:Heap):List (Addr × Obj):=fp.filterMap fun b=>(h.get? b).map fun o=>(b,o)
theorem ZaL {fp:List Addr}{h:Heap}{b:Addr}{o:Obj} (hb:b∈fp) (e:h.get? b=some o):(b,o)∈ZcN fp h:=YdL.mpr ⟨b,hb,by rw[e];rfl⟩
theorem Zjl {fp:List Addr}{h:Heap}{p:Addr × Obj} (hp:p∈ZcN fp h):p.1∈fp/\h.get? p.1=some p.2:=by
 obtain⟨b,hb,e⟩:=YdL.mp hp
 cases q:h.get? b with
 | none=>rw[q] at e;cases e
 | some o=>
  rw[q] at e;have e':(b,o)=p:=YaE e;subst e';exact⟨hb,q⟩
theorem Inv.pinned {pins:List (Addr × Obj)}{σ:St}{H:Hp}{s:Shared}{fp:List Addr} (I:Inv X pins σ H s) (hf:∀ b∈fp,FpOk X pins H b) (ho:∀ b∈fp,∃ o,s.heap.get? b=some o/\∀ v,o.data≠.cell v):Inv X (pins++ZcN fp s.heap) σ H s :=
 I.pins_of fun p hp=>(Yaj.mp hp).elim (fun z=>I.pin p (YaA _ z)) fun z=>by
  obtain⟨hb,e⟩:=Zjl z;obtain⟨f0,f1,f2,_⟩:=hf p.1 hb;obtain⟨o,e',d⟩:=ho p.1 hb;rw[e] at e';cases e';exact⟨e,f0,f1,f2,d⟩
theorem Inv.unpinned {pins pl:List (Addr × Obj)}{σ:St}{H:Hp}{s:Shared} (I:Inv X (pins++pl) σ H s):Inv X pins σ H s:=I.pins_of fun p hp=>I.pin p (YaA _ (Ya0 _ hp))
theorem Zbd {iter:Expr}{body:List Stmt}{wi:TI}{g:TG}{tb:TS}{pos:Pos} (hp:PassesOwn (model X.prog X.w) X.A X.env X.xe) (hc:X.calm=true) (hi:PI X tg iter wi) (hg:PG X tg g) (hb:PSs X body tb)
  (hs:∀ x,foldedSetIterable iter X.env x=pure x:=by intro _;rfl):PS X (.For tg iter body [] pos) (tFor wi g tb):=by
 intro pins s σ H D I h;refine wpAny_For (thn (hi pins s σ H _ I h) fun v s1 h1=>thn h1 fun itv s2 h2=>?_) hs;obtain⟨it,fp,tn,J,H2,e,I2,T,st2,f2,W,⟨m0,w0⟩,turn⟩:=h2;subst e;have stat:∀ {H':Hp},(∀ b∈fp,H' b=none)->∀ b∈fp,FpOk X pins H' b:=fun hn b hb=>⟨hn b hb,(f2 b hb).2⟩
 refine codeAny_forLoop_any (fun n s'=>∃ i σ' H',Inv X pins σ' H' s'/\tn i s'.heap/\(∀ b∈fp,H' b=none)/\W i n σ' H') ?_ m0 ⟨0,σ,H2,I2,st2,fun b hb=>(f2 b hb).1,w0⟩;rintro n s3 ⟨i,σ3,H3,I3,st3,fr3,w3⟩;rcases turn i n σ3 H3 w3 with ⟨stop,qn⟩ | ⟨go,N,hN,step⟩
 ·refine wpAny_passesOwn hp (thn (T.done X rfl rfl rfl hc i pins s3 σ3 H3 X.xe I3 (stat fr3) st3 stop) fun r s4 ⟨hr,I4⟩=>?_);subst hr;exact wpAny_execs_nil ⟨σ3,H3,I4,qn⟩
 ·refine wpAny_passesOwn hp (thn (T.item X rfl rfl rfl hc i pins s3 σ3 H3 X.xe I3 (stat fr3) st3 go) fun r s4 ⟨u,hr,h4⟩=>?_);subst hr;refine wpAny_passesOwn hp (thn h4 fun _ s5 ⟨x,H5,I5,r5,y5,st5,fr5⟩=>?_);have I5':=I5.pinned (stat fr5) (T.obj _ _ st5);refine wpAny_passesOwn hp (thn (hg _ s5 σ3 H5 x u _ I5' r5 (step x H5 y5)) fun _ s6 ⟨σ6,H6,I6,q6⟩=>?_);refine wpAny_passesOwn hp (thn (hb _ s6 σ6 H6 _ I6 q6) fun f s7 q7=>?_);have again:∀ {σ7:St}{H7:Hp},Inv X (pins++ZcN fp s5.heap) σ7 H7 s7->N σ7 H7->∃ m,m<n/\∃ i σ' H',Inv X pins σ' H' s7/\tn i s7.heap/\(∀ b∈fp,H' b=none)/\W i m σ' H':=fun {σ7 H7} I7 n7=>by
   obtain⟨m',hm,w7⟩:=hN σ7 H7 n7;refine⟨m',hm,i+1,σ7,H7,I7.unpinned,T.keep _ _ _ st5 fun b hb o e=>(I7.pin (b,o) (YaA _ (YaA _ (ZaL hb e)))).1,fun b hb=>?_,w7⟩;obtain⟨o,e,d⟩:=T.obj _ _ st5 b hb;exact (I7.pin (b,o) (YaA _ (YaA _ (ZaL hb e)))).2.1
  cases f with
  | next=>obtain⟨σ7,H7,I7,n7⟩:=q7;exact again I7 n7
  | cont=>obtain⟨σ7,H7,I7,n7⟩:=q7;exact again I7 n7
  | brk=>obtain⟨σ7,H7,I7,q7⟩:=q7;exact⟨σ7,H7,I7.unpinned,q7⟩
  | ret v=>obtain⟨x7,σ7,H7,I7,r7,q7⟩:=q7;exact⟨x7,σ7,H7,I7.unpinned,r7,q7⟩
end
theorem ZlF {K:Yae}{a:Addr}{xs:List V}{g:TG}{tb:TS}{D:Ends}{σ:St}{H:Hp} (Pv:Nat->St->Hp->Prop) (h0:Pv 0 σ H) (hl:∀ i σ H,i<=xs.length->Pv i σ H->SqL K H a xs)
  (hs:∀ i x σ H,xs[i]?=some x->Pv i σ H->g x σ H fun σ2 H2=>tb { D with nx:=Pv (i+1),ct:=Pv (i+1),bk:=D.nx } σ2 H2) (hd:∀ σ H,Pv xs.length σ H->D.nx σ H) :
  ∃ W:Nat->Nat->St->Hp->Prop,(∃ m,W 0 m σ H)/\∀ i m σ H,W i m σ H ->
   ((Itl K a).stop i H/\D.nx σ H)∨((Itl K a).go i H/\∃ N:St->Hp->Prop,(∀ σ' H',N σ' H'->∃ m',m'<m/\W (i+1) m' σ' H')/\∀ x H',(Itl K a).yld i H x H'->g x σ H' fun σ2 H2=>tb { D with nx:=N,ct:=N,bk:=D.nx } σ2 H2):=by
 refine⟨fun i m σ H=>m=xs.length - i/\i<=xs.length/\Pv i σ H,⟨xs.length,by simp,YaW _,h0⟩,?_⟩;rintro i m σ H ⟨rfl,hi,p⟩;have q:=hl i σ H hi p;by_cases hlt:i<xs.length
 ·refine .inr ⟨⟨xs,xs[i],q,by simp[hlt]⟩,Pv (i+1),fun σ' H' p'=>⟨xs.length - (i+1),by omega,rfl,hlt,p'⟩,fun x H' y=>?_⟩;obtain⟨e,y⟩:=y;subst e;exact hs i x σ _ (y xs q) p
 ·have e:i=xs.length:=by omega
  subst e;exact .inl ⟨⟨xs,q,Yag _⟩,hd σ H p⟩
theorem Znt {K:Yae}{a:Addr}{xs:List V}{g:TG}{tb:TS}{D:Ends}{σ:St}{H:Hp} (Pv:Nat->St->Hp->Prop) (h0:Pv 0 σ H) (hl:∀ i σ H,i<=xs.length->Pv i σ H->SqT K H a xs)
  (hs:∀ i x σ H,xs[i]?=some x->Pv i σ H->g x σ H fun σ2 H2=>tb { D with nx:=Pv (i+1),ct:=Pv (i+1),bk:=D.nx } σ2 H2) (hd:∀ σ H,Pv xs.length σ H->D.nx σ H) :
  ∃ W:Nat->Nat->St->Hp->Prop,(∃ m,W 0 m σ H)/\∀ i m σ H,W i m σ H ->
   ((Itt K a).stop i H/\D.nx σ H)∨((Itt K a).go i H/\∃ N:St->Hp->Prop,(∀ σ' H',N σ' H'->∃ m',m'<m/\W (i+1) m' σ' H')/\∀ x H',(Itt K a).yld i H x H'->g x σ H' fun σ2 H2=>tb { D with nx:=N,ct:=N,bk:=D.nx } σ2 H2):=by
 refine⟨fun i m σ H=>m=xs.length - i/\i<=xs.length/\Pv i σ H,⟨xs.length,by simp,YaW _,h0⟩,?_⟩;rintro i m σ H ⟨rfl,hi,p⟩;have q:=hl i σ H hi p;by_cases hlt:i<xs.length
 ·refine .inr ⟨⟨xs,xs[i],q,by simp[hlt]⟩,Pv (i+1),fun σ' H' p'=>⟨xs.length - (i+1),by omega,rfl,hlt,p'⟩,fun x H' y=>?_⟩;obtain⟨e,y⟩:=y;subst e;exact hs i x σ _ (y xs q) p
 ·have e:i=xs.length:=by omega
  subst e;exact .inl ⟨⟨xs,q,Yag _⟩,hd σ H p⟩
theorem Za2 {lo:Int}{n:Nat}{g:TG}{tb:TS}{D:Ends}{σ:St}{H:Hp} (Pv:Nat->St->Hp->Prop) (h0:Pv 0 σ H)
  (hs:∀ i σ H,i<n->Pv i σ H->g (.int (lo+i)) σ H fun σ2 H2=>tb { D with nx:=Pv (i+1),ct:=Pv (i+1),bk:=D.nx } σ2 H2) (hd:∀ σ H,Pv n σ H->D.nx σ H) :
  ∃ W:Nat->Nat->St->Hp->Prop,(∃ m,W 0 m σ H)/\∀ i m σ H,W i m σ H ->
   ((Itr lo n).stop i H/\D.nx σ H)∨((Itr lo n).go i H/\∃ N:St->Hp->Prop,(∀ σ' H',N σ' H'->∃ m',m'<m/\W (i+1) m' σ' H')/\∀ x H',(Itr lo n).yld i H x H'->g x σ H' fun σ2 H2=>tb { D with nx:=N,ct:=N,bk:=D.nx } σ2 H2):=by
 refine⟨fun i m σ H=>m=n - i/\i<=n/\Pv i σ H,⟨n,by simp,YaW _,h0⟩,?_⟩;rintro i m σ H ⟨rfl,hi,p⟩;by_cases hlt:i<n
 ·refine .inr ⟨hlt,Pv (i+1),fun σ' H' p'=>⟨n - (i+1),by omega,rfl,hlt,p'⟩,fun x H' y=>?_⟩;obtain⟨e,y⟩:=y;subst e y;exact hs i σ _ hlt p
 ·have e:i=n:=by omega
  subst e;exact .inl ⟨Yag _,hd σ H p⟩
end L2
namespace L2
open PySem PySem.Spec PyProof.Rows
abbrev R2:=V->V->Hp->VK->Prop
def OpR (X:Cx) (f:Value->Value->Sem Value) (r:R2):Prop :=
 ∀ (pins:List (Addr × Obj)) (s:Shared) (σ:St) (H:Hp) (x y:V) (v u:Value) (Q:VK),Inv X pins σ H s->RelV x v->RelV y u->r x y H Q ->
  wpAny (model X.prog X.w) X.A (f v u) (EP X pins σ Q) X.xe s
def UnR (X:Cx) (f:Value->Sem Value) (r:V->Hp->VK->Prop):Prop :=
 ∀ (pins:List (Addr × Obj)) (s:Shared) (σ:St) (H:Hp) (x:V) (v:Value) (Q:VK),Inv X pins σ H s->RelV x v->r x H Q ->
  wpAny (model X.prog X.w) X.A (f v) (EP X pins σ Q) X.xe s
def ZbK (X:Cx) (f:Value) (r:List V->Hp->VK->Prop):Prop :=
 ∀ (pins:List (Addr × Obj)) (s:Shared) (σ:St) (H:Hp) (xs:List V) (us:List Value) (Q:VK),Inv X pins σ H s->Vals xs us->r xs H Q ->
  wpAny (model X.prog X.w) X.A (call f us) (EP X pins σ Q) X.xe s
def tOp (r:R2) (ta tb:TE):TE:=fun σ H Q=>ta σ H fun x H1=>tb σ H1 fun y H2=>r x y H2 Q
def tUn (r:V->Hp->VK->Prop) (ta:TE):TE:=fun σ H Q=>ta σ H fun x H1=>r x H1 Q
def rI (C:Int->Int->Prop) (g:Int->Int->V):R2:=fun x y H Q=>∃ i j,x=.int i/\y=.int j/\C i j/\Q (g i j) H
def rI0 (g:Int->Int->V):R2:=fun x y H Q=>∃ i j,x=.int i/\y=.int j/\Q (g i j) H
def rU (g:Int->V):V->Hp->VK->Prop:=fun x H Q=>∃ i,x=.int i/\Q (g i) H
section
variable {X:Cx}{a b c:Expr}{ta tb tc:TE}{pos:Pos}
theorem binT (ha:PE X a ta) (hb:PE X b tb) {pins:List (Addr × Obj)}{s:Shared}{σ:St}{H:Hp}{R:V->V->Hp->Prop} (I:Inv X pins σ H s)
  (h:ta σ H fun x H1=>tb σ H1 fun y H2=>R x y H2) {Q:Value->Shared->Prop}{f:Value->Value->Sem Value}
  (hf:∀ v u s2 x y H2,Inv X pins σ H2 s2->RelV x v->RelV y u->R x y H2->wpAny (model X.prog X.w) X.A (f v u) Q X.xe s2) :
  wpAny (model X.prog X.w) X.A (eval a X.env) (fun v s₁=>wpAny (model X.prog X.w) X.A (eval b X.env) (fun u s₂=>wpAny (model X.prog X.w) X.A (f v u) Q X.xe s₂) X.xe s₁) X.xe s:=by
 refine thn (ha pins s σ H _ I h) fun v s1 ⟨x,H1,I1,r1,q1⟩=>?_;refine thn (hb pins s1 σ H1 _ I1 q1) fun u s2 ⟨y,H2,I2,r2,q2⟩=>?_;exact hf v u s2 x y H2 I2 r1 r2 q2
theorem Zal {op:Operator}{r:R2} (ho:OpR X (binaryOp op) r) (ha:PE X a ta) (hb:PE X b tb):PE X (.BinOp a op b pos) (tOp r ta tb):=by
 intro pins s σ H Q I h;exact wpAny_BinOp (binT ha hb I h fun v u s2 x y H2 I2 rx ry q=>ho pins s2 σ H2 x y v u Q I2 rx ry q)
theorem ZmX {op:UnaryOp}{r:V->Hp->VK->Prop} (ho:UnR X (unaryOp op) r) (ha:PE X a ta):PE X (.UnaryOp op a pos) (tUn r ta):=by
 intro pins s σ H Q I h;exact UnaryOp_ (thn (ha pins s σ H _ I h) fun v s1 ⟨x,H1,I1,r1,q1⟩=>ho pins s1 σ H1 x v Q I1 r1 q1)
theorem opI {f:Value->Value->Sem Value}{C:Int->Int->Prop}{g:Int->Int->Int}
  (rule:∀ (i j:Int) (t u:Tok) (s:Shared) (Q:Value->Shared->Prop) (E:Value->Shared->Prop),C i j->Q (.int (g i j) s.toks) { s with toks:=s.toks+1 }->wpAny (model X.prog X.w) X.A (f (.int i t) (.int j u)) Q E s) :
  OpR X f (rI C fun i j=>.int (g i j)):=by
 intro pins s σ H x y v u Q I rx ry h;obtain⟨i,j,rfl,rfl,hc,q⟩:=h;obtain⟨t,rfl⟩:=rx;obtain⟨t',rfl⟩:=ry;exact rule i j t t' s _ _ hc ⟨.int (g i j),H,I.tok _,⟨_,rfl⟩,q⟩
theorem opI0 {f:Value->Value->Sem Value}{g:Int->Int->Int}
  (rule:∀ (i j:Int) (t u:Tok) (s:Shared) (Q:Value->Shared->Prop) (E:Value->Shared->Prop),Q (.int (g i j) s.toks) { s with toks:=s.toks+1 }->wpAny (model X.prog X.w) X.A (f (.int i t) (.int j u)) Q E s) :
  OpR X f (rI0 fun i j=>.int (g i j)):=by
 intro pins s σ H x y v u Q I rx ry h;obtain⟨i,j,rfl,rfl,q⟩:=h;obtain⟨t,rfl⟩:=rx;obtain⟨t',rfl⟩:=ry;exact rule i j t t' s _ _ ⟨.int (g i j),H,I.tok _,⟨_,rfl⟩,q⟩
theorem opB0 {f:Value->Value->Sem Value}{g:Int->Int->Bool}
  (rule:∀ (i j:Int) (t u:Tok) (s:Shared) (Q:Value->Shared->Prop) (E:Value->Shared->Prop),Q (.bool (g i j)) s->wpAny (model X.prog X.w) X.A (f (.int i t) (.int j u)) Q E s) :
  OpR X f (rI0 fun i j=>.bl (g i j)):=by
 intro pins s σ H x y v u Q I rx ry h;obtain⟨i,j,rfl,rfl,q⟩:=h;obtain⟨t,rfl⟩:=rx;obtain⟨t',rfl⟩:=ry;exact rule i j t t' s _ _ ⟨.bl (g i j),H,I,rfl,q⟩
def CDiv (i j:Int):Prop:=0<j/\j<1073741824
def CPow (i j:Int):Prop:=0<=j/\j<=1000000/\i.natAbs<2 ^ 64
def CMul (i j:Int):Prop:=(-(2 ^ 64)<i/\i<2 ^ 64)∨(-(2 ^ 64)<j/\j<2 ^ 64)
theorem CMul.ok {i j:Int} (h:CMul i j):IntMulOk i j:=by
 rcases h with ⟨h1,h2⟩ | ⟨h1,h2⟩
 ·exact .of_left (intBits_le_64 h1 h2)
 ·exact .of_right (intBits_le_64 h1 h2)
theorem ZaP:OpR X (binaryOp .Add) (rI0 fun i j=>.int (i+j)):=opI0 fun _ _ _ _ _ _ _ q=>add_int q
theorem ZbZ:OpR X (binaryOp .Sub) (rI0 fun i j=>.int (i - j)):=opI0 fun _ _ _ _ _ _ _ q=>sub_int q
theorem Zb1:OpR X (binaryOp .Mult) (rI CMul fun i j=>.int (i*j)):=opI fun _ _ _ _ _ _ _ hc q=>mul_int q hc.ok
theorem Zm3:OpR X (binaryOp .FloorDiv) (rI CDiv fun i j=>.int (i / j)):=opI fun i j _ _ _ _ _ hc q=>by
 have h1:(0:Int)<j:=hc.1;have h2:j<1073741824:=hc.2;exact floordiv_int (by omega) (by rw[YeH i (by omega)];exact q) (.inl (PyProof.noPylong_small (by omega)))
theorem ZaN:OpR X (binaryOp .Mod) (rI (fun _ j=>0<j) fun i j=>.int (i % j)):=opI fun i j _ _ _ _ _ hc q=>by
 have h1:(0:Int)<j:=hc;exact mod_int' (by omega) (by rw[Int.fmod_eq_emod_of_nonneg i (by omega)];exact q)
theorem Zb0:OpR X (binaryOp .Pow) (rI CPow fun i j=>.int (i ^ j.toNat)):=opI fun _ _ _ _ _ _ _ hc q=>pow_int_small hc.1 hc.2.1 hc.2.2 q
theorem unI {f:Value->Sem Value}{g:Int->Int}
  (rule:∀ (i:Int) (t:Tok) (s:Shared) (Q:Value->Shared->Prop) (E:Value->Shared->Prop),Q (.int (g i) s.toks) { s with toks:=s.toks+1 }->wpAny (model X.prog X.w) X.A (f (.int i t)) Q E s) :
  UnR X f (rU fun i=>.int (g i)):=by
 intro pins s σ H x v Q I rx h;obtain⟨i,rfl,q⟩:=h;obtain⟨t,rfl⟩:=rx;exact rule i t s _ _ ⟨.int (g i),H,I.tok _,⟨_,rfl⟩,q⟩
theorem Zii:UnR X (unaryOp .USub) (rU fun i=>.int (-i)):=unI fun _ _ _ _ _ q=>neg_int q
end
def scal:V->V->Bool
 | .non,.non=>true | .non,.int _=>true | .int _,.non=>true | .non,.bl _=>true | .bl _,.non=>true | .non,.str _=>true | .str _,.non=>true
 | .int _,.int _=>true | .bl _,.bl _=>true | .str _,.str _=>true | .byt _,.byt _=>true
 | .int _,.str _=>true | .str _,.int _=>true | .bl _,.str _=>true | .str _,.bl _=>true
 | _,_=>false
def rEq:R2:=fun x y H Q=>scal x y=true/\Q (.bl (decide (x=y))) H
def rNe:R2:=fun x y H Q=>scal x y=true/\Q (.bl (!decide (x=y))) H
theorem Zka {i j:Int}:decide (V.int i=V.int j)=(i == j):=by
 rw[YcF];simp
theorem Zmh {i j:Bool}:decide (V.bl i=V.bl j)=(i == j):=by
 rw[YcF];simp
theorem Zj9 {i j:Str}:decide (V.str i=V.str j)=(i == j):=by
 rw[YcF];simp
theorem Zkb {i j:Array UInt8}:decide (V.byt i=V.byt j)=(i.toList == j.toList):=by
 rw[YcF];cases i;cases j;simp
section
variable {X:Cx}{a b c:Expr}{ta tb tc:TE}{pos:Pos}
theorem ZaC {pins:List (Addr × Obj)}{σ:St}{H:Hp}{s:Shared}{Q:VK}{k k':Bool} (I:Inv X pins σ H s) (q:Q (.bl k) H) (e:k=k'):EP X pins σ Q (.bool k') s:=by
 subst e;exact⟨.bl k,H,I,rfl,q⟩
theorem Zm4:OpR X (compareOp .Eq) rEq:=by
 intro pins s σ H x y v u Q I rx ry h;obtain⟨hs,q⟩:=h
 cases x with
 | non=>
  cases rx
  cases y with
  | non=>cases ry;exact PySem.EqNone.eq_none_none (ZaC I q (by simp))
  | bl j=>cases ry;exact PySem.EqNone.eq_none_bool (ZaC I q (by simp))
  | int j=>obtain⟨t',rfl⟩:=ry;exact PySem.EqNone.eq_none_int (ZaC I q (by simp))
  | str j=>obtain⟨t',rfl⟩:=ry;exact PySem.EqNone.eq_none_str (ZaC I q (by simp))
  | _=>exact absurd (show false=true from hs) YaV
 | bl i=>
  cases rx
  cases y with
  | non=>cases ry;exact PySem.EqNone.eq_bool_none (ZaC I q (by simp))
  | bl j=>cases ry;exact eq_bool (ZaC I q Zmh)
  | str j=>obtain⟨t',rfl⟩:=ry;exact PySem.EqMixed.eq_bool_str (ZaC I q (by simp))
  | _=>exact absurd (show false=true from hs) YaV
 | int i=>
  obtain⟨t,rfl⟩:=rx
  cases y with
  | non=>cases ry;exact PySem.EqNone.eq_int_none (ZaC I q (by simp))
  | int j=>obtain⟨t',rfl⟩:=ry;exact eq_int (ZaC I q Zka)
  | str j=>obtain⟨t',rfl⟩:=ry;exact PySem.EqMixed.eq_int_str (ZaC I q (by simp))
  | _=>exact absurd (show false=true from hs) YaV
 | str i=>
  obtain⟨t,rfl⟩:=rx
  cases y with
  | non=>cases ry;exact PySem.EqNone.eq_str_none (ZaC I q (by simp))
  | bl j=>cases ry;exact PySem.EqMixed.eq_str_bool (ZaC I q (by simp))
  | int j=>obtain⟨t',rfl⟩:=ry;exact PySem.EqMixed.eq_str_int (ZaC I q (by simp))
  | str j=>obtain⟨t',rfl⟩:=ry;exact eq_str (ZaC I q Zj9)
  | _=>exact absurd (show false=true from hs) YaV
 | byt i=>
  obtain⟨t,rfl⟩:=rx
  cases y with
  | byt j=>obtain⟨t',rfl⟩:=ry;exact PySem.W.eq_bytes (ZaC I q Zkb)
  | _=>exact absurd (show false=true from hs) YaV
 | _=>cases y <;> exact absurd (show false=true from hs) YaV
theorem Zm1:OpR X (compareOp .NotEq) rNe:=by
 intro pins s σ H x y v u Q I rx ry h;obtain⟨hs,q⟩:=h
 cases x with
 | non=>
  cases rx
  cases y with
  | non=>cases ry;exact PySem.EqNone.ne_none_none (ZaC I q (by simp))
  | bl j=>cases ry;exact PySem.EqNone.ne_none_bool (ZaC I q (by simp))
  | int j=>obtain⟨t',rfl⟩:=ry;exact PySem.EqNone.ne_none_int (ZaC I q (by simp))
  | str j=>obtain⟨t',rfl⟩:=ry;exact PySem.EqNone.ne_none_str (ZaC I q (by simp))
  | _=>exact absurd (show false=true from hs) YaV
 | bl i=>
  cases rx
  cases y with
  | non=>cases ry;exact PySem.EqNone.ne_bool_none (ZaC I q (by simp))
  | bl j=>cases ry;exact ne_bool (ZaC I q (congrArg not Zmh))
  | str j=>obtain⟨t',rfl⟩:=ry;exact PySem.EqMixed.ne_bool_str (ZaC I q (by simp))
  | _=>exact absurd (show false=true from hs) YaV
 | int i=>
  obtain⟨t,rfl⟩:=rx
  cases y with
  | non=>cases ry;exact PySem.EqNone.ne_int_none (ZaC I q (by simp))
  | int j=>obtain⟨t',rfl⟩:=ry;exact ne_int (ZaC I q (congrArg not Zka))
  | str j=>obtain⟨t',rfl⟩:=ry;exact PySem.EqMixed.ne_int_str (ZaC I q (by simp))
  | _=>exact absurd (show false=true from hs) YaV
 | str i=>
  obtain⟨t,rfl⟩:=rx
  cases y with
  | non=>cases ry;exact PySem.EqNone.ne_str_none (ZaC I q (by simp))
  | bl j=>cases ry;exact PySem.EqMixed.ne_str_bool (ZaC I q (by simp))
  | int j=>obtain⟨t',rfl⟩:=ry;exact PySem.EqMixed.ne_str_int (ZaC I q (by simp))
  | str j=>obtain⟨t',rfl⟩:=ry;exact ne_str (ZaC I q (congrArg not Zj9))
  | _=>exact absurd (show false=true from hs) YaV
 | byt i=>
  obtain⟨t,rfl⟩:=rx
  cases y with
  | byt j=>obtain⟨t',rfl⟩:=ry;exact PySem.W.ne_bytes (ZaC I q (congrArg not Zkb))
  | _=>exact absurd (show false=true from hs) YaV
 | _=>cases y <;> exact absurd (show false=true from hs) YaV
theorem Zk8:OpR X (compareOp .Lt) (rI0 fun i j=>.bl (decide (i<j))):=opB0 fun _ _ _ _ _ _ _ q=>lt_int q
theorem Zgb:OpR X (compareOp .LtE) (rI0 fun i j=>.bl (decide (i<=j))):=opB0 fun _ _ _ _ _ _ _ q=>le_int q
theorem Zi7:OpR X (compareOp .Gt) (rI0 fun i j=>.bl (decide (j<i))):=opB0 fun _ _ _ _ _ _ _ q=>gt_int q
theorem Zk9:OpR X (compareOp .GtE) (rI0 fun i j=>.bl (decide (j<=i))):=opB0 fun _ _ _ _ _ _ _ q=>ge_int q
theorem ZaS (b:Expr) {op:CmpOp} (h:op≠.In:=by decide) (h2:op≠.NotIn:=by decide):behindInMarks op b=false:=by
 have e1:(op == CmpOp.In)=false:=by cases op <;> first | rfl | exact absurd rfl h
 have e2:(op == CmpOp.NotIn)=false:=by cases op <;> first | rfl | exact absurd rfl h2
 cases b <;> simp[behindInMarks,e1,e2]
theorem Zdc {op:CmpOp}{r:R2} (ho:OpR X (compareOp op) r) (ha:PE X a ta) (hb:PE X b tb) (hm:behindInMarks op b=false):PE X (.Compare a [op] [b] pos) (tOp r ta tb):=by
 intro pins s σ H Q I h;exact wpAny_Compare1 (binT ha hb I h fun v u s2 x y H2 I2 rx ry q=>ho pins s2 σ H2 x y v u Q I2 rx ry q) hm
def ZnJ (t:TE):TT:=fun σ H Q=>t σ H fun x H'=>∃ k,x=.bl k/\Q k H'
theorem ZaO {op:CmpOp}{r:R2} (ho:OpR X (compareOp op) r) (ha:PE X a ta) (hb:PE X b tb) (hm:behindInMarks op b=false):PT X (.Compare a [op] [b] pos) (ZnJ (tOp r ta tb)):=by
 intro pins s σ H Q I h;refine wpAny_isTrue_Compare1 (thn (ha pins s σ H _ I h) fun v s1 ⟨x,H1,I1,r1,q1⟩=>thn (hb pins s1 σ H1 _ I1 q1) fun u s2 ⟨y,H2,I2,r2,q2⟩=>
  thn (ho pins s2 σ H2 x y v u _ I2 r1 r2 q2) fun c s3 ⟨z,H3,I3,r3,k,e,q3⟩=>?_) hm
 subst e;cases r3;exact wpAny_truthy_bool ⟨H3,I3,q3⟩
def ZlW (r r':R2) (ta tb tc:TE):TE:=fun σ H Q=>ta σ H fun x H1=>tb σ H1 fun y H2=>r x y H2 fun z H3=>∃ k,z=.bl k /\
 (if k=true then tc σ H3 fun w' H4=>r' y w' H4 Q else Q (.bl false) H3)
theorem Zk7 {op op':CmpOp}{r r':R2} (ho:OpR X (compareOp op) r) (ho':OpR X (compareOp op') r') (ha:PE X a ta) (hb:PE X b tb) (hc:PE X c tc)
  (hm:lastMarks [op,op'] [b,c]=false:=by with_unfolding_all rfl):PE X (.Compare a [op,op'] [b,c] pos) (ZlW r r' ta tb tc):=by
 intro pins s σ H Q I h;refine Compare_chain (thn (ha pins s σ H _ I h) fun v s1 ⟨x,H1,I1,r1,q1⟩=>chain_link (thn (hb pins s1 σ H1 _ I1 q1) fun u s2 ⟨y,H2,I2,r2,q2⟩=>
  thn (ho pins s2 σ H2 x y v u _ I2 r1 r2 q2) fun d s3 ⟨z,H3,I3,r3,k,e,q3⟩=>?_)) hm
 subst e;cases r3;refine wpAny_truthy_bool ?_
 cases k with
 | false=>exact ite_ff ⟨.bl false,H3,I3,rfl,q3⟩
 | true=>exact ite_tt (chain_last (thn (hc pins s3 σ H3 _ I3 q3) fun w' s4 ⟨z',H4,I4,r4,q4⟩=>ho' pins s4 σ H4 y z' u w' Q I4 r2 r4 q4))
theorem ZgR {op op':CmpOp}{r r':R2} (ho:OpR X (compareOp op) r) (ho':OpR X (compareOp op') r') (ha:PE X a ta) (hb:PE X b tb) (hc:PE X c tc)
  (hm:lastMarks [op,op'] [b,c]=false:=by with_unfolding_all rfl):PT X (.Compare a [op,op'] [b,c] pos) (ZnJ (ZlW r r' ta tb tc)):=by
 intro pins s σ H Q I h;refine isTrue_chain (thn (ha pins s σ H _ I h) fun v s1 ⟨x,H1,I1,r1,q1⟩=>test_link (thn (hb pins s1 σ H1 _ I1 q1) fun u s2 ⟨y,H2,I2,r2,q2⟩=>
  thn (ho pins s2 σ H2 x y v u _ I2 r1 r2 q2) fun d s3 ⟨z,H3,I3,r3,k,e,q3⟩=>?_)) hm
 subst e;cases r3;refine wpAny_truthy_bool ?_
 cases k with
 | false=>
  obtain⟨k',e',q'⟩:=q3;cases e';exact ite_ff ⟨H3,I3,q'⟩
 | true=>
  refine ite_tt (test_last (thn (hc pins s3 σ H3 _ I3 q3) fun w' s4 ⟨z',H4,I4,r4,q4⟩=>thn (ho' pins s4 σ H4 y z' u w' _ I4 r2 r4 q4) fun d' s5 ⟨z2,H5,I5,r5,k2,e2,q5⟩=>?_));subst e2;cases r5;exact wpAny_truthy_bool ⟨H5,I5,q5⟩
theorem Zfl:(sizeLine:Nat)<2 ^ 63:=by rw[sizeLine_eq];decide
theorem ZcR {x:V}{us:List Value} (r:Vals [x] us):∃ u,us=[u]/\RelV x u:=by
 cases r with
 | cons r1 r2=>cases r2;exact⟨_,rfl,r1⟩
theorem ZkE {x y:V}{us:List Value} (r:Vals [x,y] us):∃ u w',us=[u,w']/\RelV x u/\RelV y w':=by
 cases r with
 | cons r1 r2=>
  cases r2 with
  | cons r3 r4=>cases r4;exact⟨_,_,rfl,r1,r3⟩
theorem Zdr (hc:X.calm=true):ZbK X (.builtin "min") (fun xs H Q=>∃ i j,xs=[.int i,.int j]/\Q (.int (if j<i then j else i)) H):=by
 intro pins s σ H xs us Q I r h;obtain⟨i,j,rfl,q⟩:=h;obtain⟨u,w',rfl,⟨t,rfl⟩,⟨t',rfl⟩⟩:=ZkE r;refine min_two_ints (I.ok.hd hc) fun h' tk k=>⟨_,H,I.kept k,?_,q⟩
 by_cases hj:j<i
 ·rw[if_pos hj,if_pos hj];exact⟨_,rfl⟩
 ·rw[if_neg hj,if_neg hj];exact⟨_,rfl⟩
end
end L2
namespace L2
open PySem PySem.Spec PyProof.Rows
structure ObjM (h:Heap) (x dx C:Addr) (mA:Str->Option Value):Prop where
 obj:h.get? x=some (YdU C dx)
 ns:h.Ns1 dx mA
 ne:dx≠x
theorem Zjx {h:Heap}{dx:Addr}{mA:Str->Option Value} (n:h.Ns1 dx mA):∃ od,h.get? dx=some od/\∀ name,Yd2 name od=some (mA name):=by
 obtain⟨o,es,ep,ho,hd,hk,_,hm⟩:=n;refine⟨o,ho,fun name=>?_⟩;have e:=hm name;unfold nsFind findBy at e;rw[<- Array.find?_toList] at e;unfold Yd2;rw[hd];dsimp only;split
 ·rename_i y q;rw[q] at e;exact congrArg some e
 ·rename_i q;rw[q] at e;have a:es.toList.any (·.refKey)=false:=by
   rw[List.any_eq_false];intro y hy;obtain⟨z,t,hkey⟩:=hk y (YdD.mp hy);simp[DictEntry.refKey,hkey]
  have a':¬ es.toList.any (·.refKey)=true:=by rw[a];exact YaV
  rw[if_neg a'];exact congrArg some e
theorem ObjM.look {h:Heap}{x dx C:Addr}{mA:Str->Option Value} (I:ObjM h x dx C mA):∃ od,PySem.W.InstAt h x (YdU C dx) C (some od)/\∀ name,Yd2 name od=some (mA name) :=
 let ⟨od,ho,hl⟩:=Zjx I.ns
 ⟨od,⟨I.obj,rfl,rfl,ho⟩,hl⟩
section
variable {prog:Program}{w:World}{A:Around}{E:Value->Shared->Prop}{s:Shared}{K:Yae}{x dx C f:Addr}{mA:Str->Option Value}{name:Str}{v:Value}
end
section
variable {P:Program}{w:World}{H H':Hp}{h h':Heap}{a C dx:Addr}{fs fs':List (Str × V)}
theorem Znn (hok:HOk P w H h) (e:H a=some (.ins C dx fs)):∃ mA,ObjM h a dx C mA/\(∀ f,RelO (fs.lookup f) (mA f))/\PySem.Within mA (fs.map (·.1))/\fs.length<=1000/\H dx=some (.own a):=by
 obtain⟨d,z,ne,ob,mA,n,r,q⟩:=(show ObjOk P w H h a (.ins C dx fs) from hok a _ e)
 exact⟨mA,⟨ob,n,ne⟩,r,q,z,d⟩
end
structure Cls (K:Yae) (C:Addr):Prop where
 pg:Yfh K C YcZ=true
 hd:PySem.W.hasDictIn K C=true
 po:PySem.W.plainOver K C=true
 sa:Yc1 K (.ref C) "__setattr__"=some (some (.builtin "object.__setattr__"))
theorem Cls.get {K:Yae}{C:Addr} (c:Cls K C) (f:Str):Yfh K C f=true:=c.pg
structure Con (K:Yae) (C:Addr) (f:Str) (v:V) (u:Value):Prop where
 at_:Yc1 K (.ref C) f=some (some u)
 rel:RelV v u
 get:Ye5 K u "__get__"=some none
 cp:PySem.W.copiedNames.contains f=false
structure Meth (K:Yae) (C:Addr) (m:Str) (f:Addr):Prop where
 at_:Yc1 K (.ref C) m=some (some (.ref f))
 fn:PySem.W.isFn K (.ref f)=true
 kp:Yan K (.ref f)=true
section
variable {X:Cx}{pins:List (Addr × Obj)}{σ:St}{H:Hp}{s:Shared}{a C dx:Addr}{fs:List (Str × V)}{f:Str}{v:V}{A:Around}{E:Value->Shared->Prop}
end
section
variable {X:Cx}{o e value:Expr}{f:Str}{pos pos' tpos:Pos}{ta tv:TE}
end
section
variable {X:Cx}{pins:List (Addr × Obj)}{σ:St}{H:Hp}{s:Shared}{A:Around}{E:Value->Shared->Prop}{Q:Value->Shared->Prop}{c:Value}{b:Bool}
inductive TyOf (K:Yae) (H:Hp):V->Value->Prop where
 | non:TyOf K H .non (.type "NoneType")
 | bl (x:Bool):TyOf K H (.bl x) (.type "bool")
 | int (i:Int):TyOf K H (.int i) (.type "int")
 | str (x:Str):TyOf K H (.str x) (.type "str")
 | flt (x:UInt64):TyOf K H (.flt x) (.type "float")
 | lst {a:Addr}{xs:List V} (e:H a=some (.lst xs)):TyOf K H (.ref a) (.type "list")
 | frz {a:Addr}{o:Obj}{xs:List V} (e:H a=some (.frz o (.lst xs))):TyOf K H (.ref a) (.type "list")
 | tup {a:Addr}{xs:List V} (e:H a=some (.tup xs)):TyOf K H (.ref a) (.type "tuple")
 | dK {a:Addr}{kvs:List (Key × V)} (e:H a=some (.dK kvs)):TyOf K H (.ref a) (.type "dict")
 | dT {a:Addr}{kvs:List (List Key × V)} (e:H a=some (.dT kvs)):TyOf K H (.ref a) (.type "dict")
 | ins {a C dx:Addr}{fs:List (Str × V)} (e:H a=some (.ins C dx fs)) (cl:Cls K C) (ha:Yc1 K (.ref C) "__class__"=some (some (.builtin "object.__class__")))
   (hn:Ye5 K (.builtin "object.__class__") "__get__"=some (some (.builtin "getset_descriptor.__get__"))) (htk:PySem.W.takesIn K (.builtin "object.__class__")=some true)
   (hm:PySem.W.mroIn K C (.type "object")=some true):TyOf K H (.ref a) (.ref C)
theorem ZjS {x:V}{u t:Value} (I:Inv X pins σ H s) (rx:RelV x u) (ty:TyOf X.K H x t) (e:Yc0 X.K t c=some b) (h:∀ tk,Q (.bool b) { s with toks:=tk }) :
  wpAny (model X.prog X.w) A (call (.builtin "isinstance") [u,c]) Q E s:=by
 cases ty with
 | non=>cases (show u=Ycb from rx);exact YbG PySem.W.kitx_none I.kIn YbX e (fun z=>nomatch z) h
 | bl y=>cases (show u=Yez y from rx);exact YbG Ye7 I.kIn YbX e (fun z=>nomatch z) h
 | int i=>obtain⟨t,q⟩:=(show ∃ t,u=Yd1 i t from rx);cases q;exact YbG Yfi I.kIn YbX e (fun z=>nomatch z) h
 | str y=>obtain⟨t,q⟩:=(show ∃ t,u=YeR y t from rx);cases q;exact YbG PySem.W.kitx_str I.kIn YbX e (fun z=>nomatch z) h
 | flt y=>obtain⟨t,q⟩:=(show ∃ t,u=Value.float y t from rx);cases q;exact YbG PySem.W.kitx_float I.kIn YbX e (fun z=>nomatch z) h
 | @lst a xs ea=>
  cases (show u=YaK a from rx);obtain⟨_,_,n,_,h1⟩:=(show ObjOk X.prog X.w H s.heap a (.lst xs) from I.hok a _ ea)
  exact YbG YdH I.kIn ⟨_,h1,rfl⟩ e (fun z=>nomatch z) h
 | @frz a ob xs ea=>
  cases (show u=YaK a from rx);obtain⟨_,_,_,n,_,h1⟩:=(show ObjOk X.prog X.w H s.heap a (.frz ob (.lst xs)) from I.hok a _ ea)
  exact YbG YdH I.kIn ⟨_,h1,rfl⟩ e (fun z=>nomatch z) h
 | @tup a xs ea=>
  cases (show u=YaK a from rx);obtain⟨_,_,_,p⟩:=(show ObjOk X.prog X.w H s.heap a (.tup xs) from I.hok a _ ea)
  obtain⟨o,h1,h2,_⟩:=p;exact YbG YeW I.kIn ⟨o,h1,h2⟩ e (fun z=>nomatch z) h
 | @dK a kvs ea=>
  cases (show u=YaK a from rx);obtain⟨_,_,vs,_,p⟩:=(show ObjOk X.prog X.w H s.heap a (.dK kvs) from I.hok a _ ea)
  obtain⟨o,es,ep,h1,h2,_⟩:=p;exact YbG Ye6 I.kIn ⟨o,h1,h2.1⟩ e (fun z=>nomatch z) h
 | @dT a kvs ea=>
  cases (show u=YaK a from rx);obtain⟨_,_,xs,_,o,es,ep,h1,h2,_⟩:=(show ObjOk X.prog X.w H s.heap a (.dT kvs) from I.hok a _ ea)
  exact YbG Ye6 I.kIn ⟨o,h1,h2.1⟩ e (fun z=>nomatch z) h
 | @ins a C dx fs ea cl ha hn htk hm=>
  cases (show u=YaK a from rx);obtain⟨mA,O,_⟩:=Znn I.hok ea;obtain⟨od,J,_⟩:=O.look;exact YbG (PySem.W.kitx_own (cl.get _) cl.hd ha hn htk hm) I.kIn J e (fun z=>nomatch z) h
end
end L2
namespace L2
open PySem PySem.Spec PyProof.Rows
structure Room (k:Nat) (A:Around):Prop where
 hd:A.handled=none
 dp:A.depth+3*k+5<recursionLimit
 un:A.units+16*k+200<cLine
 gd:A.guards=some []
theorem Room.mono {j k:Nat}{A:Around} (r:Room k A) (h:j<=k):Room j A:=⟨r.hd,by have:=r.dp;omega,by have:=r.un;omega,r.gd⟩
theorem Room.deeper {k:Nat}{A:Around} (r:Room (k+1) A) (env:Env):Room k (A.deeper env) :=
 ⟨r.hd,by have:=r.dp;show A.depth+1+3*k+5<_;omega,by have:=r.un;show A.units+3+16*k+200<_;omega,r.gd⟩
theorem Room.depth {k:Nat}{A:Around} (r:Room k A):A.depth<recursionLimit:=by have:=r.dp;omega
theorem Room.units {k:Nat}{A:Around} (r:Room k A):A.units+64<cLine:=by have:=r.un;omega
theorem Room.units0 {k:Nat}{A:Around} (r:Room k A):A.units<cLine:=by have:=r.un;omega
def tNil:TA:=fun _ H Q=>Q [] H
def Zmw (ta:TE) (tr:TA):TA:=fun σ H Q=>ta σ H fun x H1=>tr σ H1 fun xs H2=>Q (x::xs) H2
section
variable {X:Cx}{e:Expr}{es:List Expr}{te:TE}{t:TA}{pos:Pos}
theorem Zad:PA X [] tNil:=fun _ _ _ _ H Q I h=>Yfu ⟨[],H,I,.nil,h⟩
theorem Zaa (ha:PE X e te) (hr:PA X es t) (hs:starEach (e::es) X.env=(false,eval e X.env)::starEach es X.env:=by rfl):PA X (e::es) (Zmw te t):=by
 intro pos pins s σ H Q I h;rw[hs];show wpAny _ _ (spliced ((false,eval e X.env)::backTo pos (starEach es X.env))) _ _ s;refine YdI (thn (ha pins s σ H _ I h) fun u s1 ⟨x,H1,I1,r1,q1⟩=>?_);exact thn (hr pos pins s1 σ H1 _ I1 q1) fun us s2 ⟨xs,H2,I2,r2,q2⟩=>⟨x::xs,H2,I2,.cons r1 r2,q2⟩
def tTup (t:TA):TE:=fun σ H Q=>t σ H fun xs H1=>xs.length<=sizeLine/\∀ p,H1 p=none->Q (.ref p) (upd H1 p (.tup xs))
def tLst (t:TA):TE:=fun σ H Q=>t σ H fun xs H1=>xs.length<=sizeLine/\∀ p,H1 p=none->Q (.ref p) (upd H1 p (.lst xs))
theorem ZbY {x1} (h:PA X es t):PE X (.Tuple es x1 pos) (tTup t):=by
 intro pins s σ H Q I hq;refine wpAny_Tuple_spliced (thn (h pos pins s σ H _ I hq) fun us s1 ⟨xs,H1,I1,r,z,q⟩=>⟨by rw[<- r.length];exact z,?_⟩);have hf:H1 s1.heap.objs.size=none:=I1.hok.fresh (Yag _);refine⟨.ref s1.heap.objs.size,upd H1 s1.heap.objs.size (.tup xs),I1.laid (t':=s1.toks) (fun b u e=>Yab _ e) (Yag _) ?_,rfl,q _ hf⟩;exact⟨z,us,r,⟨_,Yas _ rfl,rfl,rfl,_,rfl⟩⟩
theorem ZaI (h:PA X es t):PE X (.List es pos) (tLst t):=by
 intro pins s σ H Q I hq;refine wpAny_List_spliced (thn (h pos pins s σ H _ I hq) fun us s1 ⟨xs,H1,I1,r,z,q⟩=>⟨by rw[<- r.length];exact z,?_⟩);have hf:H1 s1.heap.objs.size=none:=I1.hok.fresh (Yag _);refine⟨.ref s1.heap.objs.size,upd H1 s1.heap.objs.size (.lst xs),I1.laid (t':=s1.toks) (fun b u e=>Yab _ e) (Yag _) ?_,rfl,q _ hf⟩;exact⟨z,us,0,r,Yas _ rfl⟩
end
abbrev Sp:=List V->Hp->VK->XK->Prop
abbrev CXT:=List Env->Hp->Shared->XK->Value->Shared->Prop
structure Env0 (P:Program) (w:World) (K:Yae) (mg:Str->Option Value) (base:Heap) (A:Around) (outer:List Env) (s:Shared) (H:Hp):Prop where
 frames:A.frames=some outer
 mod:Mod K mg base
 bs:∀ b o,base.get? b=some o->s.heap.get? b=some o/\H b=none
 bsz:base.objs.size<=s.heap.objs.size
 funs:s.heap.FunFrames base outer
 frf:∀ b∈frs outer,H b=none
 hok:HOk P w H s.heap
 bare:AllBare s.gens
def CE (outer:List Env) (P:Program) (w:World) (H:Hp) (s:Shared) (Q:VK) (u:Value) (s':Shared):Prop :=
 ∃ v H',s'.os=s.os/\AllBare s'.gens/\Un (frs outer) [] H H' s.heap s'.heap/\HOk P w H' s'.heap/\RelV v u/\Q v H'
def CR (CX:CXT) (outer:List Env) (P:Program) (w:World) (H:Hp) (s:Shared) (Q:VK) (E:XK) (r:Result) (s':Shared):Prop :=
 match r with
 | .ok (.ret u)=>CE outer P w H s Q u s'
 | .ok _=>False
 | .error e=>CX outer H s E e s'
structure FnOk (P:Program) (w:World) (K:Yae) (mg:Str->Option Value) (base:Heap) (CX:CXT) (k:Nat) (f:Addr) (fd:FuncData) (ps:List Str) (sp:Sp):Prop where
 len:∀ vs H Q E,sp vs H Q E->vs.length=ps.length
 run:∀ (A:Around) (outer:List Env) (s:Shared) (H:Hp) (args:Args) (us:List Value) (vs:List V) (Q:VK) (E:XK),Room k A->Env0 P w K mg base A outer s H->BindsTo s fd args (ps.zip us)->Vals vs us->sp vs H Q E ->
  codeAny (model P w) A (.call (.ref f) args) (CR CX outer P w H s Q E) s
theorem FnOk.imp {P:Program}{w:World}{K:Yae}{mg:Str->Option Value}{base:Heap}{CX:CXT}{k:Nat}{f:Addr}{fd:FuncData}{ps:List Str}{sp sp':Sp} (F:FnOk P w K mg base CX k f fd ps sp)
  (h:∀ vs H Q E,sp' vs H Q E->sp vs H Q E):FnOk P w K mg base CX k f fd ps sp' :=
 ⟨fun vs H Q E q=>F.len vs H Q E (h _ _ _ _ q),fun A outer s H args us vs Q E hr he hb hv hs=>F.run A outer s H args us vs Q E hr he hb hv (h _ _ _ _ hs)⟩
section
variable {X:Cx}{pins:List (Addr × Obj)}{σ:St}{H:Hp}{s s':Shared}
theorem Inv.env0 (I:Inv X pins σ H s):Env0 X.prog X.w X.K X.mg X.base X.A X.stack s H :=
 ⟨I.ok.frames,I.ok.mod,I.bs,Ybv I.ok.bsz I.sz,I.stack,I.stkFree,I.hok,I.bare⟩
theorem Inv.after {Q:VK}{u:Value} (I:Inv X pins σ H s) (h:CE X.stack X.prog X.w H s Q u s'):EP X pins σ Q u s':=by
 obtain⟨v,H',os,bare,un,hok,r,q⟩:=h;obtain⟨hh,g,d,t,os'⟩:=s';obtain rfl:os'=s.os:=os;exact⟨v,H',I.call (h':=hh) (g':=g) (d':=d) (t':=t) (ch:=[]) un hok bare (fun b z=>absurd z (by simp)),r,q⟩
end
def ZkJ (sp:Sp) (dvs:List V) (E:XK) (t:TA):TE:=fun σ H Q=>t σ H fun vs H1=>sp (vs++dvs) H1 Q E
def Binds (K:Yae) (fd:FuncData) (ps:List Str) (ds:List Value):Prop :=
 ∀ (s:Shared) (us:List Value),K.In s.heap->(us++ds).length=ps.length->BindsTo s fd ⟨us,[]⟩ (ps.zip (us++ds))
theorem Binds.all {K:Yae}{fd:FuncData}{ps:List Str} (h:∀ us:List Value,us.length=ps.length->bindArgs fd ⟨us,[]⟩=pure (ps.zip us)):Binds K fd ps []:=fun s us _ hl=>by
 rw[YbI] at hl ⊢;exact .of_eq (h us hl)
def Zkz (CX:CXT) (X:Cx) (E:XK):Prop:=∀ (pins:List (Addr × Obj)) (σ:St) (H:Hp) (s:Shared) (e:Value) (s':Shared),Inv X pins σ H s->CX X.stack H s E e s'->X.xe e s'
section
variable {X:Cx}{CX:CXT}{k:Nat}{f C:Addr}{fd:FuncData}{ps:List Str}{sp:Sp}{dvs:List V}{ds:List Value}{E:XK}{x m:Str}{p pos apos:Pos}{e o:Expr}{es:List Expr}{ta:TE}{t:TA}
theorem Zl0 {pins:List (Addr × Obj)}{σ:St}{H:Hp}{s:Shared}{Q:VK}{us:List Value}{vs:List V} (F:FnOk X.prog X.w X.K X.mg X.base CX k f fd ps sp) (hr:Room k X.A) (hb:Binds X.K fd ps ds) (hd:Vals dvs ds) (hx:Zkz CX X E)
  (I:Inv X pins σ H s) (r:Vals vs us) (h:sp (vs++dvs) H Q E):wpAny (model X.prog X.w) X.A (call (.ref f) us) (EP X pins σ Q) X.xe s:=by
 have r2:Vals (vs++dvs) (us++ds):=r.append hd;have hl:(us++ds).length=ps.length:=by rw[<- r2.length];exact F.len _ _ _ _ h
 refine wpAny_call (codeAny_mono (F.run X.A X.stack s H ⟨us,[]⟩ (us++ds) (vs++dvs) Q E hr I.env0 (hb s us I.kIn hl) r2 h) fun r s' hq=>?_)
 cases r with
 | error e=>exact hx pins σ H s e s' I hq
 | ok fl=>
  cases fl with
  | ret u=>exact I.after hq
  | next=>exact YcA hq
  | brk=>exact YcA hq
  | cont=>exact YcA hq
theorem Zi3 (F:FnOk X.prog X.w X.K X.mg X.base CX k f fd ps sp) (hr:Room k X.A) (hg:Gl X x) (hm:X.mg x=some (.ref f)) (hk:Yan X.K (.ref f)=true) (hb:Binds X.K fd ps ds) (hd:Vals dvs ds) (hx:Zkz CX X E)
  (ha:PA X (e::es) t) (hdb:(x == ("__debug__":Str))=false:=by decide) (he:starEach (e::es) X.env=(false,eval e X.env)::starEach es X.env:=by rfl) (hpl:(backTo pos (starEach es X.env)).any (·.1)=false:=by rfl) :
  PE X (.Call (.Name x p) (e::es) [] pos) (ZkJ sp dvs E t):=by
 intro pins s σ H Q I h;refine wpAny_Call_Name_kw (ZjF I hg hm ?_ hdb);refine YeX (h₀:=X.base) I.ok.mod.kin hk (thn (ha pos pins s σ H _ I h) fun us s1 ⟨vs,H1,I1,r,q⟩=>⟨I1.kIn,?_⟩) he hpl;exact Zl0 F hr hb hd hx I1 r q
structure Mk (K:Yae) (C f:Addr):Prop where
 makes:PySem.W.makesIn K C=true
 init:Yc1 K (.ref C) "__init__"=some (some (.ref f))
 fn:PySem.W.isFn K (.ref f)=true
 kp:Yan K (.ref C)=true
end
section
variable {X:Cx}{CX:CXT}{k:Nat}{f C:Addr}{fd:FuncData}{ps ks:List Str}{sp:Sp}{E:XK}{x m:Str}{p pos apos kpos:Pos}{e o:Expr}{es:List Expr}{kws:List Keyword}{te ta:TE}{t tk:TA}{nm:Option Str}
structure KBinds (K:Yae) (fd:FuncData) (ps ks:List Str) (g:List Value->List Value->List Value) (gV:List V->List V->List V):Prop where
 to:∀ (s:Shared) (us ws:List Value),K.In s.heap->(g us ws).length=ps.length->BindsTo s fd ⟨us,ks.zip ws⟩ (ps.zip (g us ws))
 rel:∀ {vs:List V}{us:List Value}{zs:List V}{ws:List Value},Vals vs us->Vals zs ws->Vals (gV vs zs) (g us ws)
variable {g:List Value->List Value->List Value}{gV:List V->List V->List V}
end
structure FnScope (N P:List Str) (sc:Scope):Prop where
 kind:sc.kind=.function
 co:sc.isCoroutine=false
 gen:sc.isGenerator=false
 nd:N.Nodup
 pre:N.take P.length=P
 par:∀ x∈P,sc.names.lookup x=some .local ∨ sc.names.lookup x=some .cell
 nofree:∀ y∈sc.names,y.2≠.free
theorem ZfI {kindOf:Str->Option NameKind}{x:Str}:∀ {binds:List (Str × Value)}{m:Str->Option Value},(∀ v,(x,v) ∉ binds)->bindL kindOf binds m x=m x
 | [],_,_=>rfl
 | (n,v)::r,m,h=>by
  unfold bindL;rw[ZfI fun w hw=>h w (Yar _ hw)];split
  ·have:x≠n:=by rintro rfl;exact h v Yaq
   simp[this]
  ·rfl
theorem ZfK {kindOf:Str->Option NameKind}{x:Str}:∀ {binds:List (Str × Value)}{m:Str->Option Value},(∀ v,(x,v) ∉ binds)->bindC kindOf binds m x=m x
 | [],_,_=>rfl
 | (n,v)::r,m,h=>by
  unfold bindC;rw[ZfK fun w hw=>h w (Yar _ hw)];split
  ·rfl
  ·have:x≠n:=by rintro rfl;exact h v Yaq
   simp[this]
theorem ZfJ {kindOf:Str->Option NameKind}{x:Str}{v:Value}:∀ {P:List Str}{vs:List Value}{i:Nat}{m:Str->Option Value},P.Nodup->P[i]?=some x->vs[i]?=some v->kindOf x=some .local ->
  bindL kindOf (P.zip vs) m x=some v
 | [],_,_,_,_,h,_,_=>by simp at h
 | _::_,[],_,_,_,_,h,_=>by simp at h
 | p::P,w::vs,0,m,nd,h1,h2,hk=>by
  simp at h1 h2;subst h1;subst h2;show bindL kindOf ((p,w)::P.zip vs) m p=_;unfold bindL;rw[ZfI fun v hv=>(YbL.mp nd).1 (Yeb hv).1,if_pos hk];simp
 | p::P,w::vs,i+1,m,nd,h1,h2,hk=>by
  show bindL kindOf ((p,w)::P.zip vs) m x=_;unfold bindL;exact ZfJ (i:=i) (YbL.mp nd).2 (by simpa using h1) (by simpa using h2) hk
theorem ZfL {kindOf:Str->Option NameKind}{x:Str}{v:Value}:∀ {P:List Str}{vs:List Value}{i:Nat}{m:Str->Option Value},P.Nodup->P[i]?=some x->vs[i]?=some v->kindOf x≠some .local ->
  bindC kindOf (P.zip vs) m x=some v
 | [],_,_,_,_,h,_,_=>by simp at h
 | _::_,[],_,_,_,_,h,_=>by simp at h
 | p::P,w::vs,0,m,nd,h1,h2,hk=>by
  simp at h1 h2;subst h1;subst h2;show bindC kindOf ((p,w)::P.zip vs) m p=_;unfold bindC;rw[ZfK fun v hv=>(YbL.mp nd).1 (Yeb hv).1,if_neg hk];simp
 | p::P,w::vs,i+1,m,nd,h1,h2,hk=>by
  show bindC kindOf ((p,w)::P.zip vs) m x=_;unfold bindC;exact ZfL (i:=i) (YbL.mp nd).2 (by simpa using h1) (by simpa using h2) hk
def start (N:List Str) (vs:List V):St:=vs.map some++Yai (N.length - vs.length) none
def cxOf (CX:CXT) (P:Program) (w:World) (K:Yae) (mg:Str->Option Value) (base:Heap) (N:List Str) (qual:Str) (scope:Scope) (f:Addr) (cd:Value) (A:Around) (outer:List Env) (s:Shared) (H:Hp) (E:XK):Cx where
 prog:=P
 w:=w
 K:=K
 mg:=mg
 base:=base
 A:=A.deeper (envOfC qual scope s.heap.objs.size f cd)
 N:=N
 s₀:=s
 H₀:=H
 env:=envOfC qual scope s.heap.objs.size f cd
 outer:=outer
 stack:=envOfC qual scope s.heap.objs.size f cd::outer
 ex:=[]
 calm:=true
 fn:=fun _=>true
 pn:=[]
 xe:=fun e s'=>wpAny (model P w) (A.deeper (envOfC qual scope s.heap.objs.size f cd)) (leaving (envOfC qual scope s.heap.objs.size f cd) e) (fun _ s''=>CX outer H s E e s'') (fun e' s''=>CX outer H s E e' s'') s'
theorem Zho {sc:Scope}{n:Nat}{x:Str} (h:sc.names.lookup x=some .cell):∃ c,(cellsFrom n sc.names []).lookup x=some c:=by
 have q:=YeA sc.names n [] (.inl h);exact Yer.mp q
theorem ZjT {CX:CXT}{P:Program}{w:World}{K:Yae}{mg:Str->Option Value}{base:Heap}{N ps:List Str}{qual:Str}{scope:Scope}{f:Addr}{cd:Value}{A:Around}{outer:List Env}{s s1:Shared}{H:Hp}{E:XK}{us:List Value}{vs:List V}
  (S:FnScope N ps scope) (hd:A.handled=none) (e0:Env0 P w K mg base A outer s H) (hl:vs.length=ps.length) (r:Vals vs us)
  (x:InCallC s s.heap.objs.size (bindL (envOfC qual scope s.heap.objs.size f cd).kindOf (ps.zip us) fun _=>none) (cellsFrom (s.heap.objs.size+1) scope.names []) (bindC (envOfC qual scope s.heap.objs.size f cd).kindOf (ps.zip us) fun _=>none) s1) :
  Inv (cxOf CX P w K mg base N qual scope f cd A outer s H E) [] (start N vs) H s1:=by
 have hpl:ps.length<=N.length:=by have:=congrArg Ycx S.pre;rw[Yaz] at this;omega
 obtain⟨h1,tk,rfl,hk⟩:=x.done;have noA:∀ b:Addr,b ∉ (cxOf CX P w K mg base N qual scope f cd A outer s H E).ex:=fun b z=>absurd (show b∈([]:List Addr) from z) (by simp);refine⟨⟨e0.mod,S.kind,rfl,rfl,Yag _,fun y z c h1 h2=>?_,fun y hy=>?_,fun y c _ h=>?_,fun _=>hd,Around.frames_deeper e0.frames,.inr ⟨rfl,rfl⟩,fun b z=>absurd z (noA b),e0.bs,e0.bsz,fun b _ _=>noA b,fun b z=>absurd z (noA b),e0.funs,e0.frf⟩,
  rfl,e0.bare,Un.kept hk,⟨_,x.toInCall.ns,fun i y v h1 h2 h3=>?_⟩,fun y c h=>⟨_,x.cell y c h⟩,e0.hok.fresh (Yag _),fun y c h=>?_,fun p hp=>absurd (show p∈([]:List (Addr × Obj)) from hp) (by simp),e0.hok.kept hk,?_⟩
 ·exact name_of_addr x.apart (YbD h1) (YbD h2)
 ·have hy:scope.names.lookup y=some .cell∨scope.names.lookup y=some .free:=hy;rcases hy with hy | hy
  ·exact Zho hy
  ·exact absurd rfl (S.nofree _ (YbD hy))
 ·exact Ya2 (x.above y c (YbD h))
 ·have hi:i<vs.length:=by
   unfold start at h2;by_cases hi:i<vs.length
   ·exact hi
   ·rw[YaI (by simpa using hi)] at h2;rw[YcC] at h2;split at h2 <;> cases h2
  have ha:vs[i]?=some v:=by
   unfold start at h2;rw[YaL (by simpa using hi),Yam] at h2
   cases e:vs[i]? with
   | none=>rw[e] at h2;cases h2
   | some a=>rw[e] at h2;cases h2;rfl
  obtain⟨u,hu,rv⟩:=r.get ha;have hp:ps[i]?=some y:=by
   rw[<- S.pre,Yb8 (by omega)];exact h1
  have ndP:ps.Nodup:=by rw[<- S.pre];exact S.nd.sublist (YdR _ _)
  refine⟨u,rv,?_⟩;rcases S.par y (Yau hp) with k | k
  ·exact .inl ⟨k,ZfJ ndP hp hu k⟩
  ·obtain⟨c,e⟩:=Zho (n:=s.heap.objs.size+1) k;refine .inr ⟨.inl k,c,e,?_⟩;have q:=x.cell y c e;rw[ZfL ndP hp hu (by show scope.names.lookup y≠_;rw[k];decide)] at q;exact q
 ·exact e0.hok.fresh (Ya2 (x.above y c (YbD h)))
 ·unfold start;show _=N.length;rw[Yak,Yac,Ybk];omega
theorem Zou {CX:CXT}{P:Program}{w:World}{K:Yae}{mg:Str->Option Value}{base:Heap}{k:Nat}{f:Addr}{name qual:Str}{params:Arguments}{body:List Stmt}{scope:Scope}{dV kV doc pm cdv ct oc:Value}{an od:Option Addr}
  {osl:Array (Option Value)}{N ps:List Str}{sp:Sp} (lk:K.lookup f=some ⟨oc,od,.func (YaB name qual params body scope dV kV doc pm an cdv ct),osl⟩) (hcd:Yav K cdv qual=true) (S:FnScope N ps scope)
  (len:∀ vs H Q E,sp vs H Q E->vs.length=ps.length)
  (hbody:∀ (A:Around) (outer:List Env) (s:Shared) (H:Hp) (vs:List V) (Q:VK) (E:XK),Room k (A.deeper (envOfC qual scope s.heap.objs.size f cdv))->sp vs H Q E ->
   ∃ t,PSs (cxOf CX P w K mg base N qual scope f cdv A outer s H E) body t/\t { nx:=fun _ H'=>Q .non H',rt:=Q } (start N vs) H) :
  FnOk P w K mg base CX (k+1) f (YaB name qual params body scope dV kV doc pm an cdv ct) ps sp:=by
 refine⟨len,fun A outer s H args us vs Q E hr e0 hb r hsp=>?_⟩;have hl:=len _ _ _ _ hsp;have KX:K.In s.heap:=e0.mod.kin.keeps fun b o e=>(e0.bs b o e).1
 have lim:s.heap.NoLimit:=e0.mod.nolimit.keeps fun b o e=>(e0.bs b o e).1
 have hkind:∀ y∈ps.zip us,scope.names.lookup y.1=some .local ∨ (scope.names.lookup y.1=some .cell/\((cellsFrom (s.heap.objs.size+1) scope.names []).lookup y.1).isSome=true):=fun ⟨n,v⟩ hy=>by
  rcases S.par n (Yeb hy).1 with q | q
  ·exact .inl q
  ·exact .inr ⟨q,YeA _ _ _ (.inl q)⟩
 refine codeAny_call_function hr.depth (KX _ _ lk) rfl S.co S.gen rfl (PySem.W.codeRec_of KX hcd) (hb _ _ _ _ ?_);refine wpAny_newFunctionEnv_cells S.kind hkind fun env he s1 x=>?_;subst he;refine⟨lim.keeps x.toInCall.keep,codeAny_func ?_⟩;obtain⟨t,ht,hq⟩:=hbody A outer s H vs Q E (hr.deeper _) hsp;have I:Inv (cxOf CX P w K mg base N qual scope f cdv A outer s H E) [] (start N vs) H s1:=ZjT S hr.hd e0 hl r x;refine wpAny_mono (ht [] s1 (start N vs) H _ I hq) (fun fl s' hs=>?_) fun e s' hs=>hs;have fin:∀ {σ':St}{H':Hp}{v:V}{u:Value},Inv (cxOf CX P w K mg base N qual scope f cdv A outer s H E) [] σ' H' s'->RelV v u->Q v H'->CE outer P w H s Q u s' :=
  fun {σ' H' v u} J rv q=>⟨v,H',J.os,J.bare,J.base,J.hok,rv,q⟩
 cases fl with
 | ret u=>
  obtain⟨v,σ',H',J,rv,q⟩:=hs;exact fin J rv q
 | next=>
  obtain⟨σ',H',J,q⟩:=hs;exact fin (v:=V.non) (u:=Ycb) J rfl q
 | brk=>
  obtain⟨_,_,_,q⟩:=hs;exact YcA q
 | cont=>
  obtain⟨_,_,_,q⟩:=hs;exact YcA q
end L2
namespace L2
open PySem PySem.Spec PyProof.Rows
section
variable {X:Cx}{x:Str}{p pos:Pos}{e:Expr}{es:List Expr}{t:TA}{id T:String}{r:List V->Hp->VK->Prop}
def tCB (r:List V->Hp->VK->Prop) (t:TA):TE:=fun σ H Q=>t σ H fun vs H1=>r vs H1 Q
theorem Zam (hc:ZbK X (.builtin id) r) (hg:Gl X x) (hm:X.mg x=none) (hv:bootBuiltins x=some (.builtin id)) (ha:PA X (e::es) t) (hn:x≠"__name__":=by decide) (hdb:(x == ("__debug__":Str))=false:=by decide)
  (he:starEach (e::es) X.env=(false,eval e X.env)::starEach es X.env:=by rfl) (hpl:(backTo pos (starEach es X.env)).any (·.1)=false:=by rfl):PE X (.Call (.Name x p) (e::es) [] pos) (tCB r t):=by
 intro pins s σ H Q I h;refine wpAny_Call_Name_kw (Zdg I hg hm hv ?_ hn hdb);exact PyProof.Rows.callWith_builtin1 (thn (ha pos pins s σ H _ I h) fun us s1 ⟨vs,H1,I1,r1,q1⟩=>hc pins s1 σ H1 vs us Q I1 r1 q1) he hpl
theorem Zba (hc:ZbK X (.type T) r) (hg:Gl X x) (hm:X.mg x=none) (hv:bootBuiltins x=some (.type T)) (ha:PA X (e::es) t) (hn:x≠"__name__":=by decide) (hdb:(x == ("__debug__":Str))=false:=by decide)
  (he:starEach (e::es) X.env=(false,eval e X.env)::starEach es X.env:=by rfl) (hpl:(backTo pos (starEach es X.env)).any (·.1)=false:=by rfl):PE X (.Call (.Name x p) (e::es) [] pos) (tCB r t):=by
 intro pins s σ H Q I h;refine wpAny_Call_Name_kw (Zdg I hg hm hv ?_ hn hdb);exact YbO (thn (ha pos pins s σ H _ I h) fun us s1 ⟨vs,H1,I1,r1,q1⟩=>hc pins s1 σ H1 vs us Q I1 r1 q1) he hpl
end
end L2
namespace HT
open PySem PyProof.Rows
section
open PySem.SeqAt
open PySem.AutoSeq1 (wpAny_loadPart')
open PySem.MeetsSeq PySem.MeetsSeq2 PySem.MeetsSeq3
end
section
variable {prog:Program}{w:World}{A:Around}{E:Value->Shared->Prop}{s:Shared}
theorem cat_tup {t b:Addr}{vs ws:List Value}{Q:Value->Shared->Prop} (ht:IsTup s.heap t vs.toArray) (hb:IsTup s.heap b ws.toArray) (hv:vs≠[])
  (h1:ws=[]->Q (.ref t) s) (h2:ws≠[]->Q (.ref s.heap.objs.size) { s with heap:=s.heap.push { cls:=.type "tuple",data:=.seq (vs++ws).toArray } })
  (hsz:vs.length+ws.length<=sizeLine):wpAny (model prog w) A (binaryOp .Add (.ref t) (.ref b)) Q E s:=by
 obtain⟨⟨cls,dd,data,sl⟩,ho,hc,n,hd⟩:=id ht;obtain⟨⟨cls2,dd2,data2,sl2⟩,ho2,hc2,n2,hd2⟩:=id hb;simp only at hc hd hc2 hd2;subst hc hd hc2 hd2;have e:vs.toArray++ws.toArray=(vs++ws).toArray:=by simp
 by_cases hw:ws=[]
 ·exact concat_meets ⟨_,ho,rfl⟩ ⟨_,ho2,rfl⟩ noFill_tuple_add seq_tuple_add YeB Yep (Yea _ _)
   (tuple_addW1 t b vs.toArray ws.toArray n n2 dd dd2 sl sl2 (by simpa using hv) (by simp[hw])) ⟨ho,ho2,h1 hw⟩
 ·refine concat_meets ⟨_,ho,rfl⟩ ⟨_,ho2,rfl⟩ noFill_tuple_add seq_tuple_add YeB Yep (Yea _ _)
   (tuple_addW2 t b vs.toArray ws.toArray n n2 dd dd2 sl sl2 (by simpa using hv) (by simpa using hw) (by rw[YaC,YaC];exact hsz)) ⟨ho,ho2,?_⟩
  rw[e];exact h2 hw
def sIx (n d:Nat):Option Int->Nat
 | none=>d
 | some v=>if v<0 then (v+(n:Int)).toNat else min v.toNat n
theorem sIx_nat (n d k:Nat):sIx n d (some (k:Int))=min k n:=by
 show (if (k:Int)<0 then ((k:Int)+(n:Int)).toNat else min (k:Int).toNat n)=min k n;rw[if_neg (by omega),YaQ]
theorem Zn2 (n d:Nat) (hd:d<=n) (o:Option Int):sIx n d o<=n:=by
 cases o with
 | none=>exact hd
 | some v=>
  show (if v<0 then (v+(n:Int)).toNat else min v.toNat n)<=n;by_cases hv:v<0
  ·rw[if_pos hv];omega
  ·rw[if_neg hv];exact Nat.min_le_right _ _
theorem Zkl (v:Int) (n d:Nat):(if v<0 then max (v+(n:Int)) 0 else min v (n:Int))=((sIx n d (some v):Nat):Int):=by
 show (if v<0 then max (v+(n:Int)) 0 else min v (n:Int))=(((if v<0 then (v+(n:Int)).toNat else min v.toNat n):Nat):Int);by_cases hv:v<0
 ·simp only[if_pos hv];omega
 ·simp only[if_neg hv];omega
theorem Zid (lo hi:Option Int) (n:Nat):YcO lo hi 1 (n:Int)=(((sIx n 0 lo:Nat):Int),((sIx n n hi:Nat):Int)):=by
 have h1:¬ ((1:Int)<0):=by omega
 unfold YcO;simp only[h1,if_false];refine Prod.ext ?_ ?_
 ·cases lo with
  | none=>rfl
  | some v=>exact Zkl v n 0
 ·cases hi with
  | none=>rfl
  | some v=>exact Zkl v n n
theorem ZhN (i j:Nat):Ycd (i:Int) (j:Int) 1=j - i:=by
 unfold Ycd;have h1:(1:Int) > 0:=by omega
 simp only[h1,if_true,Int.ediv_one];split <;> omega
theorem ZdJ {v:Value}{o:Option Int}{Q:Option Int->Shared->Prop} (p:IsPart v o) (h:Q o s):wpAny (model prog w) A (Builtin.Slice.slicePartIndex v) Q E s:=by
 cases p with
 | none=>exact slicePart_none h
 | int i t=>exact slicePart_int h
theorem ZcS {sl:Addr}{vl vu:Value}{lo hi:Option Int}{n:Nat}{Q:Int × Int × Nat->Shared->Prop} (hs:s.heap.IsSliceOf sl vl vu .none) (pl:IsPart vl lo) (pu:IsPart vu hi)
  (h:Q (((sIx n 0 lo:Nat):Int),1,sIx n n hi - sIx n 0 lo) s):wpAny (model prog w) A (YdF (.ref sl) (pure (n:Int))) Q E s:=by
 obtain⟨os,hos,hcs,hds⟩:=id hs;unfold YdF Builtin.Slice.sliceFields;refine wpAny_bind (wpAny_bind (wpAny_field hos hds (x:=vl) rfl (wpAny_bind (wpAny_field hos hds (x:=vu) rfl (wpAny_bind (wpAny_field hos hds (x:=.none) rfl (wpAny_pure ?_)))))));refine wpAny_bind (slicePart_none ?_);show wpAny _ _ (if ((1:Int) == 0)=true then _ else _) _ _ s;rw[if_neg (by decide)];refine wpAny_bind (ZdJ pl (wpAny_bind (ZdJ pu (wpAny_bind (wpAny_pure ?_)))));show wpAny _ _ (match YcO lo hi 1 (n:Int) with | (lo,hi)=>pure (lo,(1:Int),Ycd lo hi 1)) _ _ s;rw[Zid lo hi n];show wpAny _ _ (pure (((sIx n 0 lo:Nat):Int),(1:Int),Ycd ((sIx n 0 lo:Nat):Int) ((sIx n n hi:Nat):Int) 1)) _ _ s;rw[ZhN];exact wpAny_pure h
theorem Zk1 (xs:Array Value) (i k:Nat):((YaT k).filterMap fun (m:Nat)=>xs[((i:Int)+(m:Int)*1).toNat]?).toArray=((xs.toList.drop i).take k).toArray:=by
 have e:(fun (m:Nat)=>xs[((i:Int)+(m:Int)*1).toNat]?)=fun m=>xs[i+m]?:=by
  funext m
  have:((i:Int)+(m:Int)*1).toNat=i+m:=by omega
  rw[this]
 rw[e];have:=pick_run xs i k;rw[Yc7] at this;have e2:((fun x=>xs[x]?) ∘ fun x=>i+x)=fun m=>xs[i+m]?:=rfl;rw[e2] at this;rw[this]
theorem getItem_tuple_cut {t sl:Addr}{items:Array Value}{vl vu:Value}{lo hi:Option Int}{Q:Value->Shared->Prop} (ht:IsTup s.heap t items) (hs:s.heap.IsSliceOf sl vl vu .none) (pl:IsPart vl lo) (pu:IsPart vu hi)
  (hw:¬ (sIx items.size 0 lo=0/\sIx items.size items.size hi=items.size))
  (h:Q (.ref s.heap.objs.size) { s with heap:=s.heap.push { cls:=.type "tuple",data:=.seq ((items.toList.drop (sIx items.size 0 lo)).take (sIx items.size items.size hi - sIx items.size 0 lo)).toArray } })
  (hsz:items.size<=sizeLine):wpAny (model prog w) A (getItem (.ref t) (.ref sl)) Q E s:=by
 have htake:sizeOk (.seq ((items.toList.drop (sIx items.size 0 lo)).take (sIx items.size items.size hi - sIx items.size 0 lo)).toArray):=by
  show ((items.toList.drop (sIx items.size 0 lo)).take (sIx items.size items.size hi - sIx items.size 0 lo)).toArray.size<=sizeLine;rw[YaC,Yaz,Ybp,Yax];omega
 have hj:sIx items.size items.size hi<=items.size:=Zn2 _ _ (Yag _) hi;obtain⟨os,hos,hcs,hds⟩:=id hs;have hTs:s.TypeIs (.ref sl) "slice":=⟨os,hos,hcs⟩
 unfold getItem
 try with_reducible refine wpAny_holding ?_
 first | refine wpAny_bind (wpAny_pure ?_) | skip
 refine wpAny_bind (wpAny_sequenceKey ht.typeIs (by decide) ?_);refine wpAny_bind (wpAny_callSpecial?_slot (name:=Yc8 "__getitem__") ht.typeIs Ycw
  (wpAny_call_entry Ycw ht.typeIs entry_tuple_getitem ?_ (args_tuple_getitem _ _)))
 show wpAny _ _ (Builtin.Tuple.tupleItemsOf (.ref t) >>= _) _ _ s;refine wpAny_bind (tupleItemsOf_ ht ?_);refine wpAny_bind (wpAny_typeOf hTs ?_);rw[if_pos (by decide)];refine wpAny_bind (ZcS hs pl pu ?_);have hno:¬ ((((sIx items.size 0 lo:Nat):Int) == 0 && (1:Int) == 1 && (sIx items.size items.size hi - sIx items.size 0 lo) == items.size)=true):=by
  intro q;rw[YcS,YcS] at q;have q1:((sIx items.size 0 lo:Nat):Int)=0:=eq_of_beq q.1.1;have q2:sIx items.size items.size hi - sIx items.size 0 lo=items.size:=eq_of_beq q.2;exact hw ⟨by omega,by omega⟩
 show wpAny _ _ (if (((sIx items.size 0 lo:Nat):Int) == 0 && (1:Int) == 1 && (sIx items.size items.size hi - sIx items.size 0 lo) == items.size)=true then _ else _) _ _ s;rw[if_neg hno,Zk1]
 first
  | exact wpAny_bind (m:=Ycl _) (wpAny_newObj_type (wpAny_pure ⟨_,rfl,wpAny_pure h⟩) htake)
  | exact wpAny_bind (m:=Ycl _) (wpAny_newObj_type (wpAny_bind (wpAny_pure (wpAny_pure ⟨_,rfl,wpAny_pure h⟩))) htake)
  | exact wpAny_bind (wpAny_bind (m:=Ycl _) (wpAny_newObj_type (wpAny_pure (wpAny_pure ⟨_,rfl,wpAny_pure h⟩)) htake))
  | exact wpAny_bind (wpAny_bind (m:=Ycl _) (wpAny_newObj_type (wpAny_pure ⟨_,rfl,wpAny_pure h⟩) htake))
end
end HT
namespace L2
open PySem PySem.Spec PyProof.Rows
abbrev TO:=St->Hp->(Option Int->Hp->Prop)->Prop
def PO (X:Cx) (e:Option Expr) (t:TO):Prop :=
 ∀ (pins:List (Addr × Obj)) (s:Shared) (σ:St) (H:Hp) (Q:Option Int->Hp->Prop),Inv X pins σ H s->t σ H Q ->
  wpAny (model X.prog X.w) X.A (evalPart e X.env) (fun u s'=>∃ o H',Inv X pins σ H' s'/\IsPart u o/\Q o H') X.xe s
def Zmv:TO:=fun _ H Q=>Q none H
def ZoK (t:TE):TO:=fun σ H Q=>t σ H fun x H1=>∃ i,x=.int i/\Q (some i) H1
theorem Zh1 {ns:List Int}:∀ {us:List Value},Vals (ns.map V.int) us->IntsAre us ns:=by
 induction ns with
 | nil=>intro us r;rw[Yb9] at r;cases r;exact .nil
 | cons n ns ih=>
  intro us r;rw[YaH] at r
  cases r with
  | cons r1 r2=>
   obtain⟨t,e⟩:=r1;subst e;exact .cons n t (ih r2)
section
variable {X:Cx}{e:Expr}{te:TE}{lo hi:Option Expr}{tl th:TO}{pos p2:Pos}
theorem Zbn:PO X none Zmv:=by
 intro pins s σ H Q I h;rw[evalPart_none];exact wpAny_pure ⟨none,H,I,.none,h⟩
theorem Zbk (h:PE X e te):PO X (some e) (ZoK te):=by
 intro pins s σ H Q I hw;rw[evalPart_some];refine thn (h pins s σ H _ I hw) fun u s1 ⟨x,H1,I1,r1,q1⟩=>?_;obtain⟨i,rfl,q⟩:=q1;obtain⟨t,rfl⟩:=r1;exact⟨some i,H1,I1,.int i t,q⟩
def SlR (X:Cx) (r:V->Option Int->Option Int->Hp->VK->Prop):Prop :=
 ∀ (pins:List (Addr × Obj)) (s:Shared) (σ:St) (H:Hp) (x:V) (v vl vu:Value) (lo hi:Option Int) (sl:Addr) (Q:VK),Inv X pins σ H s->RelV x v->s.heap.IsSliceOf sl vl vu .none->IsPart vl lo->IsPart vu hi->r x lo hi H Q ->
  ∃ T id,typeLookup (.type T) "__getitem__"=pure (some (.builtin id))/\s.TypeIs v T/\wpAny (model X.prog X.w) X.A (getItem v (.ref sl)) (EP X pins σ Q) X.xe s
def tSl (r:V->Option Int->Option Int->Hp->VK->Prop) (te:TE) (tl th:TO):TE:=fun σ H Q=>te σ H fun x H1=>tl σ H1 fun l H2=>th σ H2 fun u H3=>r x l u H3 Q
theorem Za7 {r:V->Option Int->Option Int->Hp->VK->Prop} (hr:SlR X r) (he:PE X e te) (hl:PO X lo tl) (hu:PO X hi th):PE X (.Subscript e (.Slice lo hi none p2) pos) (tSl r te tl th):=by
 intro pins s σ H Q I h;refine Subscript_ (thn (he pins s σ H _ I h) fun v s1 ⟨x,H1,I1,r1,q1⟩=>?_);refine wpAny_Slice (thn (hl pins s1 σ H1 _ I1 q1) fun vl s2 ⟨l,H2,I2,pl,q2⟩=>thn (hu pins s2 σ H2 _ I2 q2) fun vu s3 ⟨u,H3,I3,pu,q3⟩=>?_);rw[evalPart_none];refine wpAny_pure ?_;have I4:Inv X pins σ H3 { s3 with heap:=s3.heap.push { cls:=.type "slice",data:=.fields #[vl,vu,.none] } }:=I3.kept (t':=s3.toks) fun b ob q=>Yab _ q;obtain⟨T,id,hT,ht,hg⟩:=hr pins { s3 with heap:=s3.heap.push { cls:=.type "slice",data:=.fields #[vl,vu,.none] } } σ H3 x v vl vu l u s3.heap.objs.size Q I4 r1 (Yd8 ..) pl pu q3;show wpAny (model X.prog X.w) X.A (subscriptTail e (.Slice lo hi none p2) v (.ref s3.heap.objs.size)) (EP X pins σ Q) X.xe { s3 with heap:=s3.heap.push { cls:=.type "slice",data:=.fields #[vl,vu,.none] } };exact tail_any (ops:=[.ref s3.heap.objs.size,v]) ht hT hg (by with_unfolding_all rfl)
def cutV (xs:List V) (lo hi:Option Int):List V:=(xs.drop (HT.sIx xs.length 0 lo)).take (HT.sIx xs.length xs.length hi - HT.sIx xs.length 0 lo)
theorem Zdn (xs:List V) (lo hi:Option Int):(cutV xs lo hi).length<=xs.length:=by
 unfold cutV;rw[Yaz,Ybp];omega
def rSlT (K:Yae):V->Option Int->Option Int->Hp->VK->Prop:=fun x lo hi H Q=>∃ a xs,x=.ref a/\SqT K H a xs /\
 ¬ (HT.sIx xs.length 0 lo=0/\HT.sIx xs.length xs.length hi=xs.length)/\∀ p,H p=none->Q (.ref p) (upd H p (.tup (cutV xs lo hi)))
theorem ZiG:SlR X (rSlT X.K):=by
 intro pins s σ H x v vl vu lo hi sl Q I rx hs pl pu h;obtain⟨a,xs,rfl,hx,hw,q⟩:=h;cases rx;obtain⟨its,r,ht,hz⟩:=I.tuple hx;have hlen:its.toArray.size=xs.length:=by rw[YaC];exact r.length.symm
 refine⟨"tuple",_,Ycw.lookup,ht.typeIs,?_⟩;refine HT.getItem_tuple_cut ht hs pl pu (by rw[hlen];exact hw) ?_ (by rw[hlen];exact hz);rw[hlen];refine⟨.ref s.heap.objs.size,_,I.laid (t':=s.toks) (o:=.tup (cutV xs lo hi)) (fun b ob q=>Yab _ q) (Yag _) ?_,rfl,q _ (I.hok.fresh (Yag _))⟩;exact⟨Ybv (Zdn xs lo hi) hz,_,(r.drop (HT.sIx xs.length 0 lo)).take (HT.sIx xs.length xs.length hi - HT.sIx xs.length 0 lo),IsTupD.new _ _⟩
def Zn6 (K:Yae):R2:=fun x y H Q=>∃ a b xs ys,x=.ref a/\y=.ref b/\SqT K H a xs/\SqT K H b ys/\xs≠[]/\xs.length+ys.length<=sizeLine /\
 (ys=[]->Q (.ref a) H)/\(ys≠[]->∀ p,H p=none->Q (.ref p) (upd H p (.tup (xs++ys))))
theorem Vals.nil_iff {xs:List V}{us:List Value} (r:Vals xs us):us=[]↔xs=[]:=by
 cases r with
 | nil=>simp
 | cons _ _=>simp
theorem Zm5:OpR X (binaryOp .Add) (Zn6 X.K):=by
 intro pins s σ H x y v u Q I rx ry h;obtain⟨a,b,xs,ys,rfl,rfl,ha,hb,hx,hz,q1,q2⟩:=h;cases rx;cases ry;obtain⟨its,r1,p1,_⟩:=I.tuple ha;obtain⟨its2,r2,p2,_⟩:=I.tuple hb;refine HT.cat_tup p1 p2 (fun z=>hx (r1.nil_iff.mp z)) (fun z=>⟨.ref a,H,I,rfl,q1 (r2.nil_iff.mp z)⟩) (fun z=>?_) (by rw[<- r1.length,<- r2.length];exact hz);refine⟨.ref s.heap.objs.size,_,I.laid (t':=s.toks) (o:=.tup (xs++ys)) (fun b ob q=>Yab _ q) (Yag _) ?_,rfl,q2 (fun w=>z (r2.nil_iff.mpr w)) _ (I.hok.fresh (Yag _))⟩;exact⟨by rw[Yak];exact hz,_,r1.append r2,IsTupD.new _ _⟩
end
end L2
namespace L2
open PySem PySem.Spec PyProof.Rows
def ixN (n:Nat) (i:Int):Option Nat:=if 0<=i then (if i<n then some i.toNat else none) else if -(n:Int)<=i then some (i+n).toNat else none
def atI {α:Type} (xs:List α) (i:Int):Option α:=(ixN xs.length i).bind fun j=>xs[j]?
theorem ZjM {n:Nat}{i:Int}{j:Nat} (h:ixN n i=some j):seqIndex? i n=some j/\j<n/\-(n:Int)<=i/\i<n:=by
 unfold ixN at h;by_cases h0:0<=i
 ·rw[if_pos h0] at h;by_cases h1:i<n
  ·rw[if_pos h1] at h;have e:i.toNat=j:=YaE h;exact⟨by rw[seqIndex_of h0 h1,e],by omega,by omega,h1⟩
  ·rw[if_neg h1] at h;cases h
 ·rw[if_neg h0] at h;by_cases h1:-(n:Int)<=i
  ·rw[if_pos h1] at h;have e:(i+n).toNat=j:=YaE h;exact⟨by rw[seqIndex_neg (by omega) h1,e],by omega,h1,by omega⟩
  ·rw[if_neg h1] at h;cases h
theorem Zkw {α:Type}{xs:List α}{i:Int}{v:α} (h:atI xs i=some v):∃ j,seqIndex? i xs.length=some j/\xs[j]?=some v/\j<xs.length/\-(xs.length:Int)<=i/\i<xs.length:=by
 unfold atI at h
 cases e:ixN xs.length i with
 | none=>rw[e] at h;cases h
 | some j=>
  rw[e] at h;obtain⟨h1,h2,h3,h4⟩:=ZjM e;exact⟨j,h1,h,h2,h3,h4⟩
theorem Zbx {α:Type}{xs:List α}{j:Nat}{v:α} (h:xs[j]?=some v):atI xs (j:Int)=some v:=by
 have hj:j<xs.length:=(Yad.mp h).1
 have e:ixN xs.length (j:Int)=some j:=by
  unfold ixN;rw[if_pos (by omega),if_pos (by omega)];simp
 unfold atI;rw[e];exact h
theorem ZlP {α:Type} (xs:List α) (v:α):atI (xs++[v]) (-1)=some v:=by
 have hl:(xs++[v]).length=xs.length+1:=by simp
 have e:ixN (xs++[v]).length (-1)=some xs.length:=by
  unfold ixN;rw[hl,if_neg (by decide),if_pos (by omega)];congr 1;omega
 unfold atI;rw[e];show (xs++[v])[xs.length]?=some v;simp
def Zky (b:Expr):Prop:=∀ o i,subscripted b false o i=operate [o,i] (getItem o i)
def IxR (X:Cx) (r:R2):Prop :=
 ∀ (value slice:Expr) (pins:List (Addr × Obj)) (s:Shared) (σ:St) (H:Hp) (x y:V) (v u:Value) (Q:VK),Inv X pins σ H s->RelV x v->RelV y u->r x y H Q ->
  subscripted slice false v u=operate [v,u] (getItem v u)->wpAny (model X.prog X.w) X.A (subscriptTail value slice v u) (EP X pins σ Q) X.xe s
def MtR (X:Cx) (id:String) (r:V->List V->Hp->VK->Prop):Prop :=
 ∀ (pins:List (Addr × Obj)) (s:Shared) (σ:St) (H:Hp) (x:V) (xs:List V) (v:Value) (us:List Value) (Q:VK),Inv X pins σ H s->RelV x v->Vals xs us->r x xs H Q ->
  wpAny (model X.prog X.w) X.A (call (.builtin id) (v::us)) (EP X pins σ Q) X.xe s
section
variable {X:Cx}{a b:Expr}{ta tb:TE}{pos:Pos}
theorem ZaK {r:R2} (hr:IxR X r) (ha:PE X a ta) (hb:PE X b tb) (hs:Zky b):PE X (.Subscript a b pos) (tOp r ta tb):=by
 intro pins s σ H Q I h;exact Subscript_ (binT ha hb I h fun v u s2 x y H2 I2 rx ry q=>hr a b pins s2 σ H2 x y v u Q I2 rx ry q (hs _ _))
def rIxL (K:Yae):R2:=fun x y H Q=>∃ p xs i v,x=.ref p/\y=.int i/\SqL K H p xs/\atI xs i=some v/\Q v H
def rIxT (K:Yae):R2:=fun x y H Q=>∃ p xs i v,x=.ref p/\y=.int i/\SqT K H p xs/\atI xs i=some v/\Q v H
theorem Zaz:IxR X (rIxL X.K):=by
 intro value slice pins s σ H x y v u Q I rx ry h hs;obtain⟨p,xs,i,z,rfl,rfl,hq,he,q⟩:=h;cases rx;obtain⟨t,rfl⟩:=ry;obtain⟨its,r,pl,hz⟩:=I.list hq;obtain⟨j,h1,h2,h3,h4,h5⟩:=Zkw he;obtain⟨w,ew,rw'⟩:=r.get h2;have hl:=r.length;have hn:=Zfl;have fin:EP X pins σ Q w s:=⟨z,H,I,rw',q⟩
 by_cases h0:0<=i
 ·have hj:i.toNat=j:=by
   rw[seqIndex_of h0 h5] at h1;exact YaE h1
  exact item_listR pl.isList h0 (by omega) (by rw[hj];simpa using ew) fin hs
 ·have hj:(i+(its.toArray.size:Int)).toNat=j:=by
   rw[seqIndex_neg (by omega) h4] at h1;rw[YaC,<- hl];exact YaE h1
  exact subscriptTail_builtinR (x:=w) pl.isList.typeIs slot_list_getitem.lookup
   (wpAny_getItem_list_neg (Q:=fun r s'=>r=w/\EP X pins σ Q r s') pl.isList (by omega) (by rw[YaC] <;> omega) (by omega) (by rw[hj];simpa using ew) ⟨rfl,fin⟩) hs
theorem Zb2:IxR X (rIxT X.K):=by
 intro value slice pins s σ H x y v u Q I rx ry h hs;obtain⟨p,xs,i,z,rfl,rfl,hq,he,q⟩:=h;cases rx;obtain⟨t,rfl⟩:=ry;obtain⟨its,r,pl,hz⟩:=I.tuple hq;obtain⟨j,h1,h2,h3,h4,h5⟩:=Zkw he;obtain⟨w,ew,rw'⟩:=r.get h2;have hl:=r.length;have hn:=Zfl;have fin:EP X pins σ Q w s:=⟨z,H,I,rw',q⟩
 exact subscriptTail_builtinR (x:=w) pl.typeIs slot_tuple_getitem.lookup
  (getItem_tuple (j:=j) (Q:=fun r s'=>r=w/\EP X pins σ Q r s') pl (by omega) (by omega) (by rw[YaC,<- hl];exact h1) (by simpa using ew) ⟨rfl,fin⟩) hs
theorem ZhV (its:List Value) (n j:Nat) (u:Value):YbY (·.setIfInBounds j u) { cls:=.type "list",data:=.seq its.toArray n }={ cls:=.type "list",data:=.seq (its.set j u).toArray n }:=by
 simp[YbY]
theorem Inv.lst {pins:List (Addr × Obj)}{σ:St}{H:Hp}{s:Shared}{p:Addr}{xs:List V} (I:Inv X pins σ H s) (h:H p=some (.lst xs)) :
  ∃ (its:List Value) (n:Nat),Vals xs its/\s.heap.get? p=some { cls:=.type "list",data:=.seq its.toArray n }/\xs.length<=sizeLine:=by
 obtain⟨z,its,n,r,e⟩:=I.hok p _ h;exact⟨its,n,r,e,z⟩
theorem Inv.lstUpd {pins:List (Addr × Obj)}{σ:St}{H:Hp}{s:Shared}{p:Addr}{xs ys:List V}{its its':List Value}{n n':Nat}{f:Obj->Obj} (I:Inv X pins σ H s) (h:H p=some (.lst xs))
  (ho:s.heap.get? p=some { cls:=.type "list",data:=.seq its.toArray n }) (hf:f { cls:=.type "list",data:=.seq its.toArray n }={ cls:=.type "list",data:=.seq its'.toArray n' }) (r:Vals ys its') (hz:ys.length<=sizeLine) (t:Nat) :
  Inv X pins σ (upd H p (.lst ys)) { s with heap:=s.heap.update p f,toks:=t }:=by
 have e:(s.heap.update p f).get? p=some { cls:=.type "list",data:=.seq its'.toArray n' }:=by
  rw[Ydx f ho (by rw[hf] <;> rfl),hf]
 refine I.write (x:=p) (e:=p) (by rw[h];trivial) (.inl rfl) (fun b u hb q=>(YeU _ _ (Ybq hb)).trans q) ⟨_,e⟩ ?_;exact⟨hz,its',n',r,e⟩
def ZoV:V->V->V->Hp->(Hp->Prop)->Prop:=fun o i v H Q=>∃ p xs k j,o=.ref p/\i=.int k/\H p=some (.lst xs)/\ixN xs.length k=some j/\Q (upd H p (.lst (xs.set j v)))
theorem Zeu:PSet X ZoV:=by
 intro pins s σ H o i v ov iv u Q I ro ri rv h;obtain⟨p,xs,k,j,rfl,rfl,hp,hj,q⟩:=h;cases ro;obtain⟨t,rfl⟩:=ri;obtain⟨its,n,r,ho,hz⟩:=I.lst hp;obtain⟨h1,h2,h3,h4⟩:=ZjM hj;have hl:=r.length;have hn:=Zfl;have I':Inv X pins σ (upd H p (.lst (xs.set j v))) { s with heap:=s.heap.update p (YbY (·.setIfInBounds j u)) } :=
  I.lstUpd hp ho (ZhV its n j u) (r.set rv j) (by rw[Ydv];exact hz) s.toks
 by_cases h0:0<=k
 ·have hk:k.toNat=j:=by
   rw[seqIndex_of h0 h4] at h1;exact YaE h1
  exact PySem.W.ki_setAt ho h0 (by omega) (by rw[YaC,<- hl];exact h4) (by rw[hk];exact⟨_,I',q⟩)
 ·have hk:(k+(its.toArray.size:Int)).toNat=j:=by
   rw[seqIndex_neg (by omega) h3] at h1;rw[YaC,<- hl];exact YaE h1
  exact PySem.W.ki_setBack ho (by omega) (by rw[YaC,<- hl];exact h3) (by omega) (by rw[hk];exact⟨_,I',q⟩)
theorem Ze8 (lo hi:Option Int) (n:Nat):(sliceBounds lo hi none n).1=((HT.sIx n 0 lo:Nat):Int)/\(sliceBounds lo hi none n).2.1=((HT.sIx n n hi:Nat):Int)/\(sliceBounds lo hi none n).2.2=1:=by
 refine⟨?_,?_,rfl⟩
 ·cases lo with
  | none=>simp[sliceBounds,HT.sIx]
  | some i=>
   simp only[sliceBounds,HT.sIx,Yfp,show (1:Int) > 0 by decide,if_true];by_cases h:i<0
   ·simp only[h,if_true] <;> omega
   ·simp only[h,if_false] <;> omega
 ·cases hi with
  | none=>simp[sliceBounds,HT.sIx]
  | some i=>
   simp only[sliceBounds,HT.sIx,Yfp,show (1:Int) > 0 by decide,if_true];by_cases h:i<0
   ·simp only[h,if_true] <;> omega
   ·simp only[h,if_false] <;> omega
theorem Zet (its:List Value) (lo hi:Option Int):slicePick its.toArray lo hi none=((its.drop (HT.sIx its.length 0 lo)).take (HT.sIx its.length its.length hi - HT.sIx its.length 0 lo)).toArray:=by
 obtain⟨h1,h2,h3⟩:=Ze8 lo hi its.toArray.size;unfold slicePick;rw[h1,h2,h3];simp only[sliceRange_one,pick_run,YaC] <;> rfl
def rSlL (K:Yae):V->Option Int->Option Int->Hp->VK->Prop:=fun x lo hi H Q=>∃ a xs,x=.ref a/\SqL K H a xs/\∀ p,H p=none->Q (.ref p) (upd H p (.lst (cutV xs lo hi)))
theorem Zb7:SlR X (rSlL X.K):=by
 intro pins s σ H x v vl vu lo hi sl Q I rx hs pl pu h;obtain⟨a,xs,rfl,hx,q⟩:=h;cases rx;obtain⟨its,r,ht,hz⟩:=I.list hx;have hlen:=r.length;refine⟨"list",_,slot_list_getitem.lookup,ht.isList.typeIs,?_⟩;refine wpAny_getItem_list_slice ht.isList hs pl pu .none (by simp) ?_ (by rw[YaC] <;> omega);rw[Zet,<- hlen];refine⟨.ref s.heap.objs.size,_,I.laid (t':=s.toks) (o:=.lst (cutV xs lo hi)) (fun b ob q=>Yab _ q) (Yag _) ?_,rfl,q _ (I.hok.fresh (Yag _))⟩;exact⟨Ybv (Zdn xs lo hi) hz,_,0,(r.drop (HT.sIx xs.length 0 lo)).take (HT.sIx xs.length xs.length hi - HT.sIx xs.length 0 lo),Yas _ rfl⟩
theorem Zas:ZbK X (.builtin "len") (fun xs H Q=>∃ p ys,xs=[.ref p]/\(SqL X.K H p ys∨SqT X.K H p ys)/\Q (.int ys.length) H):=by
 intro pins s σ H xs us Q I r h;obtain⟨p,ys,rfl,hq,q⟩:=h;obtain⟨u,rfl,rx⟩:=ZcR r;cases rx;have hn:=Zfl;rcases hq with hq | hq
 ·obtain⟨its,r',pl,hz⟩:=I.list hq;have hlen:=r'.length;exact Calls.call_len_list pl.isList (by simp only[YaC] <;> omega) ⟨.int ys.length,H,I.tok _,⟨s.toks+1,by rw[YaC,hlen]⟩,q⟩
 ·obtain⟨its,r',pl,hz⟩:=I.tuple hq;have hlen:=r'.length;exact len_tuple pl (by simp only[YaC] <;> omega) ⟨.int ys.length,H,I.tok _,⟨s.toks+1,by rw[YaC,hlen]⟩,q⟩
theorem ZaR:ZbK X (.type "tuple") (fun xs H Q=>∃ p ys,xs=[.ref p]/\((SqL X.K H p ys/\∀ l,H l=none->Q (.ref l) (upd H l (.tup ys)))∨(SqT X.K H p ys/\Q (.ref p) H))):=by
 intro pins s σ H xs us Q I r h;obtain⟨p,ys,rfl,h⟩:=h;obtain⟨u,rfl,rx⟩:=ZcR r;cases rx;rcases h with ⟨hq,q⟩ | ⟨hq,q⟩
 ·obtain⟨its,r',pl,hz⟩:=I.list hq;have hlen:=r'.length;refine call_tuple_list pl.isList (fun h' kp=>?_) (by simp only[YaC] <;> omega);have I1:Inv X pins σ H { s with heap:=h' }:=I.kept (t':=s.toks) kp;have I2:Inv X pins σ (upd H h'.objs.size (.tup ys)) { s with heap:=h'.push { cls:=.type "tuple",data:=.seq its.toArray } } :=
   I1.laid (t':=s.toks) (fun b o e=>Yab _ e) (Yag _) (show ObjOk X.prog X.w _ _ _ (.tup ys) from⟨hz,its,r',IsTupD.new _ _⟩)
  exact⟨.ref h'.objs.size,_,I2,rfl,q _ (I1.hok.fresh (Yag _))⟩
 ·obtain⟨its,r',pl,hz⟩:=I.tuple hq;exact call_tuple_same pl ⟨.ref p,H,I,rfl,q⟩
def tyV (K:Yae) (T:String) (x:V) (H:Hp):Prop:=match x with
 | .str _=>T="str"
 | .int _=>T="int"
 | .ref p=>(T="list"/\∃ xs,SqL K H p xs)∨(T="tuple"/\∃ o,K.lookup p=some o/\o.cls=.type "tuple"/\o.dict=none) ∨
   (T="dict"/\((∃ kvs,H p=some (.dK kvs))∨∃ kvs,H p=some (.dT kvs)))∨(T="set"/\∃ S n,H p=some (.set S n))
 | _=>False
theorem ZlU {pins:List (Addr × Obj)}{σ:St}{H:Hp}{s:Shared}{T:String}{x:V}{v:Value} (I:Inv X pins σ H s) (r:RelV x v) (ty:tyV X.K T x H) :
  s.TypeIs v T/\∀ a,v=.ref a->∃ ob,s.heap.get? a=some ob/\ob.dict=none:=by
 cases x with
 | str z=>
  obtain⟨t,rfl⟩:=r;cases (show T="str" from ty);exact⟨typeIs_str s z t,fun _ e=>nomatch e⟩
 | int i=>
  obtain⟨t,rfl⟩:=r;cases (show T="int" from ty);exact⟨typeIs_int s i t,fun _ e=>nomatch e⟩
 | ref p=>
  cases r;rcases ty with ⟨rfl,xs,hq⟩ | ⟨rfl,o,hk,hc,hd⟩ | ⟨rfl,hk⟩ | ⟨rfl,S,n,hk⟩
  ·obtain⟨its,_,pl,_⟩:=I.list hq;refine⟨pl.isList.typeIs,fun a e=>?_⟩;cases e;obtain⟨o,n,e,c,hd,_⟩:=pl;exact⟨o,e,hd⟩
  ·refine⟨⟨o,I.kIn p o hk,hc⟩,fun a e=>?_⟩;cases e;exact⟨o,I.kIn _ o hk,hd⟩
  ·have z:∃ o,s.heap.get? p=some o/\o.ExactDict:=by
    rcases hk with ⟨kvs,hk⟩ | ⟨kvs,hk⟩
    ·obtain⟨_,_,_,_,o,_,_,e,ex,_⟩:=I.hok p _ hk;exact⟨o,e,ex⟩
    ·obtain⟨_,_,_,_,o,_,_,e,ex,_⟩:=I.hok p _ hk;exact⟨o,e,ex⟩
   obtain⟨o,e,ex⟩:=z;refine⟨⟨o,e,ex.1⟩,fun a e2=>?_⟩;cases e2;exact⟨o,e,ex.2.1⟩
  ·obtain⟨o,_,_,_,e,ex,_⟩:=I.hok p _ hk;refine⟨⟨o,e,ex.1⟩,fun a e2=>?_⟩;cases e2;exact⟨o,e,ex.2.1⟩
 | _=>exact YcA ty
def tBM0 (K:Yae) (T:String) (r:V->List V->Hp->VK->Prop) (to:TE):TE:=fun σ H Q=>to σ H fun x H1=>tyV K T x H1/\r x [] H1 Q
def tBM (K:Yae) (T:String) (r:V->List V->Hp->VK->Prop) (to:TE) (t:TA):TE:=fun σ H Q=>to σ H fun x H1=>tyV K T x H1/\t σ H1 fun xs H2=>r x xs H2 Q
variable {o e:Expr}{es:List Expr}{to:TE}{t:TA}{name:Str}{apos cpos:Pos}{T id:String}{r:V->List V->Hp->VK->Prop}
theorem Zob (pa:PlainAttrs T) (slot:Slot T name id) (hty:typeOf (.builtin id)=pure (.type "method_descriptor")) (hm:MtR X id r) (ho:PE X o to)
  (hbase:attributeBase o name X.env (eval o X.env)=eval o X.env:=by rfl) (hline:(apos.endLine == cpos.line)=true:=by rfl):PE X (.Call (.Attribute o name apos) [] [] cpos) (tBM0 X.K T r to):=by
 intro pins s σ H Q I h;refine wpAny_Call_method0_late hbase hline (thn (ho pins s σ H _ I h) fun v s1 ⟨x,H1,I1,r1,ty,q1⟩=>?_);obtain⟨h1,h2⟩:=ZlU I1 r1 ty;exact⟨T,id,pa,slot,hty,h1,h2,YcI rfl (Ye4 (hm pins s1 σ H1 x [] v [] Q I1 r1 .nil q1))⟩
theorem ZhO (pa:PlainAttrs T) (slot:Slot T name id) (hty:typeOf (.builtin id)=pure (.type "method_descriptor")) (hm:MtR X id r) (ho:PE X o to) (ha:PA X (e::es) t)
  (hbase:attributeBase o name X.env (eval o X.env)=eval o X.env:=by rfl)
  (hfew:((backTo cpos (starEach (e::es) X.env)).all (fun x=>!x.1) && (backToKw cpos (keywordEach [] X.env)).all (fun x=>x.1.isSome)
   && decide ((e::es).length+([]:List Keyword).length+(if ([]:List Keyword).isEmpty then 0 else 1)<30))=true:=by rfl)
  (hline:(apos.endLine == cpos.line)=true:=by rfl) (hs:starEach (e::es) X.env=(false,eval e X.env)::starEach es X.env:=by rfl) (hplain:(backTo cpos (starEach es X.env)).any (·.1)=false:=by rfl) :
  PE X (.Call (.Attribute o name apos) (e::es) [] cpos) (tBM X.K T r to t):=by
 intro pins s σ H Q I h;refine wpAny_Call_method_late hbase hfew hline rfl (thn (ho pins s σ H _ I h) fun v s1 ⟨x,H1,I1,r1,ty,q1⟩=>?_);obtain⟨h1,h2⟩:=ZlU I1 r1 ty;refine⟨T,id,pa,slot,hty,h1,h2,?_⟩;have hA:=ha cpos pins s1 σ H1 _ I1 q1;rw[hs] at hA ⊢;refine YcI (by show (false || (backTo cpos (starEach es X.env)).any (·.1))=false;rw[hplain] <;> rfl) (Ye2 ?_);exact thn hA fun us s2 ⟨vs,H2,I2,r2,q2⟩=>hm pins s2 σ H2 x vs v us Q I2 r1 r2 q2
end
end L2
namespace L2
open PySem PySem.Spec PyProof.Rows
def MtM (X:Cx) (id:String) (r:V->List V->Hp->VK->Prop):Prop :=
 ∀ (pins:List (Addr × Obj)) (s:Shared) (σ:St) (H:Hp) (x:V) (xs:List V) (v:Value) (us:List Value) (Q:VK),Inv X pins σ H s->RelV x v->Vals xs us->r x xs H Q ->
  wpAny (model X.prog X.w) X.A (call (.builtin id) (v::us)) (EP X pins σ Q) X.xe s
theorem Vals.one:∀ {x:V}{us:List Value},Vals [x] us->∃ u,us=[u]/\RelV x u
 | _,_,.cons r .nil=>⟨_,rfl,r⟩
theorem Vals.zero:∀ {us:List Value},Vals [] us->us=[]
 | _,.nil=>rfl
theorem Vals.dropLast {xs:List V}{us:List Value} (h:Vals xs us):Vals xs.dropLast us.dropLast:=by
 induction h with
 | nil=>exact .nil
 | cons r t ih=>
  cases t with
  | nil=>exact .nil
  | cons q t'=>exact .cons r ih
theorem Vals.reverse {xs:List V}{us:List Value} (h:Vals xs us):Vals xs.reverse us.reverse:=by
 induction h with
 | nil=>exact .nil
 | cons r t ih=>rw[Yb6,Yb6];exact Vals.append ih (.cons r .nil)
theorem Vals.rep {xs:List V}{us:List Value} (h:Vals xs us):∀ k:Nat,Vals (Yai k xs).flatten (Yai k us).flatten
 | 0=>.nil
 | k+1=>by
  rw[Ybo,Ybo,Ya9,Ya9];exact Vals.append h (Vals.rep h k)
theorem Zh6 {α:Type} (l:List α):l.eraseIdx (l.length - 1)=l.dropLast:=by
 induction l with
 | nil=>rfl
 | cons a r ih=>
  cases r with
  | nil=>rfl
  | cons b r=>
   have e:(a::b::r).length - 1=((b::r).length - 1)+1:=by
    have h1:(a::b::r).length=r.length+2:=rfl;have h2:(b::r).length=r.length+1:=rfl;omega
   rw[e,List.eraseIdx_cons_succ,ih]
   all_goals rfl
theorem Zfy (its:List Value):∀ (k:Nat) (acc:List Value),
  YeL (fun x1 x2=>x1++x2) acc.toArray (Yai k its.toArray)=(acc++(Yai k its).flatten).toArray
 | 0,acc=>by simp
 | k+1,acc=>by
  have e:acc.toArray++its.toArray=(acc++its).toArray:=by simp
  have e2:(acc++its)++(Yai k its).flatten=acc++(Yai (k+1) its).flatten:=by
   rw[Ybo,Ya9,YaN]
  rw[<- e2,<- Zfy its k (acc++its),<- e,Ybo,Yeg]
section
variable {X:Cx}{pins:List (Addr × Obj)}{σ:St}{H:Hp}{s:Shared}{l b:Addr}{xs ys zs:List V}
theorem Inv.lset {its its':List Value}{n:Nat}{f:Array Value->Array Value}{t':Nat} (I:Inv X pins σ H s) (hH:H l=some (.lst xs))
  (e:s.heap.get? l=some { cls:=.type "list",data:=.seq its.toArray n }) (hf:f its.toArray=its'.toArray) (hv:Vals ys its') (hz:ys.length<=sizeLine) :
  Inv X pins σ (upd H l (.lst ys)) { s with heap:=s.heap.update l (YbY f),toks:=t' }:=by
 have q:=PySem.IsL.update e f;rw[hf] at q;refine I.write (x:=l) (e:=l) (by rw[hH];exact trivial) (.inl rfl) (fun b' u hb hu=>(YeU s.heap (YbY f) (Ybq hb)).trans hu) ⟨_,q⟩ ?_;exact⟨hz,its',_,hv,q⟩
theorem Inv.lnew {its:List Value}{t':Nat} (I:Inv X pins σ H s) (hv:Vals ys its) (hz:ys.length<=sizeLine) :
  Inv X pins σ (upd H s.heap.objs.size (.lst ys)) { s with heap:=s.heap.push { cls:=.type "list",data:=.seq its.toArray },toks:=t' } :=
 I.laid (fun _ _ q=>Yab _ q) (Yag _) ⟨hz,its,0,hv,Yas _ rfl⟩
theorem Inv.fresh (I:Inv X pins σ H s):H s.heap.objs.size=none:=I.hok.fresh (Yag _)
theorem Inv.lstM (I:Inv X pins σ H s) (hH:H l=some (.lst xs)):xs.length<=sizeLine/\∃ (its:List Value) (n:Nat),Vals xs its/\xs.length=its.length/\s.heap.get? l=some { cls:=.type "list",data:=.seq its.toArray n }:=by
 obtain⟨z,its,n,r,e⟩:=I.hok l _ hH;exact⟨z,its,n,r,r.length,e⟩
theorem Zg2 {n:Nat} (h:n<=sizeLine):Ycp n=false:=by
 unfold Ycp;exact decide_eq_false (by omega)
end
section
variable {X:Cx}
def ZmR:V->List V->Hp->VK->Prop:=fun x vs H Q=>∃ l xs y,x=.ref l/\vs=[y]/\H l=some (.lst xs)/\xs.length<sizeLine/\Q .non (upd H l (.lst (xs++[y])))
theorem Zbl:MtM X "list.append" ZmR:=by
 intro pins s σ H x vs v us Q I rx rv h;obtain⟨l,xs,y,rfl,rfl,hH,hz,q⟩:=h;cases rx;obtain⟨u,rfl,ru⟩:=rv.one;obtain⟨z,its,n,r,hl,e⟩:=I.lstM hH;refine call_meets F.slot_list_append ⟨_,e,rfl⟩ F.entry_list_append (F.args_list_append_2 _ _) (PySem.list_append l its.toArray n u (by rw[YaC];omega)) ⟨e,?_⟩;refine⟨.non,_,I.lset (its':=its++[u]) hH e (by simp) (r.append (.cons ru .nil)) ?_,rfl,q⟩;rw[Yak,List.length_singleton];omega
def ZmQ:V->List V->Hp->VK->Prop:=fun x vs H Q=>∃ l b xs zs,x=.ref l/\vs=[.ref b]/\H l=some (.lst xs)/\H b=some (.lst zs)/\xs.length+zs.length<=sizeLine/\Q .non (upd H l (.lst (xs++zs)))
theorem Zjq:MtM X "list.extend" ZmQ:=by
 intro pins s σ H x vs v us Q I rx rv h;obtain⟨l,b,xs,zs,rfl,rfl,hH,hB,hz,q⟩:=h;cases rx;obtain⟨u,rfl,ru⟩:=rv.one;cases ru;obtain⟨z,its,n,r,hl,e⟩:=I.lstM hH;obtain⟨z2,its2,n2,r2,hl2,e2⟩:=I.lstM hB;have hsz:its.toArray.size+its2.toArray.size<=sizeLine:=by rw[YaC,YaC];omega
 have hlong:¬ (!its.toArray.isEmpty && Ycp (its.toArray.size+its2.toArray.size))=true:=by
  rw[Zg2 hsz,Bool.and_false];exact YaV
 refine call_meets F.slot_list_extend ⟨_,e,rfl⟩ F.entry_list_extend (F.args_list_extend_2 _ _)
  (AutoSeq1.list_extend_list_list_0 l its.toArray n b its2.toArray n2 hlong (by rw[YaC];omega) (by omega)) ⟨e,e2,?_⟩
 refine⟨.non,_,I.lset (its':=its++its2) hH e (by simp) (r.append r2) ?_,rfl,q⟩;rw[Yak];omega
def rPop:V->List V->Hp->VK->Prop:=fun x vs H Q=>∃ l xs y,x=.ref l/\vs=[]/\H l=some (.lst xs)/\xs[xs.length - 1]?=some y/\Q y (upd H l (.lst xs.dropLast))
theorem Zog:MtM X "list.pop" rPop:=by
 intro pins s σ H x vs v us Q I rx rv h;obtain⟨l,xs,y,rfl,rfl,hH,hy,q⟩:=h;cases rx;have hus:=rv.zero;subst hus;obtain⟨z,its,n,r,hl,e⟩:=I.lstM hH;obtain⟨u,hu,ru⟩:=r.get hy;have hy':its.toArray[its.toArray.size - 1]?=some u:=by
  show its.toArray[its.length - 1]?=some u;rw[<- Yaf,<- hl];exact hu
 refine call_meets F.slot_list_pop ⟨_,e,rfl⟩ F.entry_list_pop (F.args_list_pop_1 _) (MeetsSeq.list_pop_last l its.toArray n u hy' (by rw[YaC];omega)) ⟨e,?_⟩;refine⟨y,_,I.lset (its':=its.dropLast) hH e ?_ r.dropLast ?_,ru,q⟩
 ·show its.toArray.eraseIdxIfInBounds (its.toArray.size - 1)=its.dropLast.toArray;rw[YaC,List.eraseIdxIfInBounds_toArray,Zh6]
 ·rw[List.length_dropLast];omega
def rCat:R2:=fun x y H Q=>∃ l b xs zs,x=.ref l/\y=.ref b/\H l=some (.lst xs)/\H b=some (.lst zs)/\xs.length+zs.length<=sizeLine/\∀ p,H p=none->Q (.ref p) (upd H p (.lst (xs++zs)))
theorem Zbb:OpR X (binaryOp .Add) rCat:=by
 intro pins s σ H x y v u Q I rx ry h;obtain⟨l,b,xs,zs,rfl,rfl,hH,hB,hz,q⟩:=h;cases rx;cases ry;obtain⟨z,its,n,r,hl,e⟩:=I.lstM hH;obtain⟨z2,its2,n2,r2,hl2,e2⟩:=I.lstM hB;refine PySem.P.add_list e e2 ?_ (by rw[YaC,YaC];omega);have ea:its.toArray++its2.toArray=(its++its2).toArray:=by simp
 rw[ea];exact⟨.ref _,_,I.lnew (t':=s.toks) (r.append r2) (by rw[Yak];omega),rfl,q _ I.fresh⟩
def rRep:R2:=fun x y H Q=>∃ l k xs,x=.ref l/\y=.int k/\H l=some (.lst xs)/\-(2 ^ 63)<=k/\k<2 ^ 63/\xs.length*k.toNat<=sizeLine /\
 ∀ p,H p=none->Q (.ref p) (upd H p (.lst (Yai k.toNat xs).flatten))
theorem ZjC {α:Type} (xs:List α) (k:Nat):(Yai k xs).flatten.length=k*xs.length:=by
 induction k with
 | zero=>simp
 | succ k ih=>rw[Ybo,Ya9,Yak,ih,Nat.succ_mul,Nat.add_comm]
theorem Zfg:OpR X (binaryOp .Mult) rRep:=by
 intro pins s σ H x y v u Q I rx ry h;obtain⟨l,k,xs,rfl,rfl,hH,h1,h2,hz,q⟩:=h;cases rx;obtain⟨t,rfl⟩:=ry;obtain⟨z,its,n,r,hl,e⟩:=I.lstM hH;have hlen:its.toArray.size*k.toNat<=sizeLine:=by rw[YaC,<- hl];exact hz
 have hcap:¬ its.toArray.size*k.toNat > (2 ^ 63 - 1) / 8:=by
  have:(sizeLine:Nat)<=(2 ^ 63 - 1) / 8:=by decide
  omega
 have hfit:¬ (!Builtin.List.listFitsIndex k)=true:=by
  rw[fitsIndex_both h1 h2];exact YaV
 have hlong:¬ Ycp (its.toArray.size*k.toNat)=true:=by
  rw[Zg2 hlen];exact YaV
 have hnew:YeL (fun x1 x2=>x1++x2) #[] (Yai (if its.toArray.isEmpty=true then 0 else k.toNat) its.toArray)=(Yai k.toNat its).flatten.toArray:=by
  have f0:∀ m:Nat,YeL (fun x1 x2=>x1++x2) #[] (Yai m its.toArray)=(Yai m its).flatten.toArray:=fun m=>by
   have:=Zfy its m [];rw[Yec] at this;exact this
  rw[f0]
  cases its with
  | nil=>simp
  | cons a r'=>rw[if_neg (by simp)]
 refine wpAny_binaryOp_repeat_ref (T:="list") (U:="int") (by decide) ⟨_,e,rfl⟩ (fun s'=>typeIs_int s' k t) noFill_list_mul F.fills_int_mul F.slot_int_rmul repeat_list F.slot_int_index.lookup
  (call_meets F.slot_int_rmul (typeIs_int s k t) F.entry_int_rmul (F.args_int_rmul_2 _ _) (int___rmul___int_list k t l its.toArray n)
   ⟨e,rfl,⟨_,e,rfl⟩,call_meets F.slot_list_mul ⟨_,e,rfl⟩ F.entry_list_mul (F.args_list_mul_2 _ _) (AutoListH.list___mul___list_int_3 l its.toArray n k t hfit hcap hlong) ⟨e,?_⟩⟩)
 rw[hnew];exact⟨.ref _,_,I.lnew (t':=s.toks) (r.rep k.toNat) (by rw[ZjC,Nat.mul_comm];exact hz),rfl,q _ I.fresh⟩
end
section
variable {prog:Program}{w:World}{A:Around}{E:Value->Shared->Prop}{s:Shared}
set_option maxRecDepth 100000 in
end
section
variable {X:Cx}
end
end L2
namespace Att
open PySem PySem.W PySem.Calls PyProof.Rows
theorem Zdj {P:Params}{h:Heap}:∀ (ns:List Int) (vs:List Value),WellAll P h vs (ns.map WData.int)->IntsAre vs ns:=by
 intro ns
 induction ns with
 | nil=>
  intro vs w;rw[Yb9] at w;cases w;exact .nil
 | cons n ns ih=>
  intro vs w;rw[YaH] at w
  cases w with
  | cons a b=>
   cases a;exact .cons _ _ (ih _ b)
theorem ZiH {l:OpenLaw}{n:Nat} (hn:l.most=some n) {P:Params}{h:Heap}{args:List WData}{vals:List Value}
  (hpre:l.row.toRowW.claim.pre args=true) (hwl:WellAll P h vals args) :
  ∃ a vs ns,vals=[YaK a]/\args=[WData.list (ns.map WData.int)]/\h.get? a=some { cls:=.type "list",data:=.seq vs.toArray }/\IntsAre vs ns/\ns.length<=n:=by
 have hsh:WShape.hasAll [] args [.list .int]=true:=(pre_splitW hpre).1
 have hc:l.pre.holds [] { args:=args }=true:=(pre_splitW hpre).2
 obtain⟨d,r,rfl,h1,h2⟩:=hasAllW_cons hsh;obtain rfl:=hasAllW_nil h2;obtain⟨xs,rfl,h3⟩:=hasW_list h1;obtain⟨ns,rfl⟩:=items_int h3;have hlen:ns.length<=n:=by
  unfold OpenLaw.pre at hc;have h4:(WTm.not (.lt (.lit (.int (n:Int))) (.len (.arg 0)))).holds [] { args:=[.list (ns.map .int)] }=true:=by
   have h4:=(holds_andW hc).1
   rw[hn] at h4;exact h4
  have h5:=condW_of h4 (w_not (w_lt w_lit (w_len_list (w_arg rfl))));rw[Yac] at h5;refine Yd6 fun q=>?_;have q':(n:Int)<((ns.length:Nat):Int):=by omega
  first
   | (rw[decide_eq_true q'] at h5;exact absurd h5 (by decide))
   | (simp at h5;omega)
 cases hwl with
 | cons w1 w2=>
  cases w2
  cases w1 with
  | list ho hall=>exact⟨_,_,ns,rfl,rfl,ho,Zdj ns _ hall,hlen⟩
theorem ZiP (l:OpenLaw) (args:List WData):l.row.toRowW.claim.post args (.bool true) args=true :=
 postW_of (r:=l.row.toRowW) (X:=(true == true))
  (show WShape.has [] (.bool true) .bool=true by first | rfl | decide | simp[WShape.has,WShape.arms,WShape.armsAll])
  (show (WTm.eq .res (.lit (.bool true))).value [] { args:=args,res:=some (.bool true),after:=args }=some (.bool (true == true)) from w_eq_bool (w_res rfl) w_lit) rfl
theorem attach_call {l:OpenLaw}{n:Nat}{q:Program}{loose:List Str}{XP:(Str->Option Value)->Heap->Prop}{YP:World->Heap->Prop}{d:DefRec}
  (hn:l.most=some n) (hdf:d.params.defaults=[])
  (call:∀ (w:World) (s₀ s₁:Shared) (mg mb:Str->Option Value) (fa:Addr) (o:Obj) (pm cd doc:Value) (a:Addr) (vs:List Value) (ns:List Int),
   Ground q loose [] XP w s₀ mg mb s₁.heap->YP w s₁.heap ->
   s₁.heap.get? fa=some o->o.data=.func (docDef d.name d.params d.body d.scope pm cd doc)->s₁.heap.CodeRec cd d.name->mg d.name=some (.ref fa) ->
   s₁.heap.get? a=some { cls:=.type "list",data:=.seq vs.toArray }->IntsAre vs ns->ns.length<=n->s₁.gens=#[] ->
   codeAny (model l.prog w) callerA (.call (.ref fa) ⟨[.ref a],[]⟩) (fun r s'=>r=.ok (.ret (.bool true))/\OldK s₁.heap s'.heap/\s'.os=s₁.os/\AllBare s'.gens) s₁) :
  WalkO q loose XP YP l.row.toRowW d [] (fun f vs=>Yfn f vs):=by
 intro w s₀ s₁ mg mb G Y fa o pm cd doc dV kV ho hd hcd hD hmg hg args vals as hpre hlay hrd hwl hlo;obtain rfl:dV=.none:=Dflts.none hD hdf;obtain rfl:kV=.none:=Dflts.noKw hD;obtain⟨a,vs,ns,rfl,rfl,hobj,hints,hlen⟩:=ZiH hn hpre hwl;refine enter_call (codeAny_mono (call w s₀ s₁ mg mb fa o pm cd doc a vs ns G Y ho (fd_plain hd) hcd hmg hobj hints hlen hg) fun r s' hq=>?_);obtain⟨rfl,h2,h3,h4⟩:=hq;exact⟨.inl ⟨.bool true,.bool true,[],rfl,fun _=>rfl,.bool true,ZiP l _,fun _=>⟨YbM,fun _ hm=>(nomatch hm)⟩⟩,h2,h3,h4⟩
section
variable {prog:Program}{w:World}{A:Around}{E:Value->Shared->Prop}{s:Shared}{K:Frag}
def Zph (h:Heap) (L d:Addr):List (Addr × Obj):=(YaT h.objs.size).filterMap fun a=>if a=L∨a=d then none else (h.get? a).map fun o=>(a,o)
end
end Att
namespace L2
open PySem PySem.Spec PyProof.Rows
theorem ZeX:∀ {vs:List Value}{ns:List Int},IntsAre vs ns->Vals (ns.map V.int) vs
 | _,_,.nil=>.nil
 | _,_,.cons n t h=>.cons ⟨t,rfl⟩ (ZeX h)
def Only (H:Hp):Prop:=∀ b,H b=none∨∃ o xs,H b=some (.frz o (.lst xs))
theorem Zly {P:Program}{w:World}{K:Yae}{mg mb:Str->Option Value}{CX:CXT}{k:Nat}{fa a:Addr}{fd:FuncData}{x:Str}{sp:Sp}{s₁:Shared}{vs:List Value}{ns:List Int}
  (KX:K.In s₁.heap) (hns:s₁.heap.Ns mainGlobals mg) (hb:s₁.heap.Ns builtinsNs mb) (hbb:∀ x:Str,x≠"__name__"->mb x=bootBuiltins x) (hlim:s₁.heap.NoLimit) (hg:s₁.gens=#[])
  (ha:s₁.heap.get? a=some { cls:=.type "list",data:=.seq vs.toArray }) (hi:IntsAre vs ns) (hl:ns.length<=sizeLine) (hr:Room k callerA)
  (F:∀ base:Heap,K.In base->base.Ns mainGlobals mg->FnOk P w K mg base CX k fa fd [x] sp) (hbind:∀ (s:Shared) (u:Value),BindsTo s fd ⟨[u],[]⟩ [(x,u)])
  (hsp:∀ H:Hp,Only H->SqL K H a (ns.map V.int)->sp [.ref a] H (fun v _=>v=.bl true) fun _ _ _=>False)
  (hCX:∀ H e s',CX [] H s₁ (fun _ _ _=>False) e s'->False) :
  codeAny (model P w) callerA (.call (.ref fa) ⟨[.ref a],[]⟩) (fun r s'=>r=.ok (.ret (.bool true))/\OldK s₁.heap s'.heap/\s'.os=s₁.os/\AllBare s'.gens) s₁:=by
 have rv:=ZeX hi;have lenV:=hi.length;have core:∀ H:Hp,Only H->SqL K H a (ns.map V.int)->HOk P w H s₁.heap->(∀ b,H b≠none->b=a)->(H a≠none->K.lookup a=none) ->
   codeAny (model P w) callerA (.call (.ref fa) ⟨[.ref a],[]⟩) (fun r s'=>r=.ok (.ret (.bool true))/\OldK s₁.heap s'.heap/\s'.os=s₁.os/\AllBare s'.gens) s₁:=by
  intro H hO hS hok hA hK;have base_of:∀ {b:Addr}{o:Obj},s₁.heap.get? b=some o->H b=none->(hidT s₁.heap H).get? b=some o:=fun e n=>ZlB e n;have noA:∀ {b:Addr}{o:Obj}{es:Array DictEntry}{ep:Nat},s₁.heap.get? b=some o->o.data=.dict es ep->H b=none:=fun {b o es ep} e d=>by
   cases q:H b with
   | none=>rfl
   | some u=>
    have e':b=a:=hA b (by rw[q];simp);subst e';rw[ha] at e;cases e;have d':Data.seq vs.toArray _=Data.dict es ep:=d;cases d'
  have nsK:∀ {b:Addr}{m:Str->Option Value},s₁.heap.Ns b m->(hidT s₁.heap H).Ns b m:=fun {b m} ⟨o,es,ep,e,d,r⟩=>⟨o,es,ep,base_of e (noA e d),d,r⟩
  have hKb:K.In (hidT s₁.heap H):=fun b o e=>base_of (KX b o e) (by
   cases q:H b with
   | none=>rfl
   | some u=>
    have e':b=a:=hA b (by rw[q];simp);subst e';rw[hK (by rw[q];simp)] at e;cases e)
  have hM:Mod K mg (hidT s₁.heap H):=⟨hKb,nsK hns,⟨mb,nsK hb,hbb⟩,let ⟨mc,h1,h2⟩:=hlim;⟨mc,nsK h1,h2⟩⟩
  have e0:Env0 P w K mg (hidT s₁.heap H) callerA [] s₁ H:=⟨rfl,hM,fun b o e=>Znb e,Nat.le_of_eq (ZjV _ _),trivial,fun b hb=>absurd (show b∈([]:List Addr) from hb) (by simp),hok,.of_eq hg⟩
  refine codeAny_mono ((F _ hKb (nsK hns)).run callerA [] s₁ H ⟨[.ref a],[]⟩ [.ref a] [.ref a] _ _ hr e0 (hbind s₁ (.ref a)) (.cons rfl .nil) (hsp H hO hS)) fun r s' h=>?_
  cases r with
  | error e=>exact (hCX H e s' h).elim
  | ok fl=>
   cases fl with
   | next=>exact YcA h
   | brk=>exact YcA h
   | cont=>exact YcA h
   | ret u=>
    obtain⟨v,H',os,bare,un,hok',r',q⟩:=h;have q':v=.bl true:=q;subst q';obtain rfl:u=Yez true:=r';refine⟨rfl,OldK.of_keep fun b o e=>?_,os,bare⟩
    cases q:H b with
    | none=>exact un.keep b o e q (by intro z;exact absurd (show b∈([]:List Addr) from z) (by simp)) (by simp)
    | some u=>
     rcases hO b with z | ⟨ob,xs,z⟩
     ·rw[q] at z;cases z
     ·have z2:=un.frzs b ob _ z;obtain⟨e1,_⟩:=hok b _ z;obtain⟨e2,_⟩:=hok' b _ z2;rw[e] at e1;cases e1;exact e2
 cases hk:K.lookup a with
 | some o=>
  have e:=KX a o hk;rw[ha] at e;cases e;refine core (fun _=>none) (fun _=>.inl rfl) (.inr ⟨_,vs.toArray,_,hk,rfl,rfl,rfl,by rw[YaC,lenV];exact hl,by simpa using rv⟩) (fun b u z=>by have z':(none:Option HO)=some u:=z;cases z') (fun b z=>absurd rfl z) fun z=>absurd rfl z
 | none=>
  refine core (fun b=>if b=a then some (.frz { cls:=.type "list",data:=.seq vs.toArray } (.lst (ns.map V.int))) else none) (fun b=>?_) (.inl (.inr ⟨{ cls:=.type "list",data:=.seq vs.toArray },if_pos rfl⟩)) (fun b u z=>?_) (fun b z=>?_) fun _=>hk
  ·by_cases hb:b=a
   ·exact .inr ⟨_,_,if_pos hb⟩
   ·exact .inl (if_neg hb)
  ·by_cases hb:b=a
   ·have z':=(if_pos hb).symm.trans z;cases z';subst hb;exact⟨ha,by rw[Yac];exact hl,vs,_,rv,ha⟩
   ·have z':=(if_neg hb).symm.trans z;cases z'
  ·by_cases hb:b=a
   ·exact hb
   ·exact absurd (if_neg hb) z
end L2
namespace L2
open PySem PySem.Spec PyProof.Rows
theorem walk_of {l:YdV}{n k:Nat}{q:Program}{loose:List Str}{XP:(Str->Option Value)->Heap->Prop}{YP:World->Heap->Prop}{d:DefRec}{K:Params->Yae}{CX:World->CXT}{sp:World->Sp}{x:Str}
  (hn:l.most=some n) (hn2:n<=sizeLine) (hdf:d.params.defaults=[]) (hr:Room k callerA)
  (hY:∀ (w:World) (h:Heap),YP w h->(K w.params).In h)
  (F:∀ (w:World) (mg:Str->Option Value) (fa:Addr) (h:Heap),(K w.params).In h->h.Ns mainGlobals mg->mg d.name=some (.ref fa) ->
   ∃ fd:FuncData,(∀ (s:Shared) (u:Value),BindsTo s fd ⟨[u],[]⟩ [(x,u)]) /\
    ∀ base:Heap,(K w.params).In base->base.Ns mainGlobals mg->FnOk l.prog w (K w.params) mg base (CX w) k fa fd [x] (sp w))
  (hsp:∀ (w:World) (H:Hp) (a:Addr) (ns:List Int),ns.length<=n->Only H->SqL (K w.params) H a (ns.map V.int)->sp w [.ref a] H (fun v _=>v=.bl true) fun _ _ _=>False)
  (hCX:∀ (w:World) (H:Hp) (s:Shared) (e:Value) (s':Shared),CX w [] H s (fun _ _ _=>False) e s'->False) :
  YfE q loose XP YP l.row.toRowW d [] (fun f vs=>Yfn f vs):=by
 refine Att.attach_call hn hdf fun w s₀ s₁ mg mb fa o pm cd doc a vs ns G Y ho hd hcd hmg hobj hints hlen hg=>?_;have KX:=hY w _ Y;obtain⟨fd,hb,hF⟩:=F w mg fa _ KX G.T.g hmg;exact Zly KX G.T.g G.T.b G.T.builtins G.T.nolimit hg hobj hints (Ybv hlen hn2) hr hF hb (fun H hO hS=>hsp w H a ns hlen hO hS) fun H e s'=>hCX w H s₁ e s'
end L2
namespace L2
open PySem PySem.Spec PyProof.Rows
def Zak (s:Stmt):Arguments:=match s with
 | .FunctionDef _ a _ _ _ _ _ _ _ _=>a
 | _=>{ posonlyargs:=[],args:=[],vararg:=none,kwonlyargs:=[],kw_defaults:=[],kwarg:=none,defaults:=[] }
def Zai (s:Stmt):List Stmt:=match s with
 | .FunctionDef _ _ b _ _ _ _ _ _ _=>b
 | _=>[]
def Zac (s:Stmt):Scope:=match s with
 | .FunctionDef _ _ _ _ _ _ sc _ _ _=>sc
 | _=>{ kind:=.function,names:=[],isGenerator:=false,isCoroutine:=false }
abbrev CX0:CXT:=fun _ _ _ _ _ _=>False
abbrev E0:XK:=fun _ _ _=>False
theorem Zm0 {X:Cx}:Zkz CX0 X E0:=fun _ _ _ _ _ _ _ h=>h.elim
structure Fun (K:Yae) (x qual:Str) (st:Stmt) (f:Addr) (fd:FuncData):Prop where
 ex:∃ (oc:Value) (od:Option Addr) (kV doc pm:Value) (an:Option Addr) (cdv ct:Value) (osl:Array (Option Value)),
  fd=YaB x qual (Zak st) (Zai st) (Zac st) .none kV doc pm an cdv ct/\K.lookup f=some ⟨oc,od,.func fd,osl⟩/\Yav K cdv qual=true
 kp:Yan K (.ref f)=true
section
variable {P:Program}{w:World}{K:Yae}{mg:Str->Option Value}{base:Heap}
theorem Fun.ok {x qual:Str}{st:Stmt}{f:Addr}{fd:FuncData}{N ps:List Str}{k:Nat}{sp:Sp} (F:Fun K x qual st f fd) (S:FnScope N ps (Zac st)) (len:∀ vs H Q E,sp vs H Q E->vs.length=ps.length)
  (hbody:∀ (cdv:Value) (A:Around) (outer:List Env) (s:Shared) (H:Hp) (vs:List V) (Q:VK) (E:XK),Room k (A.deeper (envOfC qual (Zac st) s.heap.objs.size f cdv))->sp vs H Q E ->
   ∃ t,PSs (cxOf CX0 P w K mg base N qual (Zac st) f cdv A outer s H E).nox (Zai st) t/\t { nx:=fun _ H'=>Q .non H',rt:=Q } (start N vs) H):FnOk P w K mg base CX0 (k+1) f fd ps sp:=by
 obtain⟨oc,od,kV,doc,pm,an,cdv,ct,osl,rfl,lk,hcd⟩:=F.ex;refine Zou lk hcd S len fun A outer s H vs Q E hr hsp=>?_;obtain⟨t,h,q⟩:=hbody cdv A outer s H vs Q E hr hsp;exact⟨t,h.nox,q⟩
theorem Fun.binds {x qual:Str}{st:Stmt}{f:Addr}{fd:FuncData}{ps:List Str} (F:Fun K x qual st f fd)
  (h:∀ (kV doc pm:Value) (an:Option Addr) (cdv ct:Value) (us:List Value),us.length=ps.length->bindArgs (YaB x qual (Zak st) (Zai st) (Zac st) .none kV doc pm an cdv ct) ⟨us,[]⟩=pure (ps.zip us)):Binds K fd ps []:=by
 obtain⟨oc,od,kV,doc,pm,an,cdv,ct,osl,rfl,lk,hcd⟩:=F.ex;exact .all (h kV doc pm an cdv ct)
theorem Zaw {x qual:Str}{st:Stmt}{f:Addr}{oc:Value}{od an:Option Addr}{osl:Array (Option Value)}{kV doc pm cdv ct:Value} (l:K.lookup f=some ⟨oc,od,.func (YaB x qual (Zak st) (Zai st) (Zac st) .none kV doc pm an cdv ct),osl⟩)
  (c:Yav K cdv qual=true) (k:Yan K (.ref f)=true):Fun K x qual st f (YaB x qual (Zak st) (Zai st) (Zac st) .none kV doc pm an cdv ct):=⟨⟨oc,od,kV,doc,pm,an,cdv,ct,osl,rfl,l,c⟩,k⟩
end
theorem Zpa {A:Around}{k:Nat} (hr:Room k A):A.units+1<cLine:=Yce (Yc2 (by decide:1<=64) _) hr.units
theorem Zau {n:Nat} (h:n<=1000):n<sizeLine:=Yce h (by decide)
section
variable {X:Cx}
theorem pv (i:Nat) {x:Str}{pos:Pos} (hN:X.N[i]?=some x:=by rfl) (hv:Vis X.env.scope x:=by first | exact YaJ rfl | exact Ydb (YaJ rfl) | exact Ydb (Ydb rfl)) (hd:(x == ("__debug__":Str))=false:=by decide)
  (hcd:(x == ("__classdict__":Str))=false:=by decide):PE X (.Name x pos) (tVar i):=Zl5 hN hv hd hcd
end
theorem iteF {A B:Prop} (h:B):if false=true then A else B:=by
 rw[if_neg YaV];exact h
theorem iteT {A B:Prop} (h:A):if true=true then A else B:=by
 rw[if_pos rfl];exact h
theorem ite2 {c A B:Prop} [Decidable c] (h1:c->A) (h2:¬ c->B):if c then A else B:=by
 by_cases h:c
 ·rw[if_pos h];exact h1 h
 ·rw[if_neg h];exact h2 h
def Same (H H':Hp):Prop:=∀ b o,H b=some o->H' b=some o
theorem Same.refl (H:Hp):Same H H:=fun _ _ h=>h
theorem Same.trans {H H1 H2:Hp} (a:Same H H1) (b:Same H1 H2):Same H H2:=fun c o h=>b c o (a c o h)
theorem Same.free {H H':Hp} (e:Same H H') {l:Addr} (h:H' l=Option.none):H l=Option.none:=by
 cases q:H l with
 | none=>rfl
 | some o=>
  rw[e l o q] at h;cases h
theorem Same.seq {K:Yae}{H H':Hp}{a:Addr}{xs:List V} (e:Same H H') (h:SqL K H a xs):SqL K H' a xs:=by
 rcases h with (h | ⟨o,h⟩) | h
 ·exact .inl (.inl (e _ _ h))
 ·exact .inl (.inr ⟨o,e _ _ h⟩)
 ·exact .inr h
end L2
set_option maxHeartbeats 4000000
namespace L2
open PySem PySem.Spec PyProof.Rows
def ZbH (env:Env):List (Str × NameKind)->List (Str × Addr)->List (Str × Addr)
 | [],cs=>cs
 | (n,k)::r,cs=>ZbH env r (if k == .free then (n,(env.cells.lookup n).getD 0)::cs else cs)
abbrev clOf (scope:Scope) (env:Env):List (Str × Addr):=ZbH env scope.names []
theorem Zcu {env:Env}:∀ (names:List (Str × NameKind)) (cs:List (Str × Addr)),(∀ x∈names,x.2=.free->∃ c,env.cells.lookup x.1=some c) ->
  (forIn names cs fun (x:Str × NameKind) r=>do
   if x.2 == .free then
    let c <- cellOf env x.1
    pure (Ybh ((x.1,c)::r))
   else pure (Ybh r):Sem (List (Str × Addr)))=pure (ZbH env names cs)
 | [],cs,_=>rfl
 | (n,k)::r,cs,h=>by
  rw[Yef];have ih:=fun cs'=>Zcu (env:=env) r cs' fun x hx=>h x (Yar _ hx);by_cases hk:k=.free
  ·subst hk;obtain⟨c,hc⟩:=h (n,.free) Yaq rfl;have hc':env.cells.lookup n=some c:=hc;have ec:cellOf env n=pure c:=by unfold cellOf;rw[hc']
   dsimp only;rw[if_pos (by rfl),ec];show (forIn r ((n,c)::cs) _:Sem _)=_;rw[ih]
   conv=>rhs;unfold ZbH
   rw[if_pos (by rfl),hc'];rfl
  ·have hb:(k == Yb5)=false:=by simpa using hk
   dsimp only;rw[if_neg (by rw[hb];decide)];show (forIn r cs _:Sem _)=_;rw[ih]
   conv=>rhs;unfold ZbH
   rw[if_neg (by rw[hb];decide)]
theorem ZbT {scope:Scope}{env:Env} (h:∀ x∈scope.names,x.2=.free->∃ c,env.cells.lookup x.1=some c):closureFor scope env=pure (clOf scope env):=by
 unfold closureFor;have e:=Zcu (env:=env) scope.names [] h;simp only[bind_pure];exact e
theorem ZfF {env:Env}{x:Str}{c:Addr}:∀ (names:List (Str × NameKind)) (cs:List (Str × Addr)),(ZbH env names cs).lookup x=some c->((x,Yb5)∈names/\c=(env.cells.lookup x).getD 0)∨cs.lookup x=some c
 | [],_,h=>.inr h
 | (n,k)::r,cs,h=>by
  unfold ZbH at h;rcases ZfF r _ h with ⟨h1,h2⟩ | h1
  ·exact .inl ⟨Yar _ h1,h2⟩
  ·by_cases hk:k=.free
   ·subst hk;rw[if_pos (by rfl),YbJ] at h1
    cases e:x == n with
    | true=>
     rw[e] at h1;have en:x=n:=eq_of_beq e;subst en;exact .inl ⟨Yaq,(YaE h1).symm⟩
    | false=>rw[e] at h1;exact .inr h1
   ·have hb:(k == Yb5)=false:=by simpa using hk
    rw[if_neg (by rw[hb];decide)] at h1;exact .inr h1
theorem Zkn {env:Env}{x:Str}:∀ (names:List (Str × NameKind)) (cs:List (Str × Addr)),(∃ c,cs.lookup x=some c)->∃ c,(ZbH env names cs).lookup x=some c
 | [],_,h=>h
 | (n,k)::r,cs,h=>by
  unfold ZbH;refine Zkn r _ ?_;split
  ·rw[YbJ];split
   ·exact⟨_,rfl⟩
   ·exact h
  ·exact h
theorem Zhn {env:Env}{x:Str}:∀ (names:List (Str × NameKind)) (cs:List (Str × Addr)),(x,Yb5)∈names->∃ c,(ZbH env names cs).lookup x=some c
 | [],_,h=>by simp at h
 | (n,k)::r,cs,h=>by
  unfold ZbH;rcases Yao.mp h with e | h
  ·cases e;refine Zkn r _ ?_;rw[if_pos (by rfl),YbJ];exact⟨(env.cells.lookup x).getD 0,by simp⟩
  ·exact Zhn r _ h
theorem ZhJ {scope:Scope}{env:Env}{x:Str} (hcell:∀ y∈scope.names,y.2≠.cell) (h:(relabel scope env).names.lookup x=some .cell∨(relabel scope env).names.lookup x=some .free):(x,Yb5)∈scope.names:=by
 have hm:∃ k,(x,k)∈(relabel scope env).names/\(k=.cell∨k=.free):=by
  rcases h with h | h
  ·exact⟨_,YbD h,.inl rfl⟩
  ·exact⟨_,YbD h,.inr rfl⟩
 obtain⟨k,hm,hk⟩:=hm;obtain⟨⟨n,k'⟩,h1,h2⟩:=YaG.mp hm;dsimp only at h2;split at h2
 ·rename_i hc;have:k'=.free:=by
   simp only[YcS,beq_iff_eq] at hc;exact hc.1.1
  cases h2;subst this;exact h1
 ·cases h2;rcases hk with rfl | rfl
  ·exact absurd rfl (hcell _ h1)
  ·exact h1
theorem ZbD {env:Env}{x:Str}:∀ {names:List (Str × NameKind)},names.lookup x=some .free ->
  (names.map fun (n,k)=>if (k == Yb5 && env.scope.kind == .function && env.kindOf n == some .cell) then (n,Yfz) else (n,k)).lookup x=some .cell ∨
  (names.map fun (n,k)=>if (k == Yb5 && env.scope.kind == .function && env.kindOf n == some .cell) then (n,Yfz) else (n,k)).lookup x=some .free
 | [],h=>by simp at h
 | (n,k)::r,h=>by
  have ih:=@ZbD env x r;rw[YaH];dsimp only
  cases hx:x == n with
  | true=>
   simp only[YbJ,hx] at h;cases h;split
   ·left;simp[YbJ,hx]
   ·right;simp[YbJ,hx]
  | false=>
   simp only[YbJ,hx] at h;split
   ·simp only[YbJ,hx];exact ih h
   ·simp only[YbJ,hx];exact ih h
section
variable {prog:Program}{w:World}{A:Around}{R:Result->Shared->Prop}{s:Shared}
theorem Zce {elt target iter:Expr}{ifs:List Expr}{scope:Scope}{pos:Pos}{it acc:Value}{env:Env} (I:Nat->Shared->Prop)
  (turn:∀ n s,I n s->wpAny (model prog w) A (pyNext it) (fun r s₁=>match r with
   | none=>R (.ok .next) s₁
   | some v=>wpAny (model prog w) A (letOwnedTupleGo target it v) (fun _ s₁'=>wpAny (model prog w) A (assign target env v) (fun _ s₂=>
     wpAny (model prog w) A (forIn ifs true fun c r=>if r=true then do let ok <- isTrue c env (eval c env);pure (Ybh ok) else pure (Ybh r)) (fun ok s₃=>
      if ok=true then wpAny (model prog w) A (eval elt env) (fun x s₄=>
       wpAny (model prog w) A (call (.builtin "list.append") [acc,x]) (fun _ s₅=>∃ m,m<n/\I m s₅) (fun _ _=>False) s₄) (fun _ _=>False) s₃
      else ∃ m,m<n/\I m s₃) (fun _ _=>False) s₂) (fun _ _=>False) s₁') (fun _ _=>False) s₁) (fun _ _=>False) s)
  (n:Nat) (h:I n s) :
  codeAny (model prog w) A (.compLoop (.ListComp elt [⟨target,iter,ifs,0⟩] scope pos) 0 it acc env) R s:=by
 refine codeAny_loop rfl I (fun n s hI=>?_) n h;show wpAny _ A ((compTurn (.ListComp elt [⟨target,iter,ifs,0⟩] scope pos) 0 it acc env).onRaise (fun x=>do noteFrame x env;theTreesLotGoes x)) _ _ s;refine wpAny_noted ?_;rw[compTurn_list];refine wpAny_bind (wpAny_standAt (wpAny_bind (wpAny_mono (turn n s hI) (fun r s₁ h₁=>?_) fun _ _ h'=>h'.elim)))
 cases r with
 | none=>exact wpAny_pure h₁
 | some v=>
  refine wpAny_bind (wpAny_mono h₁ (fun _ s₁' h₁=>?_) fun _ _ h'=>h'.elim);refine wpAny_bind (wpAny_mono h₁ (fun _ s₂ h₂=>wpAny_bind (wpAny_mono h₂ (fun ok s₃ h₃=>?_) fun _ _ h'=>h'.elim)) fun _ _ h'=>h'.elim)
  cases ok with
  | false=>exact wpAny_pure ⟨rfl,h₃⟩
  | true=>
   exact wpAny_bind (wpAny_bind (wpAny_mono h₃ (fun x s₄ h₄=>wpAny_bind (wpAny_mono h₄ (fun _ s₅ h₅=>wpAny_pure (wpAny_pure ⟨rfl,h₅⟩)) fun _ _ h'=>h'.elim)) fun _ _ h'=>h'.elim))
end
def PTs (X:Cx) (ifs:List Expr) (t:TT):Prop :=
 ∀ (pins:List (Addr × Obj)) (s:Shared) (σ:St) (H:Hp) (Q:Bool->Hp->Prop),Inv X pins σ H s->t σ H Q ->
  wpAny (model X.prog X.w) X.A (forIn ifs true fun c r=>if r=true then do let ok <- isTrue c X.env (eval c X.env);pure (Ybh ok) else pure (Ybh r)) (TP X pins σ Q) X.xe s
def ZcZ:TT:=fun _ H Q=>Q true H
theorem ZaM {X:Cx}:PTs X [] ZcZ:=fun _ _ _ H _ I h=>wpAny_tests_nil ⟨H,I,h⟩
def Cx.blk (X:Cx) (scope:Scope) (own:List Str) (js:List Nat) (s₂:Shared) (H₂:Hp) (C:Addr) (fp:List Addr) (pins:List (Addr × Obj)):Cx where
 prog:=X.prog
 w:=X.w
 K:=X.K
 mg:=X.mg
 base:=X.base
 A:=X.A
 N:=own++js.map fun j=>X.N.getD j YcZ
 s₀:=s₂
 H₀:=H₂
 env:=compEnvC scope (clOf scope X.env) C X.env
 outer:=X.stack
 stack:=X.stack
 ex:=fp
 fn:=fun _=>false
 calm:=X.calm
 pn:=X.pn++pins
 xe:=fun _ _=>False
def blkσ (own:List Str) (js:List Nat) (σ:St):St:=own.map (fun _=>none)++js.map fun j=>(σ[j]?).join
section
variable {X:Cx}{pins:List (Addr × Obj)}{σ:St}{H H':Hp}{s s':Shared}{scope:Scope}{own:List Str}{js:List Nat}{C:Addr}{fp:List Addr}
structure CompOk (X:Cx) (scope:Scope) (own:List Str) (js:List Nat):Prop where
 kind:scope.kind=.function
 cell:∀ y∈scope.names,y.2≠.cell
 free:∀ y∈scope.names,y.2=.free->X.env.kindOf y.1=some .cell∨X.env.kindOf y.1=some .free
 names:∀ y∈scope.names,y.2=.local -> scope.names.lookup y.1=some .local
 out:∀ j∈js,∃ x,X.N[j]?=some x/\scope.names.lookup x=some .free
theorem CompOk.cl (c:CompOk X scope own js) (I:Inv X pins σ H s):∀ x∈scope.names,x.2=.free->∃ c,X.env.cells.lookup x.1=some c:=fun x hx hf=>I.ok.has x.1 (c.free x hx hf)
theorem CompOk.look (c:CompOk X scope own js) (I:Inv X pins σ H s) {x:Str}{a:Addr} (h:(clOf scope X.env).lookup x=some a):X.env.cells.lookup x=some a:=by
 rcases ZfF _ _ h with ⟨h1,h2⟩ | h1
 ·obtain⟨c',e⟩:=c.cl I (x,.free) h1 rfl;have e':X.env.cells.lookup x=some c':=e;rw[e'] at h2 ⊢;subst h2;rfl
 ·simp at h1
theorem Zmj (c:CompOk X scope own js) (I:Inv X pins σ H s) (hC:s.heap.objs.size<=C) (hf:∀ b∈fp,FpOk X pins H b) (ho:∀ b∈fp,∃ o,s.heap.get? b=some o):(X.blk scope own js s H C fp pins).Ok where
 mod:=I.ok.mod
 kind:=c.kind
 glob:=I.ok.glob
 blt:=I.ok.blt
 above:=hC
 inj:=fun x y a h1 h2=>I.ok.inj x y a (c.look I h1) (c.look I h2)
 has:=fun x hx=>Zhn _ _ (ZhJ c.cell hx)
 cab:=fun x a h=>by cases h
 hd:=I.ok.hd
 frames:=I.ok.frames
 stk:=.inl rfl
 exf:=fun b hb=>by
  obtain⟨o,e⟩:=ho b hb;exact⟨Yaw (Yal (Yah e) hC),fun x a h=>(hf b hb).2.2.2.2.1 x a (c.look I h)⟩
 bs:=I.bs
 bsz:=Ybv I.ok.bsz I.sz
 noex:=fun b o e hb=>by
  rcases (hf b hb).2.2.2.1 with z | z
  ·exact I.ok.noex b o e z
  ·exact absurd (Yal (Yah e) (Ybv I.ok.bsz z)) (Ya7 _)
 exfs:=fun b hb hm=>by
  rcases Yao.mp (I.stkSub b hm) with z | z
  ·exact (hf b hb).2.1 z
  ·exact (hf b hb).2.2.1 z
 funs:=I.stack
 frf:=I.stkFree
theorem Zds (own:List Str) (js:List Nat) (σ:St) (X:Cx):(blkσ own js σ).length=(own++js.map fun j=>X.N.getD j YcZ).length:=by
 unfold blkσ;simp
theorem ZfH {acc:Addr}{m:Str->Option Value}{tk:Nat}{h':Heap} (c:CompOk X scope own js) (I:Inv X pins σ H s) (hC:s.heap.objs.size<=C) (hf:∀ b∈fp,FpOk X pins H b) (ho:∀ b∈fp,∃ o,s.heap.get? b=some o)
  (hn:h'.Ns C m) (k:∀ b u,s.heap.get? b=some u->h'.get? b=some u) (hacc:s.heap.objs.size<=acc) (haC:acc≠C) (hl:h'.get? acc=some { cls:=.type "list",data:=.seq ([]:List Value).toArray 0 }) :
  Inv (X.blk scope own js s H C fp pins) [] (blkσ own js σ) (upd H acc (.lst [])) { s with heap:=h',toks:=tk }:=by
 have ok:=Zmj c I hC hf ho;have fresh:∀ {a:Addr},s.heap.objs.size<=a->H a=none:=fun h=>I.hok.fresh h;have neA:∀ b o,s.heap.get? b=some o->b≠acc:=fun b o e=>Yaw (Yal (Yah e) hacc);refine⟨ok,rfl,I.bare,Un.laid k hacc (fresh hacc),⟨m,hn,fun i x v e1 e2 e3=>?_⟩,fun x a e=>?_,?_,fun x a e=>?_,fun p hp=>?_,I.hok.laid k hacc ⟨YaW _,[],0,.nil,hl⟩,Zds own js σ X⟩
 ·
  have hi:own.length<=i:=by
   refine Yd6 fun hi=>?_;unfold blkσ at e2;rw[YaL (by simpa using hi),Yam] at e2
   cases q:own[i]? with
   | none=>rw[q] at e2;cases e2
   | some z=>rw[q] at e2;cases e2
  have e1':(js.map fun j=>X.N.getD j YcZ)[i - own.length]?=some x:=by
   have e1:(own++js.map fun j=>X.N.getD j YcZ)[i]?=some x:=e1
   rwa [YaI hi] at e1
  have e2':(js.map fun j=>(σ[j]?).join)[i - own.length]?=some (some v):=by
   unfold blkσ at e2;rw[YaI (by simpa using hi)] at e2;simpa using e2
  rw[Yam] at e1' e2'
  cases q:js[i - own.length]? with
  | none=>rw[q] at e1';cases e1'
  | some j=>
   rw[q] at e1' e2';obtain⟨x',hx',hfree⟩:=c.out j (Yau q);have ex:x'=x:=by
    have:X.N.getD j YcZ=x:=YaE e1';rw[Yat,hx'] at this;exact this
   subst ex;have eσ:σ[j]?=some (some v):=by
    have e2'':(σ[j]?).join=some v:=YaE e2'
    cases r:σ[j]? with
    | none=>rw[r] at e2'';cases e2''
    | some z=>rw[r] at e2'';cases z with
     | none=>cases e2''
     | some y=>cases e2'';rfl
   have hmem:(x',Yb5)∈scope.names:=YbD hfree;have hkX:=c.free _ hmem rfl;have vis:Vis X.env.scope x':=by
    rcases hkX with z | z
    ·exact .inr (.inl z)
    ·exact .inr (.inr z)
   obtain⟨m0,hn0,hl0⟩:=I.loc;obtain⟨u,r,l⟩:=hl0 j x' v hx' eσ vis;refine⟨u,r,.inr ⟨ZbD hfree,?_⟩⟩;obtain⟨a,ha⟩:=Zhn (env:=X.env) scope.names [] hmem;refine⟨a,ha,?_⟩;have haX:=c.look I ha;rcases l with ⟨z,_⟩ | ⟨_,a',ha',⟨o,ho',hd⟩⟩
   ·have z:X.env.kindOf x'=some .local:=z;rcases hkX with y | y
    ·have y:X.env.kindOf x'=some .cell:=y;rw[z] at y;cases y
    ·have y:X.env.kindOf x'=some .free:=y;rw[z] at y;cases y
   ·rw[haX] at ha';cases ha';exact⟨o,k _ o ho',hd⟩
 ·obtain⟨v,o,ho',hd⟩:=I.cell x a (c.look I e);exact⟨v,o,k _ o ho',hd⟩
 ·show upd H acc (.lst []) C=none;rw[Zaf (Ybq haC)];exact fresh hC
 ·have e':=c.look I e;obtain⟨v,o,ho',hd⟩:=I.cell x a e';rw[Zaf (neA a o ho')];exact I.freeC x a e'
 ·have hp:p∈X.pn++pins:=by simpa[Cx.blk] using hp
  obtain⟨e,n,ne,nf,d⟩:=I.pin p hp;refine⟨k _ _ e,by rw[Zaf (neA _ _ e)];exact n,Yaw (Yal (Yah e) hC),fun z=>?_,d⟩;rcases Yao.mp (I.stkSub _ z) with q | q
  ·exact ne q
  ·exact nf q
theorem Zgu {τ:St}{pl:List (Addr × Obj)} (I:Inv X pins σ H s) (hf:∀ b∈fp,FpOk X pins H b) (J:Inv (X.blk scope own js s H C fp pins) pl τ H' s'):Inv X pins σ H' s' :=
 I.call' J.os J.base J.hok J.bare fun b hb=>⟨(hf b hb).2.2.2.1,(hf b hb).2.1,(hf b hb).2.2.2.2.1,(hf b hb).2.2.2.2.2⟩
theorem Inv.other {h':Heap} (I:Inv X pins σ H s) (hs:Yck C s.heap h') (hn:H C=none) (hL:C≠X.env.locals) (h1:X.s₀.heap.objs.size<=C) (h2:∀ x c,X.env.cells.lookup x=some c->c≠C) (h3:∀ p∈X.pn++pins,p.1≠C) :
  Inv X pins σ H { s with heap:=h' } :=
 I.turned (t':=s.toks) (fun b o hb e=>(hs.2 b hb).trans e) hn hL (.inr h1) h2 h3
end
def ZfM (own:List Str) (g:TG):Prop:=∀ (js:List Nat) (σ:St) (x:V) (H:Hp) (Q:St->Hp->Prop),g x (blkσ own js σ) H Q ->
 g x (blkσ own js σ) H fun τ H'=>(∀ (j:Nat) v,(blkσ own js σ)[j]?=some (some v)->τ[j]?=some (some v))/\Q τ H'
theorem Za3 {own:List Str}{js:List Nat}{σ:St}{i:Nat}{v:V} (hi:i<own.length):(blkσ own js σ)[i]?≠some (some v):=by
 unfold blkσ;rw[YaL (by simpa using hi),Yam]
 cases own[i]? with
 | none=>intro h;cases h
 | some z=>intro h;cases h
theorem ZaB {own:List Str}{i:Nat} (hi:i<own.length:=by decide):ZfM own (Zbw i):=fun js σ x H Q h=>⟨fun j v e=>by
 have hj:j≠i:=by rintro rfl;exact Za3 hi e
 rw[Ya5 (Ybq hj)];exact e,h⟩
theorem Zfv {K:Yae}{own:List Str}{i k:Nat} (hi:i<own.length:=by decide) (hk:k<own.length:=by decide):ZfM own (gTup K 2 (Zdl (Zbw i) (Zdl (Zbw k) gNil))):=fun js σ x H Q h=>by
 obtain⟨a,xs,rfl,hq,hl,v,r,rfl,w,r',rfl,e,h⟩:=h;refine⟨a,_,rfl,hq,hl,v,_,rfl,w,r',rfl,e,fun j z e=>?_,h⟩;have hj:j≠i:=by rintro rfl;exact Za3 hi e
 have hj':j≠k:=by rintro rfl;exact Za3 hk e
 rw[Ya5 (Ybq hj'),Ya5 (Ybq hj)];exact e
def Zbp (own:List Str) (js:List Nat) (g:TG) (tt:TT) (te:TE) (σ:St) (J:It) (H1:Hp) (Q:VK):Prop :=
 ∀ acc,H1 acc=none->∃ (W:Nat->Hp->Prop) (n:Nat),W 0 (upd H1 acc (.lst []))/\∀ i H2,W i H2 ->
  (J.stop i H2/\Q (.ref acc) H2)∨(i<n/\J.go i H2/\∀ x H3,J.yld i H2 x H3->g x (blkσ own js σ) H3 fun τ H4=>tt τ H4 fun c H5=>
   if c=true then te τ H5 fun y H6=>∃ ys,H6 acc=some (.lst ys)/\ys.length<sizeLine/\W (i+1) (upd H6 acc (.lst (ys++[y]))) else W (i+1) H5)
def ZnR (own:List Str) (js:List Nat) (wi:TI) (g:TG) (tt:TT) (te:TE):TE:=fun σ H Q=>wi σ H fun J H1=>Zbp own js g tt te σ J H1 Q
section
variable {X:Cx}{scope:Scope}{own:List Str}{js:List Nat}{elt iter target:Expr}{ifs:List Expr}{wi:TI}{g:TG}{tt:TT}{te:TE}{pos:Pos}
theorem Zku {pins:List (Addr × Obj)}{σ:St}{H2:Hp}{s₂:Shared}{it:Addr}{fp:List Addr}{tn:Nat->Heap->Prop}{J:It}{Q:VK}{E:Value->Shared->Prop}{RR:Value->Addr->Result->Shared->Prop}
  (c:CompOk X scope own js) (hc:X.calm=true) (hgk:ZfM own g)
  (hg:∀ s H C fp pins,PG (X.blk scope own js s H C fp pins) target g) (ht:∀ s H C fp pins,PTs (X.blk scope own js s H C fp pins) ifs tt) (he:∀ s H C fp pins,PE (X.blk scope own js s H C fp pins) elt te)
  (I:Inv X pins σ H2 s₂) (T:Turn X.prog X.w X.K target J fp it tn) (st:tn 0 s₂.heap) (hf:∀ b∈fp,FpOk X pins H2 b) (h:Zbp own js g tt te σ J H2 Q)
  (hRR:∀ acc C H' s' m,s₂.heap.objs.size<=C->H' C=none->Inv X pins σ H' s'->s'.heap.Ns C m->Q (.ref acc) H'->RR (.ref acc) C (.ok .next) s') :
  wpAny (model X.prog X.w) X.A (newList []) (fun acc s₃=>wpAny (model X.prog X.w) X.A (newFunctionEnv scope X.env.globals (clOf scope X.env) [] X.env.qual none .none (some X.env)) (fun cenv s₄=>
   codeAny (model X.prog X.w) X.A (.compStart (.ListComp elt [⟨target,iter,ifs,0⟩] scope pos) 0 (.ref it) acc { cenv with scope:=relabel scope X.env }) (RR acc cenv.locals) s₄) E s₃) E s₂:=by
 refine wpAny_newObj_type (wpAny_newFunctionEnv c.cell (by intro y hy;simp at hy) (fun h₁ hns₁ hsb₁=>?_) c.kind);dsimp only at hns₁ hsb₁ ⊢;generalize hH2:s₂.heap.push { cls:=.type "list",dict:=none,data:=.seq ([]:List Value).toArray }=G2 at hns₁ hsb₁ ⊢;have hC:G2.objs.size=s₂.heap.objs.size+1:=by rw[<- hH2,YaY]
 have hDC:s₂.heap.objs.size≠G2.objs.size:=by rw[hC];exact Yaw (Ybs _)
 have hCle:s₂.heap.objs.size<=G2.objs.size:=by rw[hC];exact Ydm _
 have old:∀ b o,s₂.heap.get? b=some o->h₁.get? b=some o:=fun b o e=>hsb₁.extBut b o (Yaw (Yal (Yah e) hCle)) (Yab _ (hH2 ▸ Yab _ e));have hacc:h₁.get? s₂.heap.objs.size=some { cls:=.type "list",data:=.seq ([]:List Value).toArray 0 }:=hsb₁.extBut _ _ hDC (Yab _ (hH2 ▸ Yas _ rfl));have ho2:∀ b∈fp,∃ o,s₂.heap.get? b=some o:=fun b hb=>let ⟨o,e,_⟩:=T.obj 0 _ st b hb;⟨o,e⟩
 have I0:∀ tk,Inv (X.blk scope own js s₂ H2 G2.objs.size fp pins) [] (blkσ own js σ) (upd H2 s₂.heap.objs.size (.lst [])) { s₂ with heap:=h₁,toks:=tk }:=fun tk=>
  ZfH c I hCle hf ho2 hns₁ old (Yag _) hDC hacc
 obtain⟨W,nn,w0,turn⟩:=h s₂.heap.objs.size (I.hok.fresh (Yag _));generalize hacc':s₂.heap.objs.size=acc at *;generalize hGC:G2.objs.size=C at *;have st1:tn 0 h₁:=T.keep 0 _ _ st fun b _ o e=>old b o e;have fOk:∀ {H':Hp},(∀ b∈fp,H' b=none)->∀ b∈fp,FpOk (X.blk scope own js s₂ H2 C fp pins) [] H' b:=fun hn b hb=>by
  obtain⟨f0,f1,f2,f3,f4,f5⟩:=hf b hb;obtain⟨o,e⟩:=ho2 b hb;refine⟨hn b hb,Yaw (Yal (Yah e) (by rw[<- hacc'] at hCle;exact hCle)),fun z=>?_,.inl hb,fun x a h=>f4 x a (c.look I h),fun p hp=>f5 p (by simpa[Cx.blk] using hp)⟩;rcases Yao.mp (I.stkSub b z) with q | q
  ·exact f1 q
  ·exact f2 q
 have loop:∀ s₃:Shared,s₃={ s₂ with heap:=h₁,toks:=s₂.toks+([]:List (Str × Value)).length } ->
   codeAny (model X.prog X.w) X.A (.compLoop (.ListComp elt [⟨target,iter,ifs,0⟩] scope pos) 0 (.ref it) (.ref acc) (compEnvC scope (clOf scope X.env) C X.env)) (RR (.ref acc) C) s₃:=by
  rintro s₃ rfl;refine Zce (fun n s'=>∃ i H',n=nn - i/\Inv (X.blk scope own js s₂ H2 C fp pins) [] (blkσ own js σ) H' s'/\tn i s'.heap/\(∀ b∈fp,H' b=none)/\W i H') ?_ nn ⟨0,_,rfl,I0 _,st1,fun b hb=>?_,w0⟩
  ·rintro n s3 ⟨i,H3,en,I3,st3,fr3,w3⟩;rcases turn i H3 w3 with ⟨stop,qn⟩ | ⟨hin,go,step⟩
   ·refine thn (T.done (X.blk scope own js s₂ H2 C fp pins) rfl rfl rfl hc i [] s3 _ H3 (fun _ _=>False) I3 (fOk fr3) st3 stop) fun r s4 ⟨hr,I4⟩=>?_;subst hr;obtain⟨m,hn,_⟩:=I4.loc;exact hRR acc C H3 s4 m hCle I4.free (Zgu I hf I4) hn qn
   ·refine thn (T.item (X.blk scope own js s₂ H2 C fp pins) rfl rfl rfl hc i [] s3 _ H3 (fun _ _=>False) I3 (fOk fr3) st3 go) fun r s4 ⟨u,hr,h4⟩=>?_;subst hr;refine thn h4 fun _ s5 ⟨x,H5,I5,r5,y5,st5,fr5⟩=>?_;have I5':=I5.pinned (fOk fr5) (T.obj _ _ st5);have again:∀ {σ7:St}{H7:Hp}{s7:Shared},Inv (X.blk scope own js s₂ H2 C fp pins) ([]++ZcN fp s5.heap) σ7 H7 s7->(∀ (j:Nat) v,(blkσ own js σ)[j]?=some (some v)->σ7[j]?=some (some v))->W (i+1) H7 ->
      ∃ m,m<n/\∃ i H',m=nn - i/\Inv (X.blk scope own js s₂ H2 C fp pins) [] (blkσ own js σ) H' s7/\tn i s7.heap/\(∀ b∈fp,H' b=none)/\W i H':=fun {σ7 H7 s7} I7 hw w7=>by
     refine⟨nn - (i+1),by omega,i+1,H7,rfl,(I7.unpinned).weak ((Zds own js σ X).trans I7.len.symm) hw,T.keep _ _ _ st5 fun b hb o e=>(I7.pin (b,o) (YaA _ (YaA _ (ZaL hb e)))).1,fun b hb=>?_,w7⟩;obtain⟨o,e,d⟩:=T.obj _ _ st5 b hb;exact (I7.pin (b,o) (YaA _ (YaA _ (ZaL hb e)))).2.1
    refine thn (hg s₂ H2 C fp pins _ s5 _ H5 x u _ I5' r5 (hgk _ _ _ _ _ (step x H5 y5))) fun _ s6 ⟨σ6,H6,I6,kp,q6⟩=>?_;refine thn (ht s₂ H2 C fp pins _ s6 σ6 H6 _ I6 q6) fun ok s7 ⟨H7,I7,q7⟩=>?_
    cases ok with
    | false=>
     exact again I7 kp q7
    | true=>
     refine thn (he s₂ H2 C fp pins _ s7 σ6 H7 _ I7 q7) fun y s8 ⟨v,H8,I8,r8,ys,hl,hz,w8⟩=>?_;refine thn (Zbl (X:=X.blk scope own js s₂ H2 C fp pins) _ s8 σ6 H8 (.ref acc) [v] (.ref acc) [y] (fun _ H9=>W (i+1) H9) I8 rfl (.cons r8 .nil) ⟨acc,ys,v,rfl,rfl,hl,hz,w8⟩) fun _ s9 ⟨_,H9,I9,_,w9⟩=>?_;exact again I9 kp w9
  ·rw[Zaf ?_]
   ·exact (hf b hb).1
   ·obtain⟨o,e⟩:=ho2 b hb;rw[<- hacc'];exact Yaw (Yah e)
 exact codeAny_compStart_list (loop _ rfl) (T.self _ 0 _ _ _ st1 (loop _ rfl))
theorem Za0 (c:CompOk X scope own js) (hc:X.calm=true) (hi:PI X target iter wi) (hgk:ZfM own g)
  (hg:∀ s H C fp pins,PG (X.blk scope own js s H C fp pins) target g) (ht:∀ s H C fp pins,PTs (X.blk scope own js s H C fp pins) ifs tt) (he:∀ s H C fp pins,PE (X.blk scope own js s H C fp pins) elt te)
  (hs:∀ x,foldedSetIterable iter X.env x=pure x:=by intro _;rfl):PE X (.ListComp elt [⟨target,iter,ifs,0⟩] scope pos) (ZnR own js wi g tt te):=by
 intro pins s σ H Q I h;rw[eval_ListComp];refine wpAny_comprehension_free (use:=none) rfl hs (ZbT (c.cl I)) c.kind c.names (thn (hi pins s σ H _ I h) fun v s1 h1=>thn h1 fun itv s2 h2=>?_);obtain⟨it,fp,tn,J,H2,e,I2,T,st2,f2,hw⟩:=h2;subst e;refine Zku (RR:=fun acc C=>compPost (model X.prog X.w) X.A X.xe none (EP X pins σ Q) acc C) c hc hgk hg ht he I2 T st2 f2 hw ?_;intro acc C H' s' m hCs hCn I' hn q;refine⟨m,hn,fun h' hs'=>⟨.ref acc,H',I'.other hs' hCn ?_ ?_ ?_ ?_,rfl,q⟩⟩
 ·exact YbA (Yal I2.lt hCs)
 ·exact Ybv I2.sz hCs
 ·intro x a e z;obtain⟨v,q⟩:=I2.cell x a e;exact absurd (Yal q.lt (by rw[z];exact hCs)) (Ya7 _)
 ·intro p hp z;exact absurd (Yal (Yah (I2.pin p hp).1) (by rw[z];exact hCs)) (Ya7 _)
theorem ZmT {i:Nat}{y:Str}{py spos:Pos} (hN:X.N.Nodup) (hy:X.N[i]?=some y) (hyl:X.env.scope.names.lookup y=some .local) (c:CompOk X scope own js) (hc:X.calm=true) (hi:PI X target iter wi) (hgk:ZfM own g)
  (hg:∀ s H C fp pins,PG (X.blk scope own js s H C fp pins) target g) (ht:∀ s H C fp pins,PTs (X.blk scope own js s H C fp pins) ifs tt) (he:∀ s H C fp pins,PE (X.blk scope own js s H C fp pins) elt te)
  (hsw:swapsWith (.ListComp elt [⟨target,iter,ifs,0⟩] scope pos) (some (.Name y py)) spos.line X.env=pure true:=by rfl)
  (hs:∀ x,foldedSetIterable iter X.env x=pure x:=by intro _;rfl):PS X (.Assign [.Name y py] (.ListComp elt [⟨target,iter,ifs,0⟩] scope pos) spos) (tAsg (ZnR own js wi g tt te) (Zbw i)):=by
 intro pins s σ H D I h;rw[exec_Assign_Name_used _ _ _ _ hsw];refine wpAny_bind (wpAny_standAt (wpAny_bind ?_));show wpAny _ X.A (do let _ <- comprehension (.ListComp elt [⟨target,iter,ifs,0⟩] scope pos) scope X.env _ (newList []) false (eval iter X.env) (some (assign (.Name y py) X.env))) _ _ s;refine wpAny_bind (wpAny_mono (wpAny_comprehension_free (use:=some (assign (.Name y py) X.env)) (Q:=fun _ s'=>SP X pins D .next s') rfl hs (ZbT (c.cl I)) c.kind c.names
  (thn (hi pins s σ H _ I h) fun v s1 h1=>thn h1 fun itv s2 h2=>?_)) (fun _ s' hq=>wpAny_pure (wpAny_pure hq)) fun _ _ e=>e)
 obtain⟨it,fp,tn,J,H2,e,I2,T,st2,f2,hw⟩:=h2;subst e;refine Zku (Q:=fun x H1=>Zbw i x σ H1 D.nx) (RR:=fun acc C=>compPost (model X.prog X.w) X.A X.xe (some (assign (.Name y py) X.env)) (fun _ s'=>SP X pins D .next s') acc C) c hc hgk hg ht he I2 T st2 f2 hw ?_;intro acc C H' s' m hCs hCn I' hn q;have hL:C≠X.env.locals:=YbA (Yal I2.lt hCs);have hcell:∀ x a,X.env.cells.lookup x=some a->a≠C:=by
  intro x a e z;obtain⟨v,q⟩:=I2.cell x a e;exact absurd (Yal q.lt (by rw[z];exact hCs)) (Ya7 _)
 refine wpAny_assign_Name (Zc0 I' hN hy (.inl hyl) (v:=.ref acc) rfl (fun s2 I'' hch=>?_) (.inr hyl));obtain⟨a,sb,ha⟩:=hch;have hCa:C≠a:=by
  rcases ha with rfl | ha
  ·exact hL
  ·exact Ybq (hcell _ _ ha)
 refine⟨m,hn.sameBut sb hCa,fun h' hs'=>⟨_,H',I''.other hs' hCn hL (Ybv I2.sz hCs) hcell ?_,q⟩⟩;intro p hp z;exact absurd (Yal (Yah (I2.pin p hp).1) (by rw[z];exact hCs)) (Ya7 _)
end
section
variable {K:Yae}{own:List Str}{js:List Nat}{g:TG}{tt:TT}{te:TE}{σ:St}{H1:Hp}{Q:VK}
theorem Zki {a:Addr}{xs:List V} (Pv:Addr->Nat->Hp->Prop) (h0:∀ acc,H1 acc=none->Pv acc 0 (upd H1 acc (.lst []))) (hl:∀ acc i H,H1 acc=none->i<=xs.length->Pv acc i H->SqL K H a xs)
  (hs:∀ acc i x H,H1 acc=none->xs[i]?=some x->Pv acc i H->g x (blkσ own js σ) H fun τ H4=>tt τ H4 fun c H5=>
   if c=true then te τ H5 fun y H6=>∃ ys,H6 acc=some (.lst ys)/\ys.length<sizeLine/\(i+1<=xs.length/\Pv acc (i+1) (upd H6 acc (.lst (ys++[y])))) else (i+1<=xs.length/\Pv acc (i+1) H5))
  (hd:∀ acc H,H1 acc=none->Pv acc xs.length H->Q (.ref acc) H):Zbp own js g tt te σ (Itl K a) H1 Q:=by
 intro acc hacc;refine⟨fun i H=>i<=xs.length/\Pv acc i H,xs.length,⟨YaW _,h0 acc hacc⟩,?_⟩;rintro i H ⟨hi,p⟩;have q:=hl acc i H hacc hi p;by_cases hlt:i<xs.length
 ·refine .inr ⟨hlt,⟨xs,xs[i],q,by simp[hlt]⟩,fun x H' y=>?_⟩;obtain⟨e,y⟩:=y;subst e;exact hs acc i x _ hacc (y xs q) p
 ·have e:i=xs.length:=by omega
  subst e;exact .inl ⟨⟨xs,q,Yag _⟩,hd acc H hacc p⟩
theorem ZbS {lo:Int}{n:Nat} (Pv:Addr->Nat->Hp->Prop) (h0:∀ acc,H1 acc=none->Pv acc 0 (upd H1 acc (.lst [])))
  (hs:∀ acc i H,H1 acc=none->i<n->Pv acc i H->g (.int (lo+i)) (blkσ own js σ) H fun τ H4=>tt τ H4 fun c H5=>
   if c=true then te τ H5 fun y H6=>∃ ys,H6 acc=some (.lst ys)/\ys.length<sizeLine/\(i+1<=n/\Pv acc (i+1) (upd H6 acc (.lst (ys++[y])))) else (i+1<=n/\Pv acc (i+1) H5))
  (hd:∀ acc H,H1 acc=none->Pv acc n H->Q (.ref acc) H):Zbp own js g tt te σ (Itr lo n) H1 Q:=by
 intro acc hacc;refine⟨fun i H=>i<=n/\Pv acc i H,n,⟨YaW _,h0 acc hacc⟩,?_⟩;rintro i H ⟨hi,p⟩;by_cases hlt:i<n
 ·refine .inr ⟨hlt,hlt,fun x H' y=>?_⟩;obtain⟨e,y⟩:=y;subst e y;exact hs acc i _ hacc hlt p
 ·have e:i=n:=by omega
  subst e;exact .inl ⟨Yag _,hd acc H hacc p⟩
end
def Zkj (scope sc:Scope) (js:List Nat) (N:List Str):Bool :=
 (scope.kind == .function) && (scope.names.all fun y=>(y.2 != .cell) && ((y.2 != .free) || (sc.names.lookup y.1 == some .cell) || (sc.names.lookup y.1 == some .free)) && ((y.2 != .local) || (scope.names.lookup y.1 == some .local))) &&
 (js.all fun j=>match N[j]? with | some x=>scope.names.lookup x == some .free | none=>false)
theorem CompOk.by {X:Cx}{scope sc:Scope}{own N:List Str}{js:List Nat} (hX:X.env.scope=sc) (hN:X.N=N) (h:Zkj scope sc js N=true):CompOk X scope own js:=by
 unfold Zkj at h;simp only[YcS,beq_iff_eq,Ycv,Yej,bne_iff_ne,ne_eq] at h;obtain⟨⟨h1,h2⟩,h3⟩:=h;refine⟨h1,fun y hy=>(h2 y hy).1.1,fun y hy hf=>?_,fun y hy hl=>?_,fun j hj=>?_⟩
 ·show X.env.scope.names.lookup y.1=_∨X.env.scope.names.lookup y.1=_;rw[hX];rcases (h2 y hy).1.2 with (z | z) | z
  ·exact absurd hf z
  ·exact .inl z
  ·exact .inr z
 ·rcases (h2 y hy).2 with z | z
  ·exact absurd hl z
  ·exact z
 ·have:=h3 j hj;rw[hN]
  cases e:N[j]? with
  | none=>rw[e] at this;cases this
  | some x=>rw[e] at this;exact⟨x,rfl,by simpa using this⟩
end L2
namespace L2
open PySem PySem.Spec PyProof.Rows PySem.SeqAt
section
variable {X:Cx}
theorem Vals.bl_get {bs:List Bool}{us:List Value} (r:Vals (bs.map V.bl) us) {i:Nat}{v:Value} (e:us[i]?=some v):∃ b,bs[i]?=some b/\v=.bool b:=by
 cases q:(bs.map V.bl)[i]? with
 | none=>
  have:=r.none_of q;rw[e] at this;cases this
 | some x=>
  obtain⟨u,h1,h2⟩:=r.get q;rw[e] at h1;cases h1;rw[Yam] at q
  cases z:bs[i]? with
  | none=>rw[z] at q;cases q
  | some b=>rw[z] at q;cases q;exact⟨b,rfl,h2⟩
theorem ZiN {bs:List Bool}:(YaT bs.length).all (fun i=>bs.getD i true)=bs.all id:=by
 rw[YcF,Ycv,Ycv];constructor
 ·intro h b hb;obtain⟨i,hi,e⟩:=Ybu hb;have:=h i (Ybg.mpr hi);simpa[Yat,hi,e] using this
 ·intro h i hi;have hi':=Ybg.mp hi;have:=h bs[i] (Ybw hi');simpa[Yat,hi'] using this
theorem ZlK (hc:X.calm=true):ZbK X (.builtin "all") (fun xs H Q=>∃ (a:Addr) (bs:List Bool),xs=[.ref a]/\SqL X.K H a (bs.map V.bl)/\Q (.bl (bs.all id)) H):=by
 intro pins s σ H xs us Q I r h;obtain⟨a,bs,rfl,hq,q⟩:=h;obtain⟨u,rfl,r1⟩:=ZcR r;cases r1;obtain⟨its,rv,p,hz⟩:=I.list hq;refine call_all_walk (wpAny_pyIter_list p.isList ?_);have hlt:=(let ⟨o,n,e,_⟩:=p;Yah e:a<s.heap.objs.size)
 have hne:a≠s.heap.objs.size:=Yaw hlt;have hlen:its.toArray.size=bs.length:=by rw[YaC,<- rv.length,Yac]
 refine⟨s.heap.objs.size,_,_,_,_,_,fun i=>bs.getD i true,rfl,Yey (A:=X.A.in1) (I.ok.hd hc) _ a hne its.toArray,⟨⟨_,Yas _ rfl,rfl,rfl⟩,?_⟩,?_,?_⟩
 ·obtain⟨o,n,e,c,_,d⟩:=p;exact⟨o,Yab _ e,c,n,d⟩
 ·intro i v s' Q' E' hP hQ;have hP':its[i]?=some v:=by simpa using hP
  obtain⟨b,hb,rfl⟩:=rv.bl_get hP';refine wpAny_truthy_bool ?_;dsimp only at hQ;rw[Yat,hb] at hQ;exact hQ
 ·intro h' tk k;rw[hlen,ZiN];refine⟨.bl (bs.all id),H,I.kept (h':=h') (t':=tk) fun b o e=>k b o ?_ (Yab _ e),rfl,q⟩;intro hm;have:b=s.heap.objs.size:=by simpa using hm
  rw[this] at e;exact absurd (Yah e) (Ya7 _)
theorem Vals.int_at {ns:List Int}{us:List Value} (r:Vals (ns.map V.int) us) {i:Nat} (h:i<ns.length):∃ t,us[i]?=some (.int ns[i] t):=by
 have q:(ns.map V.int)[i]?=some (V.int ns[i]):=by rw[Yam,Yaa h];rfl
 obtain⟨u,h1,t,rfl⟩:=r.get q;exact⟨t,h1⟩
theorem ZkX:∀ {ns ms:List Int},ns.length=ms.length->((YaT ns.length).all fun i=>ns.getD i 0 == ms.getD i 0)=decide (ns=ms):=fun {ns ms} h=>by
 rw[YcF,Ycv,decide_eq_true_iff];constructor
 ·intro q;refine Ybr h fun i h1 h2=>?_;have:=q i (Ybg.mpr h1);simpa[Yat,h1,h2] using this
 ·rintro rfl i hi;simp
theorem Zdk {ns:List Int}{its:List Value} (r:Vals (ns.map V.int) its) {j:Nat} (h:j<its.toArray.size):∃ t,its.toArray[j]=.int (ns.getD j 0) t:=by
 have hj:j<ns.length:=by rw[YaC,<- r.length,Yac] at h;exact h
 obtain⟨t,q⟩:=r.int_at hj;obtain⟨_,q'⟩:=Yad.mp q;exact⟨t,by simpa[Yat,hj] using q'⟩
end
end L2
namespace L2
open PySem PySem.Spec PyProof.Rows PySem.SeqAt
section
variable {prog:Program}{w:World}{A:Around}{R:Result->Shared->Prop}{I:Addr}{fp wr:List Addr}{n:Nat}{P:Nat->Value->Prop}{St:Nat->Heap->Prop}
end
section
variable {X:Cx}
end
end L2
namespace L2
open PySem PySem.Spec PyProof.Rows PySem.SeqAt
def Ite (K:Yae) (a:Addr):It :=
 ⟨fun i H=>∃ xs x,SqL K H a xs/\xs[i]?=some x,fun i H y H'=>∃ p x,H p=none/\y=.ref p/\H'=upd H p (.tup [.int i,x])/\∀ xs,SqL K H a xs->xs[i]?=some x,fun i H=>∃ xs,SqL K H a xs/\xs.length<=i⟩
theorem Zim {P:Program}{w:World}{K:Yae}{es:List Expr}{x1}{pos:Pos} (a it e:Addr) (hne:e≠it):Turn P w K (.Tuple es x1 pos) (Ite K a) [e,it] e (fun i h=>(∃ old,IsEnum h e it (i:Nat) old)/\h.IsListIter it a i) where
 mem:=by simp
 obj:=fun i h st b hb=>by
  obtain⟨⟨old,s1⟩,s2⟩:=st;rcases Yao.mp hb with z | z
  ·subst z;exact⟨_,s1,fun v z=>nomatch z⟩
  ·have z:b=it:=by simpa using z
   subst z;obtain⟨o,e,c,d⟩:=s2;exact⟨o,e,fun v z=>by rw[d] at z;cases z⟩
 keep:=fun i h h' st k=>by
  obtain⟨⟨old,s1⟩,s2⟩:=st;exact⟨⟨old,k e (by simp) _ s1⟩,s2.at fun o q=>k it (by simp) o q⟩
 item:=by
  intro X hP hw hK hc i pins s σ H E I hf st hg;subst hP hw hK;obtain⟨xs,x,hq,hx⟩:=hg;obtain⟨its,rv,p,hz⟩:=I.list hq;obtain⟨u,hu,ru⟩:=rv.get hx;obtain⟨⟨old,s1⟩,s2⟩:=st;refine wpAny_pyNext_enum_item s1 s2 p.isList (x:=u) (by simpa using hu) hne fun h' ho hit ht hsz hk=>?_;refine⟨_,rfl,?_⟩;refine wpAny_letOwnedTupleGo_enum ho fun h'' he hs=>?_;have fresh:H s.heap.objs.size=none:=I.hok.fresh (Yag _);have k:∀ b o,b ∉ [e,it]->s.heap.get? b=some o->h''.get? b=some o:=fun b o hb q=>by
   have hb':b≠e/\b≠it:=by simpa using hb
   exact (hs.2 b hb'.1).trans (hk b o hb'.1 hb'.2 q)
  have nE:∀ b∈[e,it],H b=none:=fun b hb=>(hf b hb).1
  have nit:∀ b u,H b=some u->b ∉ [e,it]:=fun b u q z=>by rw[nE b z] at q;cases q
  have hpe:s.heap.objs.size≠e:=YbA (Yah s1);have htup:h''.get? s.heap.objs.size=some { cls:=.type "tuple",data:=.seq #[.int i s.toks,u] }:=(hs.2 _ hpe).trans ht;have newOk:ObjOk X.prog X.w (upd H s.heap.objs.size (.tup [.int i,x])) h'' s.heap.objs.size (.tup [.int i,x]):=by
   refine⟨?_,[.int i s.toks,u],.cons ⟨_,rfl⟩ (.cons ru .nil),⟨_,htup,rfl,rfl,0,rfl⟩⟩;show 2<=sizeLine
   decide
  have I1:Inv X pins σ (upd H s.heap.objs.size (.tup [.int i,x])) { s with heap:=h'',toks:=s.toks+1 }:=by
   refine I.step (g':=s.gens) (d':=s.drawn) (ch:=[e,it]) (fun b hb=>?_) (fun b o _ _ hc q _=>k b o hc q) (fun b o _ _ hc q _=>⟨o.slots,k b o hc q⟩) (fun b o _ q n=>?_) (fun b o hc q=>⟨o,k b o hc q⟩)
    (fun b xs q=>by rw[Zaf (Zag q fresh)];exact q) (fun b o xs q=>by rw[Zaf (Zag q fresh)];exact q) (fun b ps q=>⟨#[],by rw[Zaf (Zag q fresh),q];simp⟩) (fun m hm=>?_) (fun b ob q=>?_) I.bare
   ·obtain⟨f0,f1,f2,f3,f4,f5⟩:=hf b hb;exact⟨f3,f1,f4,f5⟩
   ·rw[Zaf (Yaw (Yah q))];exact n
   ·obtain⟨o,es,ep,ho,r⟩:=hm;refine⟨o,es,ep,k _ o (fun z=>?_) ho,r⟩;exact (hf _ z).2.1 rfl
   ·by_cases hb:b=s.heap.objs.size
    ·subst hb;rw[Zab] at q;cases q;exact newOk
    ·rw[Zaf hb] at q;refine (I.hok b ob q).stay (fun c v hc r=>k c v ?_ r) (fun c r=>by rw[Zaf (Zag r fresh)];exact r) fun c xs r=>by rw[Zaf (Zag r fresh)];exact r
     rcases hc with z | z
     ·rw[z];exact nit b ob q
     ·exact nit c _ z
  refine⟨.ref s.heap.objs.size,_,I1,rfl,⟨s.heap.objs.size,x,fresh,rfl,rfl,fun ys hy=>by rw[I.list_inj hy hq];exact hx⟩,⟨⟨u,?_⟩,?_⟩,fun b hb=>?_⟩
  ·have he:IsEnum h'' e it ((i:Int)+1) u:=he;show IsEnum h'' e it ((i+1:Nat):Int) u;rw[show ((i+1:Nat):Int)=(i:Int)+1 by omega];exact he
  ·exact hit.extBut hs.extBut (Ybq hne)
  ·have lt:b<s.heap.objs.size:=by
    rcases Yao.mp hb with z | z
    ·rw[z];exact Yah s1
    ·have z:b=it:=by simpa using z
     rw[z];obtain⟨o,q,_⟩:=s2;exact Yah q
   rw[Zaf (Yaw lt)];exact nE b hb
 done:=by
  intro X hP hw hK hc i pins s σ H E I hf st hg;subst hP hw hK;obtain⟨xs,hq,hx⟩:=hg;obtain⟨its,rv,p,hz⟩:=I.list hq;obtain⟨⟨old,s1⟩,s2⟩:=st;obtain⟨f0,f1,f2,f3,f4,f5⟩:=hf it (by simp);have hl:=rv.length;exact wpAny_pyNext_enum_end (I.ok.hd hc) s1 s2 p.isList (by simp;omega) fun h' eb=>⟨rfl,I.turned (t':=s.toks) (fun b o hb q=>eb b o hb q) f0 f1 f3 f4 f5⟩
 self:=fun _ _ _ _ _ st h=>by
  obtain⟨⟨old,s1⟩,_⟩:=st;exact wpAny_pyIter_enum s1 h
section
variable {X:Cx}
theorem Zcf:ZbK X (.builtin "isinstance") (fun xs H Q=>∃ x T t b,xs=[x,.ty T]/\TyOf X.K H x t/\Yc0 X.K t (.type T)=some b/\Q (.bl b) H):=by
 intro pins s σ H xs us Q I r h;obtain⟨x,T,t,b,rfl,ty,e,q⟩:=h;obtain⟨u,u2,rfl,r1,r2⟩:=ZkE r;cases r2;exact ZjS I r1 ty e fun tk=>⟨.bl b,H,I.tok _,rfl,q⟩
end
end L2
namespace L2
open PySem PySem.Spec PyProof.Rows
section
variable {κ:Type} [DecidableEq κ]
def valV (kvs:List (κ × V)) (k:κ):Option V:=(kvs.find? fun kv=>decide (kv.1=k)).map (·.2)
def putK (kvs:List (κ × V)) (k:κ) (v:V):List (κ × V) :=
 if (kvs.any fun kv=>decide (kv.1=k))=true then kvs.map (fun kv=>if kv.1=k then (kv.1,v) else kv) else kvs++[(k,v)]
theorem ZaV {p:κ × V}{r:List (κ × V)}{k:κ} (e:p.1=k):valV (p::r) k=some p.2:=by simp[valV,YcD,e]
theorem ZaW {p:κ × V}{r:List (κ × V)}{k:κ} (e:¬ p.1=k):valV (p::r) k=valV r k:=by simp[valV,YcD,e]
theorem ZbL (k:κ):∀ kvs:List (κ × V),(kvs.any fun kv=>decide (kv.1=k))=(valV kvs k).isSome
 | []=>rfl
 | p::r=>by
  rw[YeP];by_cases e:p.1=k
  ·simp only[ZaV e,decide_eq_true e,Bool.true_or,Option.isSome_some]
  ·rw[ZaW e,decide_eq_false e,Bool.false_or];exact ZbL k r
theorem Zgz (k j:κ) (y:V):∀ kvs:List (κ × V),valV (kvs.map fun kv=>if kv.1=k then (kv.1,y) else kv) j=(valV kvs j).map fun x=>if j=k then y else x
 | []=>rfl
 | p::r=>by
  have ih:=Zgz k j y r;rw[YaH];by_cases h:p.1=k
  ·rw[if_pos h];by_cases e:p.1=j
   ·rw[ZaV (p:=(p.1,y)) e,ZaV e,YcB,if_pos (e.symm.trans h)]
   ·rw[ZaW (p:=(p.1,y)) e,ZaW e,ih]
  ·rw[if_neg h];by_cases e:p.1=j
   ·rw[ZaV (p:=p) e,ZaV e,YcB,if_neg (fun z=>h (e.trans z))]
   ·rw[ZaW (p:=p) e,ZaW e,ih]
theorem ZeY (k j:κ) (y:V):∀ kvs:List (κ × V),valV kvs k=none->valV (kvs++[(k,y)]) j=if j=k then some y else valV kvs j
 | [],_=>by
  by_cases e:k=j
  ·rw[if_pos e.symm];exact ZaV (p:=(k,y)) e
  ·rw[if_neg (fun z=>e z.symm)];exact ZaW (p:=(k,y)) e
 | p::r,hn=>by
  rw[YcR];have hk:¬ p.1=k:=fun z=>by rw[ZaV z] at hn;cases hn
  rw[ZaW hk] at hn;have ih:=ZeY k j y r hn;by_cases e:p.1=j
  ·rw[ZaV e,ZaV e,if_neg (fun z=>hk (e.trans z))]
  ·rw[ZaW e,ZaW e,ih]
theorem ZkF (kvs:List (κ × V)) (k j:κ) (y:V):valV (putK kvs k y) j=if j=k then some y else valV kvs j:=by
 unfold putK;by_cases a:(kvs.any fun kv=>decide (kv.1=k))=true
 ·rw[if_pos a,Zgz];rw[ZbL] at a;by_cases e:j=k
  ·obtain⟨x,hx⟩:=Yer.mp a;rw[if_pos e,e,hx,YcB,if_pos rfl]
  ·rw[if_neg e]
   cases valV kvs j with
   | none=>rfl
   | some x=>rw[YcB,if_neg e]
 ·rw[if_neg a];refine ZeY k j y kvs ?_;rw[ZbL] at a
  cases q:valV kvs k with
  | none=>rfl
  | some x=>rw[q] at a;exact (a rfl).elim
theorem Zbv (kvs:List (κ × V)) (k:κ) (v:V):(putK kvs k v).length<=kvs.length+1:=by
 unfold putK;split
 ·rw[Yac];omega
 ·rw[Yak,YaU,Ydw];omega
theorem RelO.isSome_eq {o:Option V}{u:Option Value} (r:RelO o u):o.isSome=u.isSome:=by
 cases o with
 | none=>cases u with
  | none=>rfl
  | some _=>exact (show False from r).elim
 | some _=>cases u with
  | none=>exact (show False from r).elim
  | some _=>rfl
theorem RelO.getD {o:Option V}{u:Option Value}{d:V}{d':Value} (r:RelO o u) (rd:RelV d d'):RelV (o.getD d) (u.getD d'):=by
 cases o with
 | none=>cases u with
  | none=>exact rd
  | some _=>exact (show False from r).elim
 | some _=>cases u with
  | none=>exact (show False from r).elim
  | some _=>exact r
theorem KV.val {kvs:List (κ × V)}{vs:List (κ × Value)} (r:KV kvs vs) (k:κ):RelO (valV kvs k) (valueAt vs k):=by
 unfold KV at r
 induction r with
 | nil=>exact YbX
 | @cons p q ps qs h t ih=>
  obtain⟨h1,h2⟩:=h;by_cases e:p.1=k
  ·have e':q.1=k:=h1.symm.trans e;have b:valueAt (q::qs) k=some q.2:=by simp[valueAt,YcD,e']
   rw[ZaV e,b];exact h2
  ·have e':¬ q.1=k:=fun z=>e (h1.trans z);have b:valueAt (q::qs) k=valueAt qs k:=by simp[valueAt,YcD,e']
   rw[ZaW e,b];exact ih
theorem KV.any {kvs:List (κ × V)}{vs:List (κ × Value)} (r:KV kvs vs) (k:κ):(kvs.any fun kv=>decide (kv.1=k))=vs.any fun kv=>decide (kv.1=k):=by
 unfold KV at r
 induction r with
 | nil=>rfl
 | cons h t ih=>rw[YeP,YeP,ih,h.1]
theorem KV.repl {kvs:List (κ × V)}{vs:List (κ × Value)} (r:KV kvs vs) (k:κ) {y:V}{u:Value} (ry:RelV y u) :
  KV (kvs.map fun kv=>if kv.1=k then (kv.1,y) else kv) (vs.map fun kv=>if kv.1=k then (kv.1,u) else kv):=by
 unfold KV at r ⊢
 induction r with
 | nil=>exact .nil
 | @cons p q ps qs h t ih=>
  rw[YaH,YaH];refine .cons ?_ ih;obtain⟨h1,h2⟩:=h;by_cases e:p.1=k
  ·rw[if_pos e,if_pos (h1.symm.trans e)];exact⟨h1,ry⟩
  ·rw[if_neg e,if_neg (fun z=>e (h1.trans z))];exact⟨h1,h2⟩
theorem KV.put {kvs:List (κ × V)}{vs:List (κ × Value)} (r:KV kvs vs) (k:κ) {y:V}{u:Value} (ry:RelV y u):KV (putK kvs k y) (stored vs k u):=by
 unfold putK stored;rw[r.any k];by_cases e:(vs.any fun kv=>decide (kv.1=k))=true
 ·rw[if_pos e,if_pos e];exact r.repl k ry
 ·rw[if_neg e,if_neg e];exact Paired.snoc r ⟨rfl,ry⟩
theorem KV.length {kvs:List (κ × V)}{vs:List (κ × Value)} (r:KV kvs vs):kvs.length=vs.length:=YeD r
end
theorem ZjL {P:Program}{w:World}{k:Key}{u:Value} (r:RelV (kV k) u):(ZaD P w).is k u=true:=by
 cases k with
 | inl i=>obtain⟨t,e⟩:=(show ∃ t,u=Yd1 i t from r);subst e;exact Zge P w i t
 | inr x=>obtain⟨t,e⟩:=(show ∃ t,u=YeR x t from r);subst e;exact Zgd P w x t
theorem Zfr {P:Program}{w:World}:∀ {ks:List Key}{us:List Value},Vals (ks.map kV) us->ItemsAre (ZaD P w) ks us
 | [],_,r=>by rw[Yb9] at r;cases r;exact .nil
 | k::ks,_,r=>by
  rw[YaH] at r
  cases r with
  | cons h t=>exact .cons (ZjL h) (Zfr t)
abbrev KT (H:Hp):List (List Key × V)->List (List Key × Addr × Value)->Prop:=Paired fun p q=>p.1=q.1/\H q.2.1=some (.tup (p.1.map kV))/\RelV p.2 q.2.2
theorem KT.val {H:Hp}{kvs:List (List Key × V)}{xs:List (List Key × Addr × Value)} (r:KT H kvs xs) (k:List Key):RelO (valV kvs k) ((atKey xs k).map (·.2)):=by
 induction r with
 | nil=>exact YbX
 | @cons p q ps qs h t ih=>
  obtain⟨h1,_,h2⟩:=h;by_cases e:p.1=k
  ·have e':q.1=k:=h1.symm.trans e;have b:atKey (q::qs) k=some q.2:=by simp[atKey,YcD,e']
   rw[ZaV e,b];exact h2
  ·have e':¬ q.1=k:=fun z=>e (h1.trans z);have b:atKey (q::qs) k=atKey qs k:=by simp[atKey,YcD,e']
   rw[ZaW e,b];exact ih
theorem KT.repl {H:Hp}{kvs:List (List Key × V)}{xs:List (List Key × Addr × Value)} (r:KT H kvs xs) (k:List Key) {y:V}{u:Value} (ry:RelV y u) :
  KT H (kvs.map fun kv=>if kv.1=k then (kv.1,y) else kv) (xs.map (putAt k u)):=by
 induction r with
 | nil=>exact .nil
 | @cons p q ps qs h t ih=>
  rw[YaH,YaH];refine .cons ?_ ih;obtain⟨h1,h2,h3⟩:=h;unfold putAt;by_cases e:p.1=k
  ·rw[if_pos e,if_pos (h1.symm.trans e)];exact⟨h1,h2,ry⟩
  ·rw[if_neg e,if_neg (fun z=>e (h1.trans z))];exact⟨h1,h2,h3⟩
theorem KT.put {H:Hp}{kvs:List (List Key × V)}{xs:List (List Key × Addr × Value)} (r:KT H kvs xs) (k:List Key) {b:Addr}{y:V}{u:Value} (hb:H b=some (.tup (k.map kV))) (ry:RelV y u) :
  KT H (putK kvs k y) (storedH xs k b u):=by
 have e:(kvs.any fun kv=>decide (kv.1=k))=(atKey xs k).isSome:=by
  rw[ZbL,(r.val k).isSome_eq,Option.isSome_map]
 unfold putK storedH;rw[e];by_cases q:(atKey xs k).isSome=true
 ·rw[if_pos q,if_pos q];exact r.repl k ry
 ·rw[if_neg q,if_neg q];exact Paired.snoc r ⟨rfl,hb,ry⟩
theorem KT.keeps {H H':Hp}{kvs:List (List Key × V)}{xs:List (List Key × Addr × Value)} (r:KT H kvs xs) (ht:∀ b ys,H b=some (.tup ys)->H' b=some (.tup ys)):KT H' kvs xs :=
 Paired.mapP r fun _ _ z=>⟨z.1,ht _ _ z.2.1,z.2.2⟩
section
variable {P:Program}{w:World}{H:Hp}{h:Heap}{a:Addr}
theorem Zn5 {u:HO} (ok:HOk P w H h) (e:Rd H a u):ObjOk P w H h a u:=e.ok ok
theorem Zh7 {kvs:List (Key × V)} (ok:HOk P w H h) (e:Rd H a (.dK kvs)):kvs.length<=sizeLine/\(a == sysModules)=false/\∃ vs,KV kvs vs/\h.DictOf (ZaD P w) a vs :=
 show ObjOk P w H h a (.dK kvs) from Zn5 ok e
theorem Znx {kvs:List (Key × V)} (ok:HOk P w H h) (e:H a=some (.dK kvs)):kvs.length<=sizeLine/\(a == sysModules)=false/\∃ vs,KV kvs vs/\h.DictOf (ZaD P w) a vs:=Zh7 ok (.inl e)
theorem ZjG {ks:List Key} (ok:HOk P w H h) (e:H a=some (.tup (ks.map kV))):(tupleKind (ZaD P w)).is h ks a:=by
 obtain⟨_,its,r,o,h1,h2,_,n,h3⟩:=(show ObjOk P w H h a (.tup (ks.map kV)) from ok a _ e)
 exact⟨o,its.toArray,n,h1,h2,h3,by simpa using Zfr r⟩
theorem Znv {kvs:List (List Key × V)} (ok:HOk P w H h) (e:Rd H a (.dT kvs)):kvs.length<=sizeLine/\(a == sysModules)=false /\
  ∃ xs,KT H kvs xs/\h.DictOfH (tupleKind (ZaD P w)) a xs:=by
 obtain⟨z,y,xs,r,o,es,ep,h1,h2,h3,h4,h5⟩:=(show ObjOk P w H h a (.dT kvs) from Zn5 ok e)
 refine⟨z,y,xs,r,o,es,ep,h1,h2,h3,h4,fun x hx=>?_,h5⟩;have all:∀ {l:List (List Key × V)}{m:List (List Key × Addr × Value)},KT H l m->∀ x∈m,(tupleKind (ZaD P w)).is h x.1 x.2.1:=by
  intro l m q
  induction q with
  | nil=>intro x hx;exact nomatch hx
  | @cons p q ps qs hq t ih=>
   intro x hx;rcases Yao.mp hx with e | hx
   ·subst e;exact ZjG ok (by rw[<- hq.1];exact hq.2.1)
   ·exact ih x hx
 exact all r x hx
theorem Zpc {kvs:List (List Key × V)} (ok:HOk P w H h) (e:H a=some (.dT kvs)):kvs.length<=sizeLine/\(a == sysModules)=false /\
  ∃ xs,KT H kvs xs/\h.DictOfH (tupleKind (ZaD P w)) a xs:=Znv ok (.inl e)
end
def DGet (H:Hp) (a:Addr) (y:V) (r:Option V):Prop :=
 (∃ kvs k,Rd H a (.dK kvs)/\y=kV k/\r=valV kvs k)∨∃ kvs k b,Rd H a (.dT kvs)/\y=.ref b/\H b=some (.tup (k.map kV))/\r=valV kvs k
def DPut (H:Hp) (a:Addr) (y v:V) (H':Hp):Prop :=
 (∃ kvs k,H a=some (.dK kvs)/\y=kV k/\kvs.length<sizeLine/\H'=upd H a (.dK (putK kvs k v))) ∨
 ∃ kvs k b,H a=some (.dT kvs)/\y=.ref b/\H b=some (.tup (k.map kV))/\kvs.length<sizeLine/\H'=upd H a (.dT (putK kvs k v))
theorem DGet.k {H:Hp}{a:Addr}{kvs:List (Key × V)}{k:Key} (e:H a=some (.dK kvs)):DGet H a (kV k) (valV kvs k):=.inl ⟨kvs,k,.inl e,rfl,rfl⟩
theorem DPut.k {H:Hp}{a:Addr}{kvs:List (Key × V)}{k:Key}{v:V} (e:H a=some (.dK kvs)) (hl:kvs.length<sizeLine):DPut H a (kV k) v (upd H a (.dK (putK kvs k v))):=.inl ⟨kvs,k,e,rfl,hl,rfl⟩
section
variable {X:Cx}{pins:List (Addr × Obj)}{σ:St}{H:Hp}{s:Shared}{a:Addr}{y v:V}{u r:Value}{o:Option V}{A:Around}{E:Value->Shared->Prop}
theorem Inv.big (I:Inv X pins σ H s):sysModules<s.heap.objs.size:=by
 have h:mainGlobals<s.heap.objs.size:=(I.mod.glob.keeps I.bk).lt;exact Ye9 (by decide) h
theorem ZeK {h':Heap}{t':Nat}{ob:HO} (I:Inv X pins σ H s) (mu:Mut (H a)) (hs:Yck a s.heap h') (he:∃ q,h'.get? a=some q) (new:ObjOk X.prog X.w (upd H a ob) h' a ob) :
  Inv X pins σ (upd H a ob) { s with heap:=h',toks:=t' } :=
 I.write (x:=a) (e:=a) mu (.inl rfl) (fun b q hb z=>(hs.2 b hb).trans z) he new
theorem Zhl {P:Program}{w:World}{H':Hp}{h':Heap}{kvs:List (Key × V)}{vs:List (Key × Value)} (z:kvs.length<=sizeLine) (hd:(a == sysModules)=false) (rel:KV kvs vs) (dd:h'.DictOf (ZaD P w) a vs) :
  ObjOk P w H' h' a (.dK kvs):=⟨z,hd,vs,rel,dd⟩
theorem Zkd {H':Hp}{Q:Unit->Shared->Prop} (hu:A.units+1<cLine) (I:Inv X pins σ H s) (g:DPut H a y v H') (ry:RelV y u) (rv:RelV v r) (h:∀ s',Inv X pins σ H' s'->Q () s') :
  wpAny (model X.prog X.w) A (setItem (.ref a) u r) Q E s:=by
 rcases g with ⟨kvs,k,e,ey,l,eH⟩ | ⟨kvs,k,b,e,ey,eb,l,eH⟩
 ·subst ey eH;obtain⟨z,hd,vs,rel,dd⟩:=Znx I.hok e;have hz:vs.length<=sizeLine:=by rw[<- rel.length];exact z
  have hl:(putK kvs k v).length<=sizeLine:=by have:=Zbv kvs k v;omega
  refine wpAny_setItem_pairs (hsz:=hz) (ZjL ry) dd fun h' dd' hs=>h _ ?_;have he:∃ q,h'.get? a=some q:=let ⟨q,_,_,hq,_⟩:=dd';⟨q,hq⟩
  exact ZeK I (by rw[e];exact YbX) hs he (Zhl hl hd (rel.put k rv) dd')
 ·subst ey eH;cases (show u=YaK b from ry);obtain⟨z,hd,xs,rel,dd⟩:=Zpc I.hok e;have hz:xs.length<=sizeLine:=by rw[<- YeD rel];exact z
  have hl:(putK kvs k v).length<=sizeLine:=by have:=Zbv kvs k v;omega
  refine wpAny_setItem_heap (hsz:=hz) (tupleKind_room_in1 hu) (ZjG I.hok eb) dd fun h' dd' hs=>h _ ?_;obtain⟨q,es,ep,hq,h2,h3,h4,_,h5⟩:=dd';refine ZeK I (by rw[e];exact YbX) hs ⟨q,hq⟩ ⟨hl,hd,_,(rel.put k eb rv).keeps fun c ys ec=>?_,q,es,ep,hq,h2,h3,h4,h5⟩;rw[Zaf (Znd ec e (fun z=>nomatch z))];exact ec
end
section
variable {X:Cx}{pins:List (Addr × Obj)}{σ:St}{H:Hp}{s:Shared}{a:Addr}{kvs:List (Key × V)}{k:Key}{u:Value}{A:Around}{E:Value->Shared->Prop}
end
def ZoR (td ty tv:TE):TS:=fun D σ H=>tv σ H fun v H1=>td σ H1 fun x H2=>ty σ H2 fun y H3=>∃ a H4,x=.ref a/\DPut H3 a y v H4/\D.nx σ H4
section
variable {X:Cx}{o i e value:Expr}{pos pos' tpos:Pos}{td ty tv:TE}
theorem ZmS (hu:X.A.units+1<cLine) (ho:PE X o td) (hi:PE X i ty) (hv:PE X value tv) (hs:swapsWith value (some (.Subscript o i pos')) pos.line X.env=pure false) :
  PS X (.Assign [.Subscript o i pos'] value pos) (ZoR td ty tv):=by
 intro pins s σ H D I h;refine wpAny_Assign_Subscript (thn (hv pins s σ H _ I h) fun r s1 ⟨v,H1,I1,rv,q1⟩=>thn (ho pins s1 σ H1 _ I1 q1) fun u s2 ⟨x,H2,I2,rx,q2⟩=>thn (hi pins s2 σ H2 _ I2 q2) fun iv s3 ⟨y,H3,I3,ry,a,H4,ex,g,q3⟩=>?_) hs;subst ex;obtain rfl:u=YaK a:=rx;exact Zkd hu I3 g ry rv fun s4 I4=>⟨σ,H4,I4,q3⟩
end
theorem ZeJ {P:Program}{w:World}{H:Hp} (h:Heap) (hb:sysModules<h.objs.size):ObjOk P w H (h.push { cls:=.type "dict",data:=.dict #[] }) h.objs.size (.dK []) :=
 ⟨YaW _,beq_eq_false_iff_ne.mpr (Ybq (Yaw hb)),[],.nil,Heap.DictOf.new h⟩
def ZnN:TE:=fun _ H Q=>∀ p,H p=none->Q (.ref p) (upd H p (.dK []))
section
variable {X:Cx}{pos:Pos}
theorem ZgY:PE X (.Dict [] [] pos) ZnN:=fun pins s σ H Q I h=>
 wpAny_Dict_empty ⟨.ref s.heap.objs.size,_,I.laid (a:=s.heap.objs.size) (o:=.dK []) (t':=s.toks) (fun _ _ q=>Yab _ q) (Yag _) (ZeJ s.heap I.big),rfl,h _ (I.hok.fresh (Yag _))⟩
end
def Ziv:List (TE × TE)->St->Hp->(List (V × V)->Hp->Prop)->Prop
 | [],_,H,Q=>Q [] H
 | (tk,tv)::r,σ,H,Q=>tk σ H fun x H1=>tv σ H1 fun y H2=>Ziv r σ H2 fun ps H3=>Q ((x,y)::ps) H3
abbrev VV:List (V × V)->List (Value × Value)->Prop:=Paired fun p q=>RelV p.1 q.1/\RelV p.2 q.2
def PPs (X:Cx) (pos:Pos) (keys:List (Option Expr)) (values:List Expr) (trs:List (TE × TE)):Prop :=
 ∀ (pins:List (Addr × Obj)) (s:Shared) (σ:St) (H:Hp) (Q:List (V × V)->Hp->Prop),Inv X pins σ H s->Ziv trs σ H Q ->
  wpAny (model X.prog X.w) X.A (evalPairs (pairTrees keys values X.env pos)) (fun vs s'=>∃ ps H',Inv X pins σ H' s'/\VV ps vs/\Q ps H') X.xe s
theorem ZmV {X:Cx}{pos:Pos}:PPs X pos [] [] []:=fun pins s σ H Q I h=>pairTrees_nil_walk ⟨[],H,I,.nil,h⟩
theorem Zk0 {X:Cx}{pos:Pos}{k v:Expr}{ks:List (Option Expr)}{vs:List Expr}{tk tv:TE}{trs:List (TE × TE)} (hk:PE X k tk) (hv:PE X v tv) (hr:PPs X pos ks vs trs) :
  PPs X pos (some k::ks) (v::vs) ((tk,tv)::trs):=fun pins s σ H Q I h=>
 pairTrees_cons_walk (thn (hk pins s σ H _ I h) fun u s1 ⟨x,H1,I1,rx,q1⟩=>thn (hv pins s1 σ H1 _ I1 q1) fun w2 s2 ⟨y,H2,I2,ry,q2⟩=>
  thn (hr pins s2 σ H2 _ I2 q2) fun ws s3 ⟨ps,H3,I3,rel,q3⟩=>⟨(x,y)::ps,H3,I3,.cons ⟨rx,ry⟩ rel,q3⟩)
def ZcO (kvs more:List (Key × V)):List (Key × V):=more.foldl (fun acc kv=>putK acc kv.1 kv.2) kvs
theorem KV.merge:∀ {more:List (Key × V)}{rs:List (Key × Value)}{kvs:List (Key × V)}{vs:List (Key × Value)},KV more rs->KV kvs vs->KV (ZcO kvs more) (merged vs rs):=by
 intro more rs kvs vs r;unfold KV at r
 induction r generalizing kvs vs with
 | nil=>intro q;exact q
 | @cons p q ps qs h t ih=>
  intro r0;have e:KV (putK kvs p.1 p.2) (stored vs q.1 q.2):=by
   have:=r0.put p.1 h.2;rw[<- h.1];exact this
  exact ih e
theorem Zcq:∀ (more kvs:List (Key × V)),(ZcO kvs more).length<=kvs.length+more.length
 | [],kvs=>by show kvs.length<=kvs.length+0;omega
 | p::r,kvs=>by
  have h1:=Zcq r (putK kvs p.1 p.2);have h2:=Zbv kvs p.1 p.2;show (ZcO (putK kvs p.1 p.2) r).length<=_;rw[YaU];omega
theorem Zd7 {P:Program}{w:World}:∀ {kvs:List (Key × V)}{ws:List (Value × Value)},VV (kvs.map fun kv=>(kV kv.1,kv.2)) ws->∃ rs,Carries (ZaD P w) ws rs/\KV kvs rs
 | [],_,r=>by rw[Yb9] at r;cases r;exact⟨[],YbX,.nil⟩
 | p::kvs,_,r=>by
  rw[YaH] at r
  cases r with
  | @cons a b as bs h t=>
   obtain⟨rs,c,q⟩:=Zd7 (P:=P) (w:=w) t;obtain⟨b1,b2⟩:=b;exact⟨(p.1,b2)::rs,⟨ZjL h.1,rfl,c⟩,.cons ⟨rfl,h.2⟩ q⟩
def ZoN (trs:List (TE × TE)):TE:=fun σ H Q=>∀ p,H p=none->Ziv trs σ (upd H p (.dK [])) fun ps H2=>H2 p=some (.dK [])/\∃ kvs:List (Key × V),ps=kvs.map (fun kv=>(kV kv.1,kv.2))/\kvs.length<=15/\Q (.ref p) (upd H2 p (.dK (ZcO [] kvs)))
theorem ZmY {X:Cx}{pos:Pos}{keys:List (Option Expr)}{values:List Expr}{trs:List (TE × TE)} (h:PPs X pos keys values trs) (hall:keys.all (·.isSome)=true) (hl:keys.length=values.length) (h0:keys≠[])
  (h15:keys.length<=15):PE X (.Dict keys values pos) (ZoN trs):=by
 intro pins s σ H Q I q;have hn:=I.hok.fresh (Yag s.heap.objs.size);have I1:=I.laid (a:=s.heap.objs.size) (o:=.dK []) (h':=s.heap.push { cls:=.type "dict",data:=.dict #[] }) (t':=s.toks) (fun _ _ q=>Yab _ q) (Yag _) (ZeJ s.heap I.big);refine wpAny_Dict_walk (knd:=ZaD X.prog X.w) hall hl h0 h15 (thn (h pins _ σ _ _ I1 (q _ hn)) fun ws s2 ⟨ps,H2,I2,rel,e,kvs,ep,lk,q2⟩=>?_);subst ep;obtain⟨rs,c,rk⟩:=Zd7 (P:=X.prog) (w:=X.w) rel;obtain⟨z,hd,vs0,r0,dd⟩:=Znx I2.hok e;cases r0;refine⟨rs,c,dd,fun h' dd' hs=>⟨.ref s.heap.objs.size,_,?_,rfl,q2⟩⟩;have hz:(ZcO [] kvs).length<=sizeLine:=by
  have h1:=Zcq kvs [];rw[Ydw] at h1;rw[sizeLine_eq];omega
 have he:∃ q,h'.get? s.heap.objs.size=some q:=let ⟨q,_,_,hq,_⟩:=dd';⟨q,hq⟩
 exact ZeK I2 (by rw[e];exact YbX) hs he (Zhl hz hd (rk.merge .nil) dd')
structure M1 (X:Cx) (o:Expr) (m:Str) (apos:Pos) (e:Expr) (cpos:Pos):Prop where
 base:attributeBase o m X.env (eval o X.env)=eval o X.env
 few:((backTo cpos (starEach [e] X.env)).all (fun x=>!x.1) && (backToKw cpos (keywordEach [] X.env)).all (fun x=>x.1.isSome)
  && decide (([e]:List Expr).length+([]:List Keyword).length+(if ([]:List Keyword).isEmpty then 0 else 1)<30))=true
 line:(apos.endLine == cpos.line)=true
 trees:backTo cpos (starEach [e] X.env)=[(false,eval e X.env)]
structure M2 (X:Cx) (o:Expr) (m:Str) (apos:Pos) (e f:Expr) (cpos:Pos):Prop where
 base:attributeBase o m X.env (eval o X.env)=eval o X.env
 few:((backTo cpos (starEach [e,f] X.env)).all (fun x=>!x.1) && (backToKw cpos (keywordEach [] X.env)).all (fun x=>x.1.isSome)
  && decide (([e,f]:List Expr).length+([]:List Keyword).length+(if ([]:List Keyword).isEmpty then 0 else 1)<30))=true
 line:(apos.endLine == cpos.line)=true
 trees:backTo cpos (starEach [e,f] X.env)=[(false,eval e X.env),(false,eval f X.env)]
def IsD (H:Hp) (a:Addr):Prop:=(∃ kvs,Rd H a (.dK kvs))∨∃ kvs,Rd H a (.dT kvs)
theorem Zme {X:Cx}{pins:List (Addr × Obj)}{σ:St}{H:Hp}{s:Shared}{a:Addr} (I:Inv X pins σ H s) (d:IsD H a) :
  s.TypeIs (.ref a) "dict"/\(∀ b,YaK a=.ref b->∃ ob,s.heap.get? b=some ob/\ob.dict=none)/\(a == sysModules)=false:=by
 rcases d with ⟨kvs,e⟩ | ⟨kvs,e⟩
 ·obtain⟨_,hd,vs,_,dd⟩:=Zh7 I.hok e;refine⟨dd.typeIs,fun b q=>?_,hd⟩;cases q;obtain⟨ob,_,_,h1,h2,_⟩:=dd;exact⟨ob,h1,h2.2.1⟩
 ·obtain⟨_,hd,xs,_,dd⟩:=Znv I.hok e;refine⟨dd.typeIs,fun b q=>?_,hd⟩;cases q;obtain⟨ob,_,_,h1,h2,_⟩:=dd;exact⟨ob,h1,h2.2.1⟩
section
variable {X:Cx}{pins:List (Addr × Obj)}{σ:St}{H:Hp}{s:Shared}{a:Addr}{y d:V}{u r:Value}{o:Option V}{A:Around}{E:Value->Shared->Prop}
theorem Zoy {Q:Value->Shared->Prop} (hu:A.units+1<cLine) (I:Inv X pins σ H s) (g:DGet H a y o) (ry:RelV y u) (rd:RelV d r) (h:∀ w' s',Inv X pins σ H s'->RelV (o.getD d) w'->Q w' s') :
  wpAny (model X.prog X.w) A (call (.builtin "dict.get") [.ref a,u,r]) Q E s:=by
 rcases g with ⟨kvs,k,e,ey,l⟩ | ⟨kvs,k,b,e,ey,eb,l⟩
 ·subst ey;obtain⟨z,hd,vs,rel,dd⟩:=Zh7 I.hok e;refine call_meetsIn Ydl dd.typeIs YeC (Yeq _ _ _) (meets_dict_get_default (ZaD X.prog X.w) a (ZjL ry) hd r) ⟨_,dd.mapOf,h _ _ (I.tok _) ?_⟩;rw[l];exact (rel.val k).getD rd
 ·subst ey;cases (show u=YaK b from ry);obtain⟨z,hd,xs,rel,dd⟩:=Znv I.hok e;refine call_meetsIn Ydl dd.typeIs YeC (Yeq _ _ _) (meetsH_dict_get_default (tupleKind (ZaD X.prog X.w)) a b hd r) ⟨tupleKind_room_in1 hu,k,xs,ZjG I.hok eb,dd,h _ _ (I.tok _) ?_⟩;rw[l];exact (rel.val k).getD rd
end
def ZnO (td ty tx:TE):TE:=fun σ H Q=>td σ H fun x H1=>∃ a,x=.ref a/\IsD H1 a/\ty σ H1 fun y H2=>tx σ H2 fun z H3=>∃ o,DGet H3 a y o/\Q (o.getD z) H3
section
variable {X:Cx}{o e f:Expr}{apos cpos:Pos}{td ty tx:TE}
theorem Zk5 (hu:X.A.units+1<cLine) (ho:PE X o td) (he:PE X e ty) (hf:PE X f tx) (m:M2 X o "get" apos e f cpos):PE X (.Call (.Attribute o "get" apos) [e,f] [] cpos) (ZnO td ty tx):=by
 intro pins s σ H Q I h;refine wpAny_Call_method m.base m.few m.line Yeo Ydl PySem.F.type_dict_get (thn (ho pins s σ H _ I h) fun u s1 ⟨x,H1,I1,rx,a,ex,d,q1⟩=>?_);subst ex;obtain rfl:u=YaK a:=rx;obtain⟨t1,t2,_⟩:=Zme I1 d;refine⟨t1,t2,?_⟩;rw[m.trees];refine YcI rfl (Ye2 (YdI (thn (he pins s1 σ H1 _ I1 q1) fun iv s2 ⟨y,H2,I2,ry,q2⟩=>
  YdI (thn (hf pins s2 σ H2 _ I2 q2) fun fv s3 ⟨z,H3,I3,rz,ov,g,q3⟩=>Yfu ?_))))
 exact Zoy hu I3 g ry rz fun w' s4 I4 rw'=>⟨_,H3,I4,rw',q3⟩
end
section
variable {X:Cx}{pins:List (Addr × Obj)}{σ:St}{H:Hp}{s:Shared}{a:Addr}{kvs:List (Key × V)}{A:Around}{E:Value->Shared->Prop}
theorem ZlH {Q:Value->Shared->Prop} (I:Inv X pins σ H s) (e:Rd H a (.dK kvs)) (h:∀ p s',H p=none->Inv X pins σ (upd H p (.dK kvs)) s'->Q (.ref p) s'):wpAny (model X.prog X.w) A (call (.type "dict") [.ref a]) Q E s:=by
 obtain⟨z,hd,vs,rel,dd⟩:=Zh7 I.hok e;refine kt_call_dict hd dd (by rw[<- rel.length];exact z) fun h' dd' hs=>?_;refine h _ _ (I.hok.fresh (Yag _)) (I.laid (a:=s.heap.objs.size) (o:=.dK kvs) (t':=s.toks) (fun b q hq=>?_) (Yag _) (Zhl z (beq_eq_false_iff_ne.mpr (Ybq (Yaw I.big))) rel dd'));exact (hs.2 b (Yaw (Yah hq))).trans (Yab _ hq)
end
section
variable {X:Cx}{pins:List (Addr × Obj)}{σ:St}{H:Hp}{s:Shared}{a:Addr}{y:V}{u:Value}{A:Around}{E:Value->Shared->Prop}
end
end L2
namespace L2
open PySem PySem.Spec PyProof.Rows
section
variable {κ:Type} [DecidableEq κ]
theorem ZkG {kvs:List (κ × V)}{k:κ} (h:valV kvs k=none):¬ k∈kvs.map (·.1):=by
 intro m;obtain⟨p,hp,e⟩:=YaG.mp m;have q:(kvs.any fun kv=>decide (kv.1=k))=true:=YdY.mpr ⟨p,hp,decide_eq_true e⟩;rw[ZbL,h] at q;exact absurd q (by simp)
theorem Zms {kvs:List (κ × V)}{k:κ}{v:V} (h:valV kvs k=some v):k∈kvs.map (·.1):=by
 have q:(kvs.any fun kv=>decide (kv.1=k))=true:=by
  rw[ZbL,h]
  all_goals rfl
 obtain⟨p,hp,e⟩:=YdY.mp q;exact YaG.mpr ⟨p,hp,of_decide_eq_true e⟩
theorem Zjp:∀ {l:List κ}{k:κ},l.Nodup->¬ k∈l->(l++[k]).Nodup
 | [],k,_,_=>by simp
 | a::r,k,h,hk=>by
  obtain⟨h1,h2⟩:=YbL.mp h;show (a::(r++[k])).Nodup;refine YbL.mpr ⟨fun m=>?_,Zjp h2 fun m=>hk (Yao.mpr (Ydb m))⟩;rcases Yaj.mp m with q | q
  ·exact h1 q
  ·exact hk (Yao.mpr (YaJ (YaF.mp q).symm))
end
end L2
namespace L2
open PySem PySem.Spec PyProof.Rows PySem.SeqAt
section
variable {prog:Program}{w:World}{A:Around}{E:Value->Shared->Prop}{s:Shared}
theorem Zd2 {it t:Addr}{i:Nat}{items:Array Value}{x:Value}{Q:Value->Shared->Prop} (hit:s.heap.IsTupleIter it t i) (ht:s.heap.IsTuple t items) (hx:items[i]?=some x)
  (hQ:∀ h',h'.IsTupleIter it t (i+1)->Yck it s.heap h'->Q x { s with heap:=h' }):wpAny (model prog w) A (Ybc (.ref it)) Q E s:=by
 obtain⟨o,ho,hc,hd⟩:=id hit;obtain⟨ol,hol,_,nl,hdl⟩:=ht;unfold Ybc;refine wpAny_bind (wpAny_callSpecial?_slot (name:=Yc8 "__next__") hit.typeIs F.slot_tuple_iterator_next (wpAny_call_entry F.slot_tuple_iterator_next hit.typeIs F.entry_tuple_iterator_next ?_ (F.args_tuple_iterator_next_1 _)));show wpAny _ _ (field (.ref it) 0 >>= _) _ _ s;refine wpAny_bind (wpAny_field ho hd (x:=.ref t) rfl ?_);show wpAny _ _ (if (YaK t == Ycb)=true then _ else _) _ _ s;rw[if_neg (show ¬ ((YaK t == Ycb)=true) from YaV)];show wpAny _ _ (field (.ref it) 1 >>= _) _ _ s;refine wpAny_bind (wpAny_field ho hd (x:=.int i 0) rfl ?_);show wpAny _ _ (seqItems? (.ref t) >>= _) _ _ s;refine wpAny_bind (wpAny_seqItems hol hdl ?_);simp only[YaQ,hx];refine wpAny_bind (wpAny_setField ho hd (by simp) (wpAny_pure ⟨x,rfl,wpAny_pure (hQ _ ?_ (YcM ..))⟩));exact⟨_,Ydx _ ho (Obj.isFreed_of_fields (Yfx hd _)),(Obj.cls_mapFields ..).trans hc,by rw[Yfx hd];simp[rawInt]⟩
theorem Zbo {it t:Addr}{i:Nat}{items:Array Value}{Q:Value->Shared->Prop} (hh:A.handled=none) (hit:s.heap.IsTupleIter it t i) (ht:s.heap.IsTuple t items) (hx:items[i]?=none)
  (hE:∀ h' e,YdE it s.heap h'->(∃ o,h'.get? e=some o/\o.cls=.type "StopIteration")->E (.ref e) { s with heap:=h' }):wpAny (model prog w) A (Ybc (.ref it)) Q E s:=by
 obtain⟨o,ho,hc,hd⟩:=id hit;obtain⟨ol,hol,_,nl,hdl⟩:=ht;unfold Ybc;refine wpAny_bind (wpAny_callSpecial?_slot (name:=Yc8 "__next__") hit.typeIs F.slot_tuple_iterator_next (wpAny_call_entry F.slot_tuple_iterator_next hit.typeIs F.entry_tuple_iterator_next ?_ (F.args_tuple_iterator_next_1 _)));show wpAny _ _ (field (.ref it) 0 >>= _) _ _ s;refine wpAny_bind (wpAny_field ho hd (x:=.ref t) rfl ?_);show wpAny _ _ (if (YaK t == Ycb)=true then _ else _) _ _ s;rw[if_neg (show ¬ ((YaK t == Ycb)=true) from YaV)];show wpAny _ _ (field (.ref it) 1 >>= _) _ _ s;refine wpAny_bind (wpAny_field ho hd (x:=.int i 0) rfl ?_);show wpAny _ _ (seqItems? (.ref t) >>= _) _ _ s;refine wpAny_bind (wpAny_seqItems hol hdl ?_);simp only[YaQ,hx];refine wpAny_bind (wpAny_rule (wpAny_bind (wpAny_setField ho hd (by simp) ?_)));show wpAny _ _ (newExc (.type "StopIteration") [] >>= _) _ _ _;refine wpAny_bind ?_;simp only[newExc,newTuple];refine wpAny_bind (wpAny_newObj_type ?_ (by size_fits));refine wpAny_bind (m:=firstArgMember _ _) (wpAny_of_eq (a:=Ycb) (by first | rfl | (simp only[firstArgMember];rfl)) ?_);refine wpAny_newObj_type ?_ (by size_fits);simp only[raiseNew];refine wpAny_bind (wpAny_handled ?_)
 first | rw[show A.in1.handled=none from hh] | rw[hh]
 refine wpAny_bind (wpAny_pure (wpAny_throw ?_));exact hE _ _ (((YcM ..).extBut.push _).push _) ⟨_,Yas _ rfl,rfl⟩
theorem Zj6 (hh:A.handled=none) (it l:Addr) (hne:l≠it) (items:Array Value):Draws prog w A it [it,l] items.size (fun i v=>items[i]?=some v) (fun i h=>h.IsTupleIter it l i/\h.IsTuple l items) where
 live:=fun _ _ st=>let ⟨o,ho,_⟩:=st.1;⟨o,ho⟩
 frame:=fun _ _ _ st hk=>⟨st.1.at fun o e=>hk it (by simp) o e,let ⟨o,e,c⟩:=st.2;⟨o,hk l (by simp) o e,c⟩⟩
 item:=fun i s Q E hi st hQ=>by
  refine Zd2 st.1 st.2 (x:=items[i]) (by simp[hi]) fun h' hit' hs'=>?_;exact hQ _ h' s.toks (by simp[hi]) ⟨hit',let ⟨o,e,c⟩:=st.2;⟨o,(hs'.2 l hne).trans e,c⟩⟩ hs'
 done:=fun s Q E st hE=>Zbo hh st.1 st.2 (by simp) hE
end
theorem ZfA (l:Addr) (items:Array Value) (n:Nat) (dct:Option Addr) (sl:Array (Option Value)) :
  Meets (Builtin.«enumerate.__new__» ⟨[.type "enumerate",.ref l],[]⟩) (fun _ R s=>s.heap.get? l=some { cls:=.type "tuple",dict:=dct,data:=.seq items n,slots:=sl } /\
   R (.ok (.ret (.ref (s.heap.push { cls:=.type "tuple_iterator",data:=.fields #[.ref l,.int 0 0] }).objs.size)))
    { s with heap:=(s.heap.push { cls:=.type "tuple_iterator",data:=.fields #[.ref l,.int 0 0] }).push { cls:=.type "enumerate",data:=.fields #[.none,.bool false,.ref s.heap.objs.size,rawInt 0,.none,.none] } }) :=
 .of_wp fun prog w A R s h=>by
  obtain⟨hp,g,d,tk,os⟩:=s;obtain⟨hl,h⟩:=h;have hsub:=sub_enumerate;have hL:Ydy (Ycs ⟨hp,g,d,tk,os⟩) l items:=⟨_,hl,rfl,n,rfl⟩
  wp_walk using Ycr hl
  refine wpAny_stack_any fun st=>wpAny_pure ?_;split
  ·rename_i c _ _ _ _ _;cases (c == YbV "enumerate")
   ·wp_walk using Ycr hl,wpAny_pyIter_tuple hL
    exact⟨_,rfl,h⟩
   ·wp_walk using Ycr hl,wpAny_pyIter_tuple hL
    exact⟨_,rfl,h⟩
  ·wp_walk using Ycr hl,wpAny_pyIter_tuple hL
   exact⟨_,rfl,h⟩
section
variable {prog:Program}{w:World}{A:Around}{E:Value->Shared->Prop}{s:Shared}
theorem Zfz {e it l:Addr}{i:Nat}{items:Array Value}{old:Value}{Q:Option Value->Shared->Prop} (hh:A.handled=none) (he:IsEnum s.heap e it i old) (hit:s.heap.IsTupleIter it l i) (hl:s.heap.IsTuple l items) (hx:items[i]?=none)
  (hQ:∀ h',YdE it s.heap h'->Q none { s with heap:=h' }):wpAny (model prog w) A (pyNext (.ref e)) Q E s:=by
 have hT:s.TypeIs (.ref e) "enumerate":=⟨_,he,rfl⟩
 unfold pyNext;refine wpAny_bind (wpAny_attempt (wpAny_callSpecial?_slot (name:=Yc8 "__next__") hT F.slot_enumerate_next (wpAny_call_entry F.slot_enumerate_next hT F.entry_enumerate_next ?_ (F.args_enumerate_next_1 _))));show wpAny _ _ (field (.ref e) 2 >>= _) _ _ _;refine wpAny_bind (wpAny_field he rfl (x:=.ref it) rfl ?_);refine wpAny_bind (Zbo hh hit hl hx fun h' x he' hx'=>?_);obtain⟨o,ho,hc⟩:=hx';refine wpAny_bind (wpAny_isInstance (T:="StopIteration") (b:=true) ⟨o,ho,hc⟩ isSubtype_stop ?_);exact wpAny_pure (hQ _ he')
theorem ZeP {l:Addr}{items:Array Value}{Q:Value->Shared->Prop} (hL:s.heap.IsTuple l items)
  (h:∀ h',IsEnum h' (s.heap.objs.size+1) s.heap.objs.size 0 .none->h'.IsTupleIter s.heap.objs.size l 0->(∀ b o,s.heap.get? b=some o->h'.get? b=some o)->Q (.ref (s.heap.objs.size+1)) { s with heap:=h' }) :
  wpAny (model prog w) A (call (.type "enumerate") [.ref l]) Q E s:=by
 obtain⟨⟨c,dct,dt,sl⟩,hl,hc,n,hd⟩:=hL
 replace hc:c=.type "tuple":=hc
 replace hd:dt=.seq items n:=hd
 subst hc hd;refine callType_new F.called_enumerate (by decide) (F.typeCall_enumerate_1 _) (F.newCall_enumerate_1 _) (fun obj=>F.args_object_init_2 obj _) F.entry_enumerate_new (ZfA l items n dct sl) ⟨hl,?_⟩;have hz:(s.heap.push { cls:=.type "tuple_iterator",data:=.fields #[.ref l,.int 0 0] }).objs.size=s.heap.objs.size+1:=YaY ..;show _/\_;rw[hz];have he:IsEnum ((s.heap.push { cls:=.type "tuple_iterator",data:=.fields #[.ref l,.int 0 0] }).push { cls:=.type "enumerate",data:=.fields #[.none,.bool false,.ref s.heap.objs.size,rawInt 0,.none,.none] }) (s.heap.objs.size+1) s.heap.objs.size 0 .none:=by
  have:=Yas (s.heap.push { cls:=.type "tuple_iterator",data:=.fields #[.ref l,.int 0 0] }) (o:={ cls:=.type "enumerate",data:=.fields #[.none,.bool false,.ref s.heap.objs.size,rawInt 0,.none,.none] }) rfl;rw[hz] at this;exact this
 exact⟨⟨_,he,rfl⟩,h _ he ⟨_,Yab _ (Yas _ rfl),rfl,rfl⟩ fun b o x=>Yab _ (Yab _ x)⟩
end
def IteT (K:Yae) (a:Addr):It :=
 ⟨fun i H=>∃ xs x,SqT K H a xs/\xs[i]?=some x,fun i H y H'=>∃ p x,H p=none/\y=.ref p/\H'=upd H p (.tup [.int i,x])/\∀ xs,SqT K H a xs->xs[i]?=some x,fun i H=>∃ xs,SqT K H a xs/\xs.length<=i⟩
theorem Zht {P:Program}{w:World}{K:Yae}{es:List Expr}{x1}{pos:Pos} (a it e:Addr) (hne:e≠it):Turn P w K (.Tuple es x1 pos) (IteT K a) [e,it] e (fun i h=>(∃ old,IsEnum h e it (i:Nat) old)/\h.IsTupleIter it a i) where
 mem:=by simp
 obj:=fun i h st b hb=>by
  obtain⟨⟨old,s1⟩,s2⟩:=st;rcases Yao.mp hb with z | z
  ·subst z;exact⟨_,s1,fun v z=>nomatch z⟩
  ·have z:b=it:=by simpa using z
   subst z;obtain⟨o,e,c,d⟩:=s2;exact⟨o,e,fun v z=>by rw[d] at z;cases z⟩
 keep:=fun i h h' st k=>by
  obtain⟨⟨old,s1⟩,s2⟩:=st;exact⟨⟨old,k e (by simp) _ s1⟩,s2.at fun o q=>k it (by simp) o q⟩
 item:=by
  intro X hP hw hK hc i pins s σ H E I hf st hg;subst hP hw hK;obtain⟨xs,x,hq,hx⟩:=hg;obtain⟨its,rv,p,hz⟩:=I.tuple hq;obtain⟨u,hu,ru⟩:=rv.get hx;obtain⟨⟨old,s1⟩,s2⟩:=st;have hlt:(i:Nat)<its.toArray.size:=by
   have:=(Yad.mp hu).1
   simpa using this
  have nea:a≠it:=by
   rintro rfl;obtain⟨o1,q1,c1,_⟩:=p;obtain⟨o2,q2,c2,_⟩:=id s2;rw[q1] at q2;cases q2;rw[c1] at c2;injection c2 with z;exact absurd z (by decide)
  have nee:a≠e:=by
   rintro rfl;obtain⟨o1,q1,c1,_⟩:=p;have s1':s.heap.get? a=some _:=s1;rw[q1] at s1';cases s1';injection c1 with z;exact absurd z (by decide)
  have it2:s.heap.IsTuple a its.toArray:=p;refine wpAny_pyNext_enum_itemD (Zj6 (A:=X.A.in1) (I.ok.hd hc) it a nea its.toArray) s1 ⟨s2,it2⟩ hlt hne (by simp[hne,Ybq nee]) fun u' h' tk' hu' ho hst ht hsz hk=>?_;have eu:u'=u:=by
   have:its.toArray[i]?=some u:=by simpa using hu
   rw[this] at hu';exact (YaE hu').symm
  subst eu;have hit:=hst.1;refine⟨_,rfl,?_⟩;refine wpAny_letOwnedTupleGo_enum ho fun h'' he hs=>?_;have fresh:H s.heap.objs.size=none:=I.hok.fresh (Yag _);have k:∀ b o,b ∉ [e,it]->s.heap.get? b=some o->h''.get? b=some o:=fun b o hb q=>by
   have hb':b≠e/\b≠it:=by simpa using hb
   exact (hs.2 b hb'.1).trans (hk b o hb'.1 hb'.2 q)
  have nE:∀ b∈[e,it],H b=none:=fun b hb=>(hf b hb).1
  have nit:∀ b u,H b=some u->b ∉ [e,it]:=fun b u q z=>by rw[nE b z] at q;cases q
  have hpe:s.heap.objs.size≠e:=YbA (Yah s1);have htup:h''.get? s.heap.objs.size=some { cls:=.type "tuple",data:=.seq #[.int i tk',u'] }:=(hs.2 _ hpe).trans ht;have newOk:ObjOk X.prog X.w (upd H s.heap.objs.size (.tup [.int i,x])) h'' s.heap.objs.size (.tup [.int i,x]):=by
   refine⟨?_,[.int i tk',u'],.cons ⟨_,rfl⟩ (.cons ru .nil),⟨_,htup,rfl,rfl,0,rfl⟩⟩;show 2<=sizeLine
   decide
  have I1:Inv X pins σ (upd H s.heap.objs.size (.tup [.int i,x])) { s with heap:=h'',toks:=tk'+1 }:=by
   refine I.step (g':=s.gens) (d':=s.drawn) (ch:=[e,it]) (fun b hb=>?_) (fun b o _ _ hc q _=>k b o hc q) (fun b o _ _ hc q _=>⟨o.slots,k b o hc q⟩) (fun b o _ q n=>?_) (fun b o hc q=>⟨o,k b o hc q⟩)
    (fun b xs q=>by rw[Zaf (Zag q fresh)];exact q) (fun b o xs q=>by rw[Zaf (Zag q fresh)];exact q) (fun b ps q=>⟨#[],by rw[Zaf (Zag q fresh),q];simp⟩) (fun m hm=>?_) (fun b ob q=>?_) I.bare
   ·obtain⟨f0,f1,f2,f3,f4,f5⟩:=hf b hb;exact⟨f3,f1,f4,f5⟩
   ·rw[Zaf (Yaw (Yah q))];exact n
   ·obtain⟨o,es,ep,ho,r⟩:=hm;refine⟨o,es,ep,k _ o (fun z=>?_) ho,r⟩;exact (hf _ z).2.1 rfl
   ·by_cases hb:b=s.heap.objs.size
    ·subst hb;rw[Zab] at q;cases q;exact newOk
    ·rw[Zaf hb] at q;refine (I.hok b ob q).stay (fun c v hc r=>k c v ?_ r) (fun c r=>by rw[Zaf (Zag r fresh)];exact r) fun c xs r=>by rw[Zaf (Zag r fresh)];exact r
     rcases hc with z | z
     ·rw[z];exact nit b ob q
     ·exact nit c _ z
  refine⟨.ref s.heap.objs.size,_,I1,rfl,⟨s.heap.objs.size,x,fresh,rfl,rfl,fun ys hy=>by rw[I.tuple_inj hy hq];exact hx⟩,⟨⟨u',?_⟩,?_⟩,fun b hb=>?_⟩
  ·have he:IsEnum h'' e it ((i:Int)+1) u':=he;show IsEnum h'' e it ((i+1:Nat):Int) u';rw[show ((i+1:Nat):Int)=(i:Int)+1 by omega];exact he
  ·exact hit.extBut hs.extBut (Ybq hne)
  ·have lt:b<s.heap.objs.size:=by
    rcases Yao.mp hb with z | z
    ·rw[z];exact Yah s1
    ·have z:b=it:=by simpa using z
     rw[z];obtain⟨o,q,_⟩:=s2;exact Yah q
   rw[Zaf (Yaw lt)];exact nE b hb
 done:=by
  intro X hP hw hK hc i pins s σ H E I hf st hg;subst hP hw hK;obtain⟨xs,hq,hx⟩:=hg;obtain⟨its,rv,p,hz⟩:=I.tuple hq;obtain⟨⟨old,s1⟩,s2⟩:=st;obtain⟨f0,f1,f2,f3,f4,f5⟩:=hf it (by simp);have hl:=rv.length;exact Zfz (I.ok.hd hc) s1 s2 (show s.heap.IsTuple a its.toArray from p) (by simp;omega) fun h' eb=>⟨rfl,I.turned (t':=s.toks) (fun b o hb q=>eb b o hb q) f0 f1 f3 f4 f5⟩
 self:=fun _ _ _ _ _ st h=>by
  obtain⟨⟨old,s1⟩,_⟩:=st;exact wpAny_pyIter_enum s1 h
def SqB (b:Bool) (K:Yae) (H:Hp) (a:Addr) (xs:List V):Prop:=match b with | true=>SqL K H a xs | false=>SqT K H a xs
def IteB (b:Bool) (K:Yae) (a:Addr):It:=match b with | true=>Ite K a | false=>IteT K a
def Zmf (K:Yae) (ta:TA):TI:=fun σ H R=>ta σ H fun vs H1=>∃ a b,vs=[.ref a]/\(∃ xs,SqB b K H1 a xs)/\R (IteB b K a) H1
theorem Zcp {X:Cx}{es:List Expr}{x1}{tpos:Pos}{e:Expr}{ta:TA}{p pos:Pos} (hg:Gl X "enumerate") (hm:X.mg "enumerate"=none) (ha:PA X [e] ta) (hs:starEach [e] X.env=[(false,eval e X.env)]:=by rfl) :
  PI X (.Tuple es x1 tpos) (.Call (.Name "enumerate" p) [e] [] pos) (Zmf X.K ta):=by
 intro pins s σ H R I h;refine Call_ (Zdg I hg hm (show bootBuiltins "enumerate"=some (.type "enumerate") by decide +kernel) (YbO (thn (ha pos pins s σ H _ I h) fun us s1 ⟨vs,H1,I1,r1,q1⟩=>?_) hs rfl));obtain⟨a,b,e1,⟨xs,hq⟩,q⟩:=q1;subst e1;obtain⟨u,rfl,r⟩:=ZcR r1;cases r;have fp:∀ b∈[s1.heap.objs.size+1,s1.heap.objs.size],FpOk X pins H1 b:=fun b hb=>by
  have ge:s1.heap.objs.size<=b:=by
   rcases Yao.mp hb with z | z
   ·rw[z];exact Ydm _
   ·have z:b=s1.heap.objs.size:=by simpa using z
    rw[z];exact Yag _
  exact I1.fpOk ge (I1.hok.fresh ge)
 cases b with
 | true=>
  obtain⟨its,rv,pl,hz⟩:=I1.list hq;refine call_enumerate_list pl.isList fun h' he hi hsz k=>wpAny_pyIter_enum he ?_;exact⟨s1.heap.objs.size+1,[s1.heap.objs.size+1,s1.heap.objs.size],_,_,H1,rfl,I1.kept (t':=s1.toks) k,Zim a s1.heap.objs.size _ (YbA (Ybs _)),⟨⟨.none,he⟩,hi⟩,fp,q⟩
 | false=>
  obtain⟨its,rv,pl,hz⟩:=I1.tuple hq;refine ZeP (show s1.heap.IsTuple a its.toArray from pl) fun h' he hi k=>wpAny_pyIter_enum he ?_;exact⟨s1.heap.objs.size+1,[s1.heap.objs.size+1,s1.heap.objs.size],_,_,H1,rfl,I1.kept (t':=s1.toks) k,Zht a s1.heap.objs.size _ (YbA (Ybs _)),⟨⟨.none,he⟩,hi⟩,fp,q⟩
theorem Zfx {b:Bool}{K:Yae}{a:Addr}{xs:List V}{g:TG}{tb:TS}{D:Ends}{σ:St}{H:Hp} (Pv:Nat->St->Hp->Prop) (h0:Pv 0 σ H) (hl:∀ i σ H,i<=xs.length->Pv i σ H->SqB b K H a xs)
  (hs:∀ i x p σ H,xs[i]?=some x->Pv i σ H->H p=none->g (.ref p) σ (upd H p (.tup [.int i,x])) fun σ2 H2=>tb { D with nx:=Pv (i+1),ct:=Pv (i+1),bk:=D.nx } σ2 H2) (hd:∀ σ H,Pv xs.length σ H->D.nx σ H) :
  ∃ W:Nat->Nat->St->Hp->Prop,(∃ m,W 0 m σ H)/\∀ i m σ H,W i m σ H ->
   ((IteB b K a).stop i H/\D.nx σ H)∨((IteB b K a).go i H/\∃ N:St->Hp->Prop,(∀ σ' H',N σ' H'->∃ m',m'<m/\W (i+1) m' σ' H')/\∀ x H',(IteB b K a).yld i H x H'->g x σ H' fun σ2 H2=>tb { D with nx:=N,ct:=N,bk:=D.nx } σ2 H2):=by
 refine⟨fun i m σ H=>m=xs.length - i/\i<=xs.length/\Pv i σ H,⟨xs.length,by simp,YaW _,h0⟩,?_⟩;rintro i m σ H ⟨rfl,hi,p⟩;have q:=hl i σ H hi p;by_cases hlt:i<xs.length
 ·have gx:xs[i]?=some xs[i]:=by simp[hlt]
  refine .inr ⟨by cases b <;> exact⟨xs,xs[i],q,gx⟩,Pv (i+1),fun σ' H' p'=>⟨xs.length - (i+1),by omega,rfl,hlt,p'⟩,fun x H' y=>?_⟩;have y:∃ pa z,H pa=none/\x=.ref pa/\H'=upd H pa (.tup [.int i,z])/\xs[i]?=some z:=by
   cases b with
   | true=>obtain⟨pa,z,hp,e1,e2,y⟩:=y;exact⟨pa,z,hp,e1,e2,y xs q⟩
   | false=>obtain⟨pa,z,hp,e1,e2,y⟩:=y;exact⟨pa,z,hp,e1,e2,y xs q⟩
  obtain⟨pa,z,hp,e1,e2,y'⟩:=y;subst e1 e2;exact hs i z pa σ H y' p hp
 ·have e:i=xs.length:=by omega
  subst e;exact .inl ⟨by cases b <;> exact⟨xs,q,Yag _⟩,hd σ H p⟩
end L2
namespace L2
open PySem PySem.Spec PyProof.Rows PySem.SeqAt
section
variable {X:Cx}
theorem Zcg (f:Nat->Int):∀ k i,i<=k->f (argBest (fun i j=>decide (f i<f j)) k)<=f i
 | 0,i,h=>by
  have:i=0:=by omega
  subst this;exact Ybx _
 | k+1,i,h=>by
  unfold argBest;by_cases e:f (k+1)<f (argBest (fun i j=>decide (f i<f j)) k)
  ·rw[if_pos (decide_eq_true e)];by_cases hi:i=k+1
   ·subst hi;exact Ybx _
   ·have:=Zcg f k i (by omega);omega
  ·rw[if_neg (by simpa using e)];by_cases hi:i=k+1
   ·subst hi;omega
   ·exact Zcg f k i (by omega)
theorem Zca (ns:List Int):∀ k,k<=ns.length->preSum (fun i=>ns.getD i 0) k=(ns.take k).sum
 | 0,_=>by simp[preSum]
 | k+1,h=>by
  have hk:k<ns.length:=by omega
  rw[YcG hk,YcW,<- Zca ns k (by omega)];simp[preSum,Yat,hk]
theorem ZbI (hc:X.calm=true):ZbK X (.builtin "sum") (fun xs H Q=>∃ (a:Addr) (ns:List Int),xs=[.ref a]/\SqL X.K H a (ns.map V.int)/\Q (.int ns.sum) H):=by
 intro pins s σ H xs us Q I r h;obtain⟨a,ns,rfl,hq,q⟩:=h;obtain⟨u,rfl,r1⟩:=ZcR r;cases r1;obtain⟨its,rv,p,hz⟩:=I.list hq;refine call_sum_walkG (wpAny_pyIter_list p.isList ?_);have hlt:=(let ⟨o,n,e,_⟩:=p;Yah e:a<s.heap.objs.size)
 have hne:a≠s.heap.objs.size:=Yaw hlt;have hlen:its.toArray.size=ns.length:=by rw[YaC,<- rv.length,Yac]
 refine⟨s.heap.objs.size,_,_,_,_,_,fun i=>ns.getD i 0,rfl,Yey (A:=X.A.in1) (I.ok.hd hc) _ a hne its.toArray,⟨⟨_,Yas _ rfl,rfl,rfl⟩,?_⟩,?_,?_,?_⟩
 ·obtain⟨o,n,e,c,_,d⟩:=p;exact⟨o,Yab _ e,c,n,d⟩
 ·intro b hb;rcases Yao.mp hb with z | z
  ·rw[z,YaY];exact Ybs _
  ·have z:b=a:=by simpa using z
   rw[z,YaY];exact Yby hlt
 ·intro i v e;have hi:i<its.toArray.size:=(Ya6.mp e).1
  obtain⟨t,q⟩:=Zdk rv hi;rw[YaP hi] at e;have e':=YaE e;rw[q] at e';exact⟨t,e'.symm⟩
 ·intro h' tk t' k;refine⟨.int ns.sum,H,I.kept (h':=h') (t':=tk) fun b o e=>k b o ?_ (Yab _ e),⟨t',?_⟩,q⟩
  ·intro hm;have:b=s.heap.objs.size:=by simpa using hm
   rw[this] at e;exact absurd (Yah e) (Ya7 _)
  ·rw[hlen,Zca ns _ (Yag _),YaO]
end
end L2
namespace L2
open PySem PySem.Spec PyProof.Rows PySem.SeqAt
section
variable {X:Cx}
end
end L2
namespace L2
open PySem PySem.Spec PyProof.Rows PySem.SeqAt
theorem Inv.pairOut {X:Cx}{pins:List (Addr × Obj)}{σ:St}{H:Hp}{s:Shared}{h':Heap}{fp:List Addr}{x y:V}{u v:Value}{tk:Nat} (I:Inv X pins σ H s) (hf:∀ b∈fp,FpOk X pins H b)
  (k:∀ b o,b ∉ fp->s.heap.get? b=some o->h'.get? b=some o) (ht:IsPair h' s.heap.objs.size u v) (hlf:∀ b∈fp,b<s.heap.objs.size) (hth:∀ b∈fp,∃ o,h'.get? b=some o) (rx:RelV x u) (ry:RelV y v) :
  Inv X pins σ (upd H s.heap.objs.size (.tup [x,y])) { s with heap:=h',toks:=tk }:=by
 have fresh:H s.heap.objs.size=none:=I.hok.fresh (Yag _);have nit:∀ b o,H b=some o->b ∉ fp:=fun b o q z=>by rw[(hf b z).1] at q;cases q
 have newOk:ObjOk X.prog X.w (upd H s.heap.objs.size (.tup [x,y])) h' s.heap.objs.size (.tup [x,y]):=by
  refine⟨?_,[u,v],.cons rx (.cons ry .nil),⟨_,ht,rfl,rfl,0,rfl⟩⟩;show 2<=sizeLine
  decide
 refine I.step (g':=s.gens) (d':=s.drawn) (ch:=fp) (fun b hb=>?_) (fun b o _ _ hc q _=>k b o hc q) (fun b o _ _ hc q _=>⟨o.slots,k b o hc q⟩) (fun b o _ q n=>?_) (fun b o hc q=>⟨o,k b o hc q⟩)
  (fun b xs q=>by rw[Zaf (Zag q fresh)];exact q) (fun b o xs q=>by rw[Zaf (Zag q fresh)];exact q) (fun b ps q=>⟨#[],by rw[Zaf (Zag q fresh),q];simp⟩) (fun m hm=>?_) (fun b ob q=>?_) I.bare
 ·obtain⟨f0,f1,f2,f3,f4,f5⟩:=hf b hb;exact⟨f3,f1,f4,f5⟩
 ·rw[Zaf (Yaw (Yah q))];exact n
 ·obtain⟨o,es,ep,ho,r⟩:=hm;exact⟨o,es,ep,k _ o (fun z=>(hf _ z).2.1 rfl) ho,r⟩
 ·by_cases hb:b=s.heap.objs.size
  ·subst hb;rw[Zab] at q;cases q;exact newOk
  ·rw[Zaf hb] at q;refine (I.hok b ob q).stay (fun c v hc r=>k c v ?_ r) (fun c r=>by rw[Zaf (Zag r fresh)];exact r) fun c xs r=>by rw[Zaf (Zag r fresh)];exact r
   rcases hc with z | z
   ·rw[z];exact nit b ob q
   ·exact nit c _ z
theorem Inv.turnedAll {X:Cx}{pins:List (Addr × Obj)}{σ:St}{H:Hp}{s:Shared}{h':Heap}{fp:List Addr}{tk:Nat} (I:Inv X pins σ H s) (hf:∀ b∈fp,FpOk X pins H b) (k:∀ b o,b ∉ fp->s.heap.get? b=some o->h'.get? b=some o) :
  Inv X pins σ H { s with heap:=h',toks:=tk }:=by
 have nit:∀ b o,H b=some o->b ∉ fp:=fun b o q z=>by rw[(hf b z).1] at q;cases q
 refine I.step (g':=s.gens) (d':=s.drawn) (ch:=fp) (fun b hb=>?_) (fun b o _ _ hc q _=>k b o hc q) (fun b o _ _ hc q _=>⟨o.slots,k b o hc q⟩) (fun b o _ q n=>n) (fun b o hc q=>⟨o,k b o hc q⟩) (fun _ _ q=>q) (fun _ _ _ q=>q) (fun b ps q=>⟨#[],by rw[q];simp⟩) (fun m hm=>?_) (fun b ob q=>?_) I.bare
 ·obtain⟨f0,f1,f2,f3,f4,f5⟩:=hf b hb;exact⟨f3,f1,f4,f5⟩
 ·obtain⟨o,es,ep,ho,r⟩:=hm;exact⟨o,es,ep,k _ o (fun z=>(hf _ z).2.1 rfl) ho,r⟩
 ·refine (I.hok b ob q).stay (fun c v hc r=>k c v ?_ r) (fun _ q=>q) fun _ _ q=>q;rcases hc with z | z
  ·rw[z];exact nit b ob q
  ·exact nit c _ z
end L2
namespace L2
open PySem PySem.Spec PyProof.Rows PySem.SeqAt
section
variable {X:Cx}
theorem Zm2:OpR X (binaryOp .Mult) (rI (fun i j=>∃ m n,Ya3 i<=m/\Ya3 j<=n/\m+n<=134217728) fun i j=>.int (i*j)) :=
 opI fun _ _ _ _ _ _ _ hc q=>mul_int q (by obtain⟨m,n,h1,h2,h3⟩:=hc;exact IntMulOk.of_le h1 h2 h3)
theorem Zla:OpR X (binaryOp .FloorDiv) (rI (fun _ j=>0<j/\Ya3 j<=8000) fun i j=>.int (i / j)):=opI fun i j _ _ _ _ _ hc q=>by
 have h1:(0:Int)<j:=hc.1;have h2:j.natAbs<2 ^ 8000:=intBits_le_iff.mp hc.2;refine floordiv_int (by omega) (by rw[YeH i (by omega)];exact q) (.inl (PyProof.noPylong_of_log2 ?_));have h3:j.natAbs.log2<8000:=(Nat.log2_lt (by omega)).mpr h2;omega
theorem ZiM {ns ms:List Int}:(((YaT (min ns.length ms.length)).all fun i=>ns.getD i 0 == ms.getD i 0) && (ns.length == ms.length))=decide (ns=ms):=by
 by_cases h:ns.length=ms.length
 ·rw[<- h,Nat.min_self,ZkX h];simp
 ·rw[decide_eq_false (fun z=>h (by rw[z]))];simp[h]
def rNeT (K:Yae):R2:=fun x y H Q=>∃ (a b:Addr) (ns ms:List Int),x=.ref a/\y=.ref b/\SqT K H a (ns.map V.int)/\SqT K H b (ms.map V.int)/\Q (.bl (!decide (ns=ms))) H
theorem Zod (hu:X.A.units<cLine):OpR X (compareOp .NotEq) (rNeT X.K):=by
 intro pins s σ H x y v u Q I rx ry h;obtain⟨a,b,ns,ms,rfl,rfl,ha,hb,q⟩:=h;cases rx;cases ry;obtain⟨its,r1,p1,_⟩:=I.tuple ha;obtain⟨its2,r2,p2,_⟩:=I.tuple hb;have l1:its.toArray.size=ns.length:=by rw[YaC,<- r1.length,Yac]
 have l2:its2.toArray.size=ms.length:=by rw[YaC,<- r2.length,Yac]
 refine RcNeAt.tuples (e:=fun i=>ns.getD i 0 == ms.getD i 0) (show s.heap.IsTuple a its.toArray from p1) (show s.heap.IsTuple b its2.toArray from p2) hu (fun j h1 h2=>?_) _ _ _ _ ?_
 ·obtain⟨t1,e1⟩:=Zdk r1 h1;obtain⟨t2,e2⟩:=Zdk r2 h2;rw[e1,e2];exact EqAt.int_int _ _ _ _
 ·rw[l1,l2,ZiM];exact⟨.bl _,H,I,rfl,q⟩
theorem Zkp (hc:X.calm=true):ZbK X (.builtin "sum") (fun xs H Q=>∃ (a:Addr) (ns:List Int),xs=[.ref a]/\SqT X.K H a (ns.map V.int)/\Q (.int ns.sum) H):=by
 intro pins s σ H xs us Q I r h;obtain⟨a,ns,rfl,hq,q⟩:=h;obtain⟨u,rfl,r1⟩:=ZcR r;cases r1;obtain⟨its,rv,p0,hz⟩:=I.tuple hq;have p:s.heap.IsTuple a its.toArray:=p0;refine call_sum_walkG (wpAny_pyIter_tuple p ?_);have hlt:a<s.heap.objs.size:=by obtain⟨o,e,_⟩:=p;exact Yah e
 have hne:a≠s.heap.objs.size:=Yaw hlt;have hlen:its.toArray.size=ns.length:=by rw[YaC,<- rv.length,Yac]
 refine⟨s.heap.objs.size,_,_,_,_,_,fun i=>ns.getD i 0,rfl,Ye3 (A:=X.A.in1) (I.ok.hd hc) _ a hne its.toArray,⟨⟨_,Yas _ rfl,rfl,rfl⟩,?_⟩,?_,?_,?_⟩
 ·obtain⟨o,e,c,d⟩:=p;exact⟨o,Yab _ e,c,d⟩
 ·intro b hb;rcases Yao.mp hb with z | z
  ·rw[z,YaY];exact Ybs _
  ·have z:b=a:=by simpa using z
   rw[z,YaY];exact Yby hlt
 ·intro i v e;have hi:i<its.toArray.size:=(Ya6.mp e).1
  obtain⟨t,q⟩:=Zdk rv hi;rw[YaP hi] at e;have e':=YaE e;rw[q] at e';exact⟨t,e'.symm⟩
 ·intro h' tk t' k;refine⟨.int ns.sum,H,I.kept (h':=h') (t':=tk) fun b o e=>k b o ?_ (Yab _ e),⟨t',?_⟩,q⟩
  ·intro hm;have:b=s.heap.objs.size:=by simpa using hm
   rw[this] at e;exact absurd (Yah e) (Ya7 _)
  ·rw[hlen,Zca ns _ (Yag _),YaO]
end
section
variable {prog:Program}{w:World}{A:Around}{E:Value->Shared->Prop}{s:Shared}
end
section
variable {X:Cx}
end
theorem ZcV {K:Yae}{own:List Str}{js:List Nat}{g:TG}{tt:TT}{te:TE}{σ:St}{H1:Hp}{Q:VK}{a:Addr}{xs:List V} (Pv:Addr->Nat->Hp->Prop) (h0:∀ acc,H1 acc=none->Pv acc 0 (upd H1 acc (.lst []))) (hl:∀ acc i H,H1 acc=none->i<=xs.length->Pv acc i H->SqT K H a xs)
  (hs:∀ acc i x H,H1 acc=none->xs[i]?=some x->Pv acc i H->g x (blkσ own js σ) H fun τ H4=>tt τ H4 fun c H5=>
   if c=true then te τ H5 fun y H6=>∃ ys,H6 acc=some (.lst ys)/\ys.length<sizeLine/\(i+1<=xs.length/\Pv acc (i+1) (upd H6 acc (.lst (ys++[y])))) else (i+1<=xs.length/\Pv acc (i+1) H5))
  (hd:∀ acc H,H1 acc=none->Pv acc xs.length H->Q (.ref acc) H):Zbp own js g tt te σ (Itt K a) H1 Q:=by
 intro acc hacc;refine⟨fun i H=>i<=xs.length/\Pv acc i H,xs.length,⟨YaW _,h0 acc hacc⟩,?_⟩;rintro i H ⟨hi,p⟩;have q:=hl acc i H hacc hi p;by_cases hlt:i<xs.length
 ·refine .inr ⟨hlt,⟨xs,xs[i],q,by simp[hlt]⟩,fun x H' y=>?_⟩;obtain⟨e,y⟩:=y;subst e;exact hs acc i x _ hacc (y xs q) p
 ·have e:i=xs.length:=by omega
  subst e;exact .inl ⟨⟨xs,q,Yag _⟩,hd acc H hacc p⟩
end L2
namespace Lv
open PySem L2
theorem ZiZ {X:Cx}{x:Str}{T:String}{pos:Pos} (hg:Gl X x) (hm:X.mg x=none) (hv:bootBuiltins x=some (.type T)) (hn:x≠"__name__":=by decide) (hd:(x == ("__debug__":Str))=false:=by decide):PE X (.Name x pos) (tC (.ty T)) :=
 ZmZ hg hm hv rfl hn hd
theorem Zez {X:Cx}{x:Str}{i:Int}{t:Tok}{pos:Pos} (hg:Gl X x) (hm:X.mg x=some (.int i t)) (hd:(x == ("__debug__":Str))=false:=by decide):PE X (.Name x pos) (tC (.int i)) :=
 Zi1 hg hm ⟨t,rfl⟩ hd
structure Txt (mg:Str->Option Value):Prop where
 isinstance:mg "isinstance"=none
 int:mg "int"=none
 bool:mg "bool"=none
 list:mg "list"=none
 tuple:mg "tuple"=none
 min:mg "min"=none
 max:mg "max"=none
 len:mg "len"=none
 range:mg "range"=none
 all:mg "all"=none
 sum:mg "sum"=none
 sorted:mg "sorted"=none
 zip:mg "zip"=none
theorem Zbm:bootBuiltins "isinstance"=some (.builtin "isinstance"):=by decide +kernel
theorem Zpe:bootBuiltins "int"=some (.type "int"):=by decide +kernel
theorem ZoD:bootBuiltins "bool"=some (.type "bool"):=by decide +kernel
theorem ZoB:bootBuiltins "list"=some (.type "list"):=by decide +kernel
theorem ZbJ:bootBuiltins "tuple"=some (.type "tuple"):=by decide +kernel
theorem ZlO:bootBuiltins "min"=some (.builtin "min"):=by decide +kernel
theorem Zpf:bootBuiltins "all"=some (.builtin "all"):=by decide +kernel
theorem Zib:bootBuiltins "sum"=some (.builtin "sum"):=by decide +kernel
theorem ZeR:bootBuiltins "sorted"=some (.builtin "sorted"):=by decide +kernel
theorem Zgg {K:Yae}:Yc0 K (.type "int") (.type "int")=some true:=by rfl
theorem Zfn {K:Yae}:Yc0 K (.type "int") (.type "bool")=some false:=by with_unfolding_all rfl
theorem Zdi {K:Yae}:Yc0 K (.type "tuple") (.type "tuple")=some true:=by rfl
structure Cal (P:Program) (w:World) (K:Yae) (mg:Str->Option Value) (base:Heap) (k:Nat) (x:Str) (ps:List Str) (sp:Sp) (f:Addr) (fd:FuncData):Prop where
 ok:FnOk P w K mg base CX0 k f fd ps sp
 mg:mg x=some (.ref f)
 kp:Yan K (.ref f)=true
 bd:Binds K fd ps []
theorem Zap {X:Cx}{k:Nat}{x:Str}{ps:List Str}{sp:Sp}{f:Addr}{fd:FuncData}{e:Expr}{es:List Expr}{t:TA}{p pos:Pos} (C:Cal X.prog X.w X.K X.mg X.base k x ps sp f fd) (hr:Room k X.A) (hg:Gl X x) (ha:PA X (e::es) t)
  (hdb:(x == ("__debug__":Str))=false:=by decide) (he:starEach (e::es) X.env=(false,eval e X.env)::starEach es X.env:=by rfl) (hpl:(backTo pos (starEach es X.env)).any (·.1)=false:=by rfl) :
  PE X (.Call (.Name x p) (e::es) [] pos) (ZkJ sp [] E0 t):=Zi3 C.ok hr hg C.mg C.kp C.bd .nil Zm0 ha hdb he hpl
theorem ZeC (K:Yae) {X:Cx} (hK:X.K=K:=by rfl):IxR X (rIxL K):=by subst hK;exact Zaz
theorem Znk (K:Yae) {X:Cx} (hK:X.K=K:=by rfl):IxR X (rIxT K):=by subst hK;exact Zb2
theorem Zcc {xs:List Int}{i:Nat}{x:V} (h:(xs.map V.int)[i]?=some x):∃ p,xs[i]?=some p/\x=.int p:=by
 rw[Yam] at h
 cases e:xs[i]? with
 | none=>rw[e] at h;cases h
 | some p=>rw[e] at h;exact⟨p,rfl,(YaE h).symm⟩
theorem _root_.L2.Same.new {q:Addr}{H:Hp}{o:HO} (h:H q=none):Same H (upd H q o):=fun b u e=>by rw[Zaf (Zag e h)];exact e
theorem _root_.L2.Same.put {q:Addr}{H H':Hp}{o:HO} (s:Same H H') (h:H q=none):Same H (upd H' q o):=fun b u e=>by rw[Zaf (Zag e h)];exact s b u e
theorem _root_.L2.Same.tup {K:Yae}{H H':Hp}{a:Addr}{xs:List V} (e:Same H H') (h:SqT K H a xs):SqT K H' a xs:=by
 rcases h with (h | ⟨o,h⟩) | h
 ·exact .inl (.inl (e _ _ h))
 ·exact .inl (.inr ⟨o,e _ _ h⟩)
 ·exact .inr h
theorem Zg8 {n:Nat}{x:Int} (h0:0<=x) (h1:x<n):ixN n x=some x.toNat:=by
 unfold ixN;rw[if_pos h0,if_pos h1]
theorem Zby {fs:List Int}{x:Int} (h0:0<=x) (h1:x<fs.length):atI (fs.map V.int) x=some (.int (fs.getD x.toNat 0)):=by
 unfold atI;have hx:x.toNat<fs.length:=by omega
 rw[Yac,Zg8 h0 h1];show (fs.map V.int)[x.toNat]?=_;rw[Yam,Yaa hx,Yat,Yaa hx];rfl
theorem ZlQ {c0:Int}{cr:List Int}:atI ((c0::cr).map V.int) 0=some (.int c0):=Zbx (j:=0) rfl
theorem cutG {i:Nat}{x:V}{a R:TS}{D:Ends}{σ:St}{H:Hp} (M:St->Hp->Prop) (h1:∀ R':TS,(∀ σ' H',M σ' H'->R' D σ' H')->Zbw i x σ H (tSeq a R' D)) (h2:∀ σ' H',M σ' H'->R D σ' H'):Zbw i x σ H (tSeq a R D):=h1 R h2
def Zcv:Sp:=fun vs H Q _=>∃ i,vs=[.int i]/\Q (.bl true) H
theorem Zbi {m:Int} (h0:0<=m) (h1:m<2 ^ 64):Ya3 m<=8000:=Ybv (intBits_le_64 (by omega) h1) (by decide)
def Zbt (c:List Int):List Int:=(c.tail.map (c.getD 0 0+·))++[c.getD 0 0]
def Zcs (p:Nat):List Int:=1::Yai (p - 1) 0
def cnt (p:Nat):Nat->List Int
 | 0=>Zcs p
 | n+1=>Zbt (cnt p n)
theorem Zjo {c:List Int} (h:c≠[]):(Zbt c).length=c.length:=by
 cases c with
 | nil=>exact absurd rfl h
 | cons x r=>simp[Zbt]
theorem Zdo {p:Nat} (hp:1<=p):∀ n,(cnt p n).length=p
 | 0=>by simp[cnt,Zcs];omega
 | n+1=>by
  have:=Zdo hp n;show (Zbt (cnt p n)).length=p;rw[Zjo (by intro z;rw[z] at this;simp at this;omega),this]
def Down (c:List Int):Prop:=c.Pairwise (· ≥ ·)/\∀ x∈c,0<=x
theorem Zj7 {c:List Int} (h:Down c):Down (Zbt c):=by
 cases c with
 | nil=>exact⟨by simp[Zbt],by intro x hx;simp[Zbt] at hx;omega⟩
 | cons a r=>
  obtain⟨h1,h2⟩:=h;have h3:=YaZ.mp h1;have h0:0<=a:=h2 a (by simp);refine⟨?_,?_⟩
  ·show ((r.map (a+·))++[a]).Pairwise (· ≥ ·);rw[YaR];refine⟨?_,by simp,?_⟩
   ·rw[Ya1];exact h3.2.imp fun h=>by omega
   ·intro x hx y hy;obtain⟨z,hz,rfl⟩:=YaG.mp hx;have:=h2 z (by simp[hz]);have:y=a:=by simpa using hy
    omega
  ·show ∀ x∈(r.map (a+·))++[a],0<=x;intro x hx;rcases Yaj.mp hx with hx | hx
   ·obtain⟨z,hz,rfl⟩:=YaG.mp hx;have:=h2 z (by simp[hz]);omega
   ·have:x=a:=by simpa using hx
    omega
theorem Zct (p:Nat):∀ n,Down (cnt p n)
 | 0=>by
  refine⟨?_,?_⟩
  ·show (1::Yai (p - 1) (0:Int)).Pairwise (· ≥ ·);rw[YaZ];refine⟨fun y hy=>?_,?_⟩
   ·have:=(YbZ.mp hy).2
    omega
   ·rw[YeO];exact .inr (Ybx _)
  ·intro x hx;rcases Yao.mp hx with rfl | hx
   ·decide
   ·have:=(YbZ.mp hx).2
    omega
 | n+1=>Zj7 (Zct p n)
def ZdI:Sp:=fun vs H Q _=>∃ i,vs=[.int i]/\2<=i/\i<=7/\Q .non H
def Zf3:Sp:=fun vs H Q _=>∃ p:Nat,vs=[.int p]/\2<=p/\p<=7/\∀ l H',H l=none->H' l=some (.tup ((Zcs p).map V.int))->Same H H'->Q (.ref l) H'
def ZiC (K:Yae):Sp:=fun vs H Q _=>∃ (a:Addr) (c:List Int),vs=[.ref a]/\SqT K H a (c.map V.int)/\2<=c.length/\c.length<=7/\∀ l H',H l=none->H' l=some (.tup ((Zbt c).map V.int))->Same H H'->Q (.ref l) H'
def Zep:Sp:=fun vs H Q _=>∃ p n:Nat,vs=[.int p,.int n]/\2<=p/\p<=7/\n<=300/\∀ l H',H l=none->H' l=some (.tup ((cnt p n).map V.int))->Same H H'->Q (.ref l) H'
def ZfW:Sp:=fun vs H Q _=>∃ p n:Nat,vs=[.int p,.int n]/\2<=p/\p<=7/\n<=300/\∀ H',Same H H'->Q (.int (cnt p n).sum) H'
def ZiD (K:Yae):Sp:=fun vs H Q _=>∃ (a:Addr) (ns:List Int),vs=[.ref a]/\SqL K H a (ns.map V.int)/\ns.length<=63/\∀ H',Q (.bl true) H'
end Lv
namespace Lv
open PySem L2
def hd (p n:Nat):Int:=(cnt p n).getD 0 0
def tot (p n:Nat):Int:=(cnt p n).sum
theorem ZeN {p:Nat} (hp:2<=p) (n:Nat):∃ a b r,cnt p n=a::b::r/\r.length=p - 2:=by
 have h:=Zdo (p:=p) (by omega) n
 match hc:cnt p n with
 | []=>rw[hc] at h;simp at h;omega
 | [x]=>rw[hc] at h;simp at h;omega
 | a::b::r=>rw[hc] at h;exact⟨a,b,r,rfl,by simp at h;omega⟩
theorem Zfu {p:Nat} (hp:2<=p):∀ n,1<=hd p n
 | 0=>by simp[hd,cnt,Zcs]
 | n+1=>by
  obtain⟨a,b,r,e,_⟩:=ZeN hp n;have ih:=Zfu hp n;have nn:=(Zct p n).2 b (by rw[e];simp);unfold hd at ih ⊢;show 1<=(Zbt (cnt p n)).getD 0 0;rw[e] at ih ⊢;simp[Zbt] at ih ⊢;omega
theorem Ziy (c:Int):∀ r:List Int,(r.map (c+·)).sum=r.length*c+r.sum
 | []=>by simp
 | x::r=>by
  rw[YaH,YaS,Ziy c r,YaS,YaU,Int.natCast_succ,Yew];omega
theorem ZkL (a:Int) (r:List Int):(Zbt (a::r)).sum=(a::r).sum+r.length*a:=by
 show ((r.map (a+·))++[a]).sum=_;rw[YcW,Ziy,YaS,YaS,List.sum_nil];omega
theorem Zd9 {p:Nat} (hp:2<=p) (n:Nat):tot p (n+1)=tot p n+(p - 1:Nat)*hd p n:=by
 obtain⟨a,b,r,e,hr⟩:=ZeN hp n;unfold tot hd;show (Zbt (cnt p n)).sum=_;rw[e,ZkL];have:(b::r).length=p - 1:=by simp;omega
 rw[this];rfl
theorem Ziq {p:Nat} (hp:2<=p) (n:Nat):tot p n+1<=tot p (n+1):=by
 rw[Zd9 hp];have h1:=Zfu hp n;have h2:((1:Nat):Int)*1<=((p - 1:Nat):Int)*hd p n:=Int.mul_le_mul (by omega) h1 (by decide) (by omega);omega
theorem ZbN {p:Nat} (hp:2<=p) {m n:Nat} (h:m<=n):tot p m<=tot p n:=by
  induction n with
  | zero => have : m = 0 := by omega
            subst this;exact Ybx _
  | succ n ih=>
    by_cases e:m=n+1
    · subst e;exact Ybx _
    · have:=ih (by omega);have:=Ziq hp n;omega
theorem ZnV {c:List Int} (h:∀ x∈c,0<=x):c.getD 0 0<=c.sum:=by
 cases c with
 | nil=>simp
 | cons a r=>
  have:∀ l:List Int,(∀ x∈l,0<=x)->0<=l.sum:=by
   intro l
   induction l with
   | nil=>intro _;simp
   | cons x y ih=>
    intro h;rw[YaS];have:=h x (by simp);have:=ih fun z hz=>h z (by simp[hz]);omega
  have:=this r fun x hx=>h x (by simp[hx]);rw[YaS];simp;omega
end Lv
namespace L2
open PySem PySem.Spec PyProof.Rows PySem.SeqAt
def HIt (b:Bool) (h:Heap) (it l:Addr) (i:Nat):Prop:=match b with | true=>h.IsListIter it l i | false=>h.IsTupleIter it l i
def HSq (b:Bool) (h:Heap) (l:Addr) (xs:Array Value):Prop:=match b with | true=>h.IsList l xs | false=>h.IsTuple l xs
theorem HIt.at {b:Bool}{h h':Heap}{it l:Addr}{i:Nat} (x:HIt b h it l i) (e:∀ o,h.get? it=some o->h'.get? it=some o):HIt b h' it l i:=by
 cases b
 ·exact Heap.IsTupleIter.at x e
 ·exact Heap.IsListIter.at x e
theorem HIt.ext {b:Bool}{h h':Heap}{it l c:Addr}{i:Nat} (x:HIt b h it l i) (hs:YdE c h h') (n:it≠c):HIt b h' it l i:=x.at fun o e=>hs _ _ n e
theorem HIt.obj {b:Bool}{h:Heap}{it l:Addr}{i:Nat} (x:HIt b h it l i):∃ o,h.get? it=some o/\∀ v:Option Value,o.data≠.cell v:=by
 cases b
 ·obtain⟨o,e,_,d⟩:=x;exact⟨o,e,fun v q=>by rw[d] at q;cases q⟩
 ·obtain⟨o,e,_,d⟩:=x;exact⟨o,e,fun v q=>by rw[d] at q;cases q⟩
theorem HSq.ext {b:Bool}{h h':Heap}{l c:Addr}{xs:Array Value} (x:HSq b h l xs) (hs:YdE c h h') (n:l≠c):HSq b h' l xs:=by
 cases b
 ·exact Heap.IsTuple.extBut x hs n
 ·exact Heap.IsList.extBut x hs n
section
variable {prog:Program}{w:World}{A:Around}{E:Value->Shared->Prop}{s:Shared}
theorem Znc {b:Bool}{it l:Addr}{i:Nat}{items:Array Value}{x:Value}{Q:Value->Shared->Prop} (hit:HIt b s.heap it l i) (hl:HSq b s.heap l items) (hx:items[i]?=some x) (hQ:∀ h',HIt b h' it l (i+1)->Yck it s.heap h'->Q x { s with heap:=h' }) :
  wpAny (model prog w) A (Ybc (.ref it)) Q E s:=by
 cases b
 ·exact Zd2 hit hl hx hQ
 ·exact wpAny_nextOf_list_item hit hl hx hQ
theorem Zfi {b:Bool}{it l:Addr}{i:Nat}{items:Array Value}{Q:Value->Shared->Prop} (hh:A.handled=none) (hit:HIt b s.heap it l i) (hl:HSq b s.heap l items) (hx:items[i]?=none)
  (hE:∀ h' e,YdE it s.heap h'->(∃ o,h'.get? e=some o/\o.cls=.type "StopIteration")->E (.ref e) { s with heap:=h' }):wpAny (model prog w) A (Ybc (.ref it)) Q E s:=by
 cases b
 ·exact Zbo hh hit hl hx hE
 ·exact wpAny_nextOf_list_end hh hit hl hx hE
theorem Zig {b1 b2:Bool}{z TI TO i1 i2 l1 l2:Addr}{k1 k2:Nat}{xs ys:Array Value}{x y a b:Value}{Q:Value->Shared->Prop} (D:ZipApart z TI TO i1 i2 l1 l2) (hz:IsZip s.heap z TI TO .none) (hTI:IsPair s.heap TI (.ref i1) (.ref i2)) (hTO:IsPair s.heap TO a b)
  (h1:HIt b1 s.heap i1 l1 k1) (h2:HIt b2 s.heap i2 l2 k2) (hl1:HSq b1 s.heap l1 xs) (hl2:HSq b2 s.heap l2 ys) (hx:xs[k1]?=some x) (hy:ys[k2]?=some y)
  (hQ:∀ h',IsZip h' z TI TO (rawInt s.heap.objs.size)->IsPair h' TO x y->HIt b1 h' i1 l1 (k1+1)->HIt b2 h' i2 l2 (k2+1)->IsPair h' s.heap.objs.size x y->h'.objs.size=s.heap.objs.size+1 ->
   (∀ c o,c≠z->c≠TO->c≠i1->c≠i2->s.heap.get? c=some o->h'.get? c=some o)->Q (.ref s.heap.objs.size) { s with heap:=h' }) :
  wpAny (model prog w) A (Builtin.«zip.__next__» ⟨[.ref z],[]⟩) (fun fin s'=>∃ v,fin=.done (.ret v)/\Q v s') E s:=by
 refine wpAny_bind (m:=field (.ref z) 2) (wpAny_field hz rfl (x:=.bool false) rfl ?_);refine wpAny_bind (m:=field (.ref z) 3) (wpAny_field hz rfl (x:=.ref TI) rfl (wpAny_bind (wpAny_seqItems hTI rfl ?_)));refine wpAny_bind (m:=YbK (.ref z)) ?_;unfold YbK;refine wpAny_bind (wpAny_field hz rfl (x:=.none) rfl (wpAny_pure ?_));simp only[if_true];refine wpAny_bind (wpAny_rule (wpAny_bind (wpAny_field hz rfl (x:=.ref TO) rfl ?_)));refine wpAny_bind (wpAny_setField_rec hz (by simp) fun h₁ hz₁ hs₁=>?_)
 replace hz₁:IsZip h₁ z TI TO .ellipsis:=hz₁
 refine wpAny_bind ?_;simp only[YdX,List.zipIdx_nil,Yef,List.forIn_nil];refine wpAny_bind (wpAny_bind (wpAny_onRaise (wpAny_bind (m:=Ybc (.ref i1)) ?_)));refine Znc (h1.ext hs₁.extBut D.i1z) (hl1.ext hs₁.extBut D.l1z) hx fun h₂ h1₂ hs₂=>wpAny_pure ?_;have t2:IsPair h₂ TO a b:=hs₂.extBut _ _ D.TOi1 (hs₁.extBut _ _ D.TOz hTO);refine wpAny_bind (wpAny_seqItems t2 rfl (wpAny_bind (wpAny_updateSeq_pair t2 fun h₃ hTO₃ hs₃=>?_)))
 replace hTO₃:IsPair h₃ TO x b:=hTO₃
 refine wpAny_bind (wpAny_letGo (wpAny_pure (wpAny_bind (wpAny_bind (wpAny_onRaise (wpAny_bind (m:=Ybc (.ref i2)) ?_))))));refine Znc (((h2.ext hs₁.extBut D.i2z).ext hs₂.extBut D.i12.symm).ext hs₃.extBut D.TOi2.symm) (((hl2.ext hs₁.extBut D.l2z).ext hs₂.extBut D.l2i1).ext hs₃.extBut D.l2TO) hy fun h₄ h2₄ hs₄=>wpAny_pure ?_;have t4:IsPair h₄ TO x b:=hs₄.extBut _ _ D.TOi2 hTO₃;refine wpAny_bind (wpAny_seqItems t4 rfl (wpAny_bind (wpAny_updateSeq_pair t4 fun h₅ hTO₅ hs₅=>?_)))
 replace hTO₅:IsPair h₅ TO x y:=hTO₅
 refine wpAny_bind (wpAny_letGo (wpAny_pure (wpAny_pure (wpAny_bind (wpAny_seqItems hTO₅ rfl (wpAny_bind (wpAny_newTuple ?_)))))));have hsz:h₅.objs.size=s.heap.objs.size:=by rw[hs₅.1,hs₄.1,hs₃.1,hs₂.1,hs₁.1]
 have hz₅:IsZip h₅ z TI TO .ellipsis:=hs₅.extBut _ _ D.TOz.symm (hs₄.extBut _ _ D.i2z.symm (hs₃.extBut _ _ D.TOz.symm (hs₂.extBut _ _ D.i1z.symm hz₁)));have k5:∀ c o,c≠z->c≠TO->c≠i1->c≠i2->s.heap.get? c=some o->h₅.get? c=some o:=fun c o c1 c2 c3 c4 e=>hs₅.extBut _ _ c2 (hs₄.extBut _ _ c4 (hs₃.extBut _ _ c2 (hs₂.extBut _ _ c3 (hs₁.extBut _ _ c1 e))));have j1:HIt b1 h₅ i1 l1 (k1+1):=((h1₂.ext hs₃.extBut D.TOi1.symm).ext hs₄.extBut D.i12).ext hs₅.extBut D.TOi1.symm;have j2:HIt b2 h₅ i2 l2 (k2+1):=h2₄.ext hs₅.extBut D.TOi2.symm;have zlt:z<h₅.objs.size:=Yah hz₅;refine wpAny_bind (m:=Yc4 (.ref z) (.ref h₅.objs.size)) ?_;unfold Yc4;have hz₆:IsZip (h₅.push { cls:=.type "tuple",data:=.seq #[x,y] }) z TI TO .ellipsis:=Yab _ hz₅;refine wpAny_bind (wpAny_setField_rec hz₆ (by simp) fun h₇ hz₇ hs₇=>?_)
 replace hz₇:IsZip h₇ z TI TO (rawInt h₅.objs.size):=hz₇
 refine wpAny_setField_rec hz₇ (by simp) fun h₈ hz₈ hs₈=>?_
 replace hz₈:IsZip h₈ z TI TO (rawInt h₅.objs.size):=hz₈
 have up:∀ c o,c≠z->h₅.get? c=some o->h₈.get? c=some o:=fun c o c1 e=>hs₈.extBut _ _ c1 (hs₇.extBut _ _ c1 (Yab _ e));have t8:IsPair h₈ h₅.objs.size x y:=hs₈.extBut _ _ (YbA zlt) (hs₇.extBut _ _ (YbA zlt) (Yas _ rfl));have z8:h₈.objs.size=h₅.objs.size+1:=by rw[hs₈.1,hs₇.1,YaY]
 rw[hsz] at hz₈ t8 z8;refine wpAny_pure ⟨_,rfl,?_⟩;show Q (.ref h₅.objs.size) _;rw[hsz];exact hQ h₈ hz₈ (up _ _ D.TOz hTO₅) (j1.at fun o e=>up _ o D.i1z e) (j2.at fun o e=>up _ o D.i2z e) t8 z8 fun c o c1 c2 c3 c4 e=>up c o c1 (k5 c o c1 c2 c3 c4 e)
theorem ZkC {b1 b2:Bool}{z TI TO i1 i2 l1 l2:Addr}{k1 k2:Nat}{xs ys:Array Value}{a b:Value}{Q:Fin->Shared->Prop} (hh:A.handled=none) (D:ZipApart z TI TO i1 i2 l1 l2) (hz:IsZip s.heap z TI TO .none) (hTI:IsPair s.heap TI (.ref i1) (.ref i2)) (hTO:IsPair s.heap TO a b)
  (h1:HIt b1 s.heap i1 l1 k1) (h2:HIt b2 s.heap i2 l2 k2) (hl1:HSq b1 s.heap l1 xs) (hl2:HSq b2 s.heap l2 ys) (hend:xs[k1]?=none∨ys[k2]?=none)
  (hE:∀ h' e,(∀ c o,c≠z->c≠TO->c≠i1->c≠i2->s.heap.get? c=some o->h'.get? c=some o)->(∃ o,h'.get? e=some o/\o.cls=.type "StopIteration")->E (.ref e) { s with heap:=h' }):wpAny (model prog w) A (Builtin.«zip.__next__» ⟨[.ref z],[]⟩) Q E s:=by
 refine wpAny_bind (m:=field (.ref z) 2) (wpAny_field hz rfl (x:=.bool false) rfl ?_);refine wpAny_bind (m:=field (.ref z) 3) (wpAny_field hz rfl (x:=.ref TI) rfl (wpAny_bind (wpAny_seqItems hTI rfl ?_)));refine wpAny_bind (m:=YbK (.ref z)) ?_;unfold YbK;refine wpAny_bind (wpAny_field hz rfl (x:=.none) rfl (wpAny_pure ?_));simp only[if_true];refine wpAny_bind (wpAny_rule (wpAny_bind (wpAny_field hz rfl (x:=.ref TO) rfl ?_)));refine wpAny_bind (wpAny_setField_rec hz (by simp) fun h₁ hz₁ hs₁=>?_)
 replace hz₁:IsZip h₁ z TI TO .ellipsis:=hz₁
 refine wpAny_bind ?_;simp only[YdX,List.zipIdx_nil,Yef,List.forIn_nil];refine wpAny_bind (wpAny_bind (wpAny_onRaise (wpAny_bind (m:=Ybc (.ref i1)) ?_)))
 cases hx:xs[k1]? with
 | none=>
  refine Zfi hh (h1.ext hs₁.extBut D.i1z) (hl1.ext hs₁.extBut D.l1z) hx fun h₂ e hs₂ ⟨oe,hoe,hce⟩=>?_;have hz₂:IsZip h₂ z TI TO .ellipsis:=hs₂ _ _ D.i1z.symm hz₁;have ez:e≠z:=fun x=>by subst x;rw[hz₂] at hoe;cases hoe;simp at hce
  exact wpAny_setField_rec hz₂ (by simp) fun h₃ _ hs₃=>hE h₃ e (fun c o c1 _ c3 _ x=>hs₃.extBut _ _ c1 (hs₂ _ _ c3 (hs₁.extBut _ _ c1 x))) ⟨oe,hs₃.extBut _ _ ez hoe,hce⟩
 | some x=>
  have hy:ys[k2]?=none:=hend.resolve_left (by rw[hx];simp);refine Znc (h1.ext hs₁.extBut D.i1z) (hl1.ext hs₁.extBut D.l1z) hx fun h₂ h1₂ hs₂=>wpAny_pure ?_;have t2:IsPair h₂ TO a b:=hs₂.extBut _ _ D.TOi1 (hs₁.extBut _ _ D.TOz hTO);refine wpAny_bind (wpAny_seqItems t2 rfl (wpAny_bind (wpAny_updateSeq_pair t2 fun h₃ hTO₃ hs₃=>?_)));refine wpAny_bind (wpAny_letGo (wpAny_pure (wpAny_bind (wpAny_bind (wpAny_onRaise (wpAny_bind (m:=Ybc (.ref i2)) ?_))))));refine Zfi hh (((h2.ext hs₁.extBut D.i2z).ext hs₂.extBut D.i12.symm).ext hs₃.extBut D.TOi2.symm) (((hl2.ext hs₁.extBut D.l2z).ext hs₂.extBut D.l2i1).ext hs₃.extBut D.l2TO) hy fun h₄ e hs₄ ⟨oe,hoe,hce⟩=>?_;have hz₄:IsZip h₄ z TI TO .ellipsis:=hs₄ _ _ D.i2z.symm (hs₃.extBut _ _ D.TOz.symm (hs₂.extBut _ _ D.i1z.symm hz₁));have ez:e≠z:=fun x=>by subst x;rw[hz₄] at hoe;cases hoe;simp at hce
  exact wpAny_setField_rec hz₄ (by simp) fun h₅ _ hs₅=>hE h₅ e (fun c o c1 c2 c3 c4 x=>hs₅.extBut _ _ c1 (hs₄ _ _ c4 (hs₃.extBut _ _ c2 (hs₂.extBut _ _ c3 (hs₁.extBut _ _ c1 x))))) ⟨oe,hs₅.extBut _ _ ez hoe,hce⟩
theorem Zfc {b1 b2:Bool}{z TI TO i1 i2 l1 l2:Addr}{k1 k2:Nat}{xs ys:Array Value}{x y a b:Value}{Q:Option Value->Shared->Prop} (D:ZipApart z TI TO i1 i2 l1 l2) (hz:IsZip s.heap z TI TO .none) (hTI:IsPair s.heap TI (.ref i1) (.ref i2)) (hTO:IsPair s.heap TO a b)
  (h1:HIt b1 s.heap i1 l1 k1) (h2:HIt b2 s.heap i2 l2 k2) (hl1:HSq b1 s.heap l1 xs) (hl2:HSq b2 s.heap l2 ys) (hx:xs[k1]?=some x) (hy:ys[k2]?=some y)
  (hQ:∀ h',IsZip h' z TI TO (rawInt s.heap.objs.size)->IsPair h' TO x y->HIt b1 h' i1 l1 (k1+1)->HIt b2 h' i2 l2 (k2+1)->IsPair h' s.heap.objs.size x y->h'.objs.size=s.heap.objs.size+1 ->
   (∀ c o,c≠z->c≠TO->c≠i1->c≠i2->s.heap.get? c=some o->h'.get? c=some o)->Q (some (.ref s.heap.objs.size)) { s with heap:=h' }):wpAny (model prog w) A (pyNext (.ref z)) Q E s:=by
 have hT:s.TypeIs (.ref z) "zip":=⟨_,hz,rfl⟩
 unfold pyNext;exact wpAny_bind (wpAny_attempt (wpAny_callSpecial?_slot (name:=Yc8 "__next__") hT F.slot_zip_next (wpAny_call_entry F.slot_zip_next hT F.entry_zip_next (Zig D hz hTI hTO h1 h2 hl1 hl2 hx hy fun h' a1 a2 a3 a4 a5 a6 a7=>wpAny_pure (hQ h' a1 a2 a3 a4 a5 a6 a7)) (F.args_zip_next_1 _))))
theorem Zf8 {b1 b2:Bool}{z TI TO i1 i2 l1 l2:Addr}{k1 k2:Nat}{xs ys:Array Value}{a b:Value}{Q:Option Value->Shared->Prop} (hh:A.handled=none) (D:ZipApart z TI TO i1 i2 l1 l2) (hz:IsZip s.heap z TI TO .none) (hTI:IsPair s.heap TI (.ref i1) (.ref i2)) (hTO:IsPair s.heap TO a b)
  (h1:HIt b1 s.heap i1 l1 k1) (h2:HIt b2 s.heap i2 l2 k2) (hl1:HSq b1 s.heap l1 xs) (hl2:HSq b2 s.heap l2 ys) (hend:xs[k1]?=none∨ys[k2]?=none)
  (hQ:∀ h',(∀ c o,c≠z->c≠TO->c≠i1->c≠i2->s.heap.get? c=some o->h'.get? c=some o)->Q none { s with heap:=h' }):wpAny (model prog w) A (pyNext (.ref z)) Q E s:=by
 have hT:s.TypeIs (.ref z) "zip":=⟨_,hz,rfl⟩
 unfold pyNext;refine wpAny_bind (wpAny_attempt (wpAny_callSpecial?_slot (name:=Yc8 "__next__") hT F.slot_zip_next (wpAny_call_entry F.slot_zip_next hT F.entry_zip_next (ZkC hh D hz hTI hTO h1 h2 hl1 hl2 hend fun h' e hk ⟨o,ho,hc⟩=>?_) (F.args_zip_next_1 _))));exact wpAny_bind (wpAny_isInstance (T:="StopIteration") (b:=true) ⟨o,ho,hc⟩ isSubtype_stop (wpAny_pure (hQ _ hk)))
def Znm (b:Bool):String:=match b with | true=>"list_iterator" | false=>"tuple_iterator"
def zB1 (b1:Bool) (h:Heap) (l1:Addr):Heap:=h.push { cls:=.type (Znm b1),data:=.fields #[.ref l1,.int 0 0] }
def zB2 (b1 b2:Bool) (h:Heap) (l1 l2:Addr):Heap:=(zB1 b1 h l1).push { cls:=.type (Znm b2),data:=.fields #[.ref l2,.int 0 0] }
def zB3 (b1 b2:Bool) (h:Heap) (l1 l2:Addr):Heap:=(zB2 b1 b2 h l1 l2).push { cls:=.type "tuple",data:=.seq #[.ref h.objs.size,.ref (zB1 b1 h l1).objs.size] }
def zB4 (b1 b2:Bool) (h:Heap) (l1 l2:Addr):Heap:=(zB3 b1 b2 h l1 l2).push { cls:=.type "tuple",data:=.seq #[.none,.none] }
def zB5 (b1 b2:Bool) (h:Heap) (l1 l2:Addr):Heap:=(zB4 b1 b2 h l1 l2).push { cls:=.type "zip",data:=.fields #[.none,.bool false,.bool false,.ref (zB2 b1 b2 h l1 l2).objs.size,.ref (zB3 b1 b2 h l1 l2).objs.size] }
theorem ZkB (b1 b2:Bool) (l1 l2:Addr) (xs ys:Array Value) :
  Meets (Builtin.«zip.__new__» ⟨[.type "zip",.ref l1,.ref l2],[]⟩) (fun _ R s=>HSq b1 s.heap l1 xs/\HSq b2 s.heap l2 ys/\R (.ok (.ret (.ref (zB4 b1 b2 s.heap l1 l2).objs.size))) { s with heap:=zB5 b1 b2 s.heap l1 l2 }) :=
 .of_wp fun prog w A R s h=>by
  obtain⟨hp,g,d,tk,os⟩:=s;obtain⟨hl1,hl2,h⟩:=h;have hsub:=sub_zip;cases b1 <;> cases b2
  ·have p1:Ydy (Ycs ⟨hp,g,d,tk,os⟩) l1 xs:=hl1;have p2:Ydy (Ycs ⟨hp.push { cls:=.type "tuple_iterator",data:=.fields #[.ref l1,.int 0 0] },g,d,tk,os⟩) l2 ys:=YeI hl2 _
   wp_walk using wpAny_pyIter_tuple p1,wpAny_pyIter_tuple p2
   exact⟨_,rfl,h⟩
  ·have p1:Ydy (Ycs ⟨hp,g,d,tk,os⟩) l1 xs:=hl1;have p2:Yeh (Ycs ⟨hp.push { cls:=.type "tuple_iterator",data:=.fields #[.ref l1,.int 0 0] },g,d,tk,os⟩) l2 ys:=YeQ hl2 _
   wp_walk using wpAny_pyIter_tuple p1,wpAny_pyIter_list p2
   exact⟨_,rfl,h⟩
  ·have p1:Yeh (Ycs ⟨hp,g,d,tk,os⟩) l1 xs:=hl1;have p2:Ydy (Ycs ⟨hp.push { cls:=.type "list_iterator",data:=.fields #[.ref l1,.int 0 0] },g,d,tk,os⟩) l2 ys:=YeI hl2 _
   wp_walk using wpAny_pyIter_list p1,wpAny_pyIter_tuple p2
   exact⟨_,rfl,h⟩
  ·have p1:Yeh (Ycs ⟨hp,g,d,tk,os⟩) l1 xs:=hl1;have p2:Yeh (Ycs ⟨hp.push { cls:=.type "list_iterator",data:=.fields #[.ref l1,.int 0 0] },g,d,tk,os⟩) l2 ys:=YeQ hl2 _
   wp_walk using wpAny_pyIter_list p1,wpAny_pyIter_list p2
   exact⟨_,rfl,h⟩
theorem HIt.made {b:Bool}{h:Heap}{it l:Addr} (e:h.get? it=some { cls:=.type (Znm b),data:=.fields #[.ref l,.int 0 0] }):HIt b h it l 0:=by
 cases b
 ·exact⟨_,e,rfl,rfl⟩
 ·exact⟨_,e,rfl,rfl⟩
theorem Zko {b1 b2:Bool}{l1 l2:Addr}{xs ys:Array Value}{Q:Value->Shared->Prop} (hl1:HSq b1 s.heap l1 xs) (hl2:HSq b2 s.heap l2 ys)
  (h:∀ h',IsZip h' (s.heap.objs.size+4) (s.heap.objs.size+2) (s.heap.objs.size+3) .none->IsPair h' (s.heap.objs.size+2) (.ref s.heap.objs.size) (.ref (s.heap.objs.size+1))->IsPair h' (s.heap.objs.size+3) .none .none ->
   HIt b1 h' s.heap.objs.size l1 0->HIt b2 h' (s.heap.objs.size+1) l2 0->(∀ c o,s.heap.get? c=some o->h'.get? c=some o)->Q (.ref (s.heap.objs.size+4)) { s with heap:=h' }):wpAny (model prog w) A (call (.type "zip") [.ref l1,.ref l2]) Q E s:=by
 refine callType_new F.called_zip (by decide) (F.typeCall_zip_2 _ _) (F.newCall_zip_2 _ _) (fun obj=>F.args_object_init_3 obj _ _) F.entry_zip_new (ZkB b1 b2 l1 l2 xs ys) ⟨hl1,hl2,?_⟩;have z1:(zB1 b1 s.heap l1).objs.size=s.heap.objs.size+1:=YaY ..;have z2:(zB2 b1 b2 s.heap l1 l2).objs.size=s.heap.objs.size+2:=by unfold zB2;rw[YaY,z1]
 have z3:(zB3 b1 b2 s.heap l1 l2).objs.size=s.heap.objs.size+3:=by unfold zB3;rw[YaY,z2]
 have z4:(zB4 b1 b2 s.heap l1 l2).objs.size=s.heap.objs.size+4:=by unfold zB4;rw[YaY,z3]
 have g5:(zB5 b1 b2 s.heap l1 l2).get? (zB4 b1 b2 s.heap l1 l2).objs.size=some _:=Yas _ rfl;have g4:(zB5 b1 b2 s.heap l1 l2).get? (zB3 b1 b2 s.heap l1 l2).objs.size=some _:=Yab _ (Yas _ rfl);have g3:(zB5 b1 b2 s.heap l1 l2).get? (zB2 b1 b2 s.heap l1 l2).objs.size=some _:=Yab _ (Yab _ (Yas _ rfl));have g2:(zB5 b1 b2 s.heap l1 l2).get? (zB1 b1 s.heap l1).objs.size=some _:=Yab _ (Yab _ (Yab _ (Yas _ rfl)));have g1:(zB5 b1 b2 s.heap l1 l2).get? s.heap.objs.size=some _:=Yab _ (Yab _ (Yab _ (Yab _ (Yas _ rfl))));show _/\_;rw[z2,z3,z4] at g5;rw[z1,z2] at g3;rw[z3] at g4;rw[z1] at g2;rw[z4];exact⟨⟨_,g5,rfl⟩,h _ g5 g3 g4 (HIt.made g1) (HIt.made g2) fun c o x=>Yab _ (Yab _ (Yab _ (Yab _ (Yab _ x))))⟩
end
theorem SqB.heap {X:Cx}{b:Bool}{pins:List (Addr × Obj)}{σ:St}{H:Hp}{s:Shared}{a:Addr}{xs:List V} (I:Inv X pins σ H s) (h:SqB b X.K H a xs):∃ its:List Value,Vals xs its/\HSq b s.heap a its.toArray:=by
 cases b
 ·obtain⟨its,r,p,_⟩:=I.tuple h;exact⟨its,r,p⟩
 ·obtain⟨its,r,p,_⟩:=I.list h;exact⟨its,r,p.isList⟩
theorem HSq.lt {b:Bool}{h:Heap}{l:Addr}{xs:Array Value} (x:HSq b h l xs):l<h.objs.size:=by
 cases b
 ·obtain⟨o,e,_⟩:=x;exact Yah e
 ·obtain⟨o,e,_⟩:=x;exact Yah e
theorem SqB.inj {X:Cx}{b:Bool}{pins:List (Addr × Obj)}{σ:St}{H:Hp}{s:Shared}{a:Addr}{xs ys:List V} (I:Inv X pins σ H s) (h:SqB b X.K H a xs) (g:SqB b X.K H a ys):xs=ys:=by
 cases b
 ·exact I.tuple_inj h g
 ·exact I.list_inj h g
def ItzB (b1 b2:Bool) (K:Yae) (a b:Addr):It :=
  ⟨fun i H=>∃ xs ys x y,SqB b1 K H a xs/\SqB b2 K H b ys/\xs[i]?=some x/\ys[i]?=some y,
   fun i H z H'=>∃ p x y,H p=none/\z=.ref p/\H'=upd H p (.tup [x,y])/\(∀ xs,SqB b1 K H a xs->xs[i]?=some x)/\∀ ys,SqB b2 K H b ys->ys[i]?=some y,
   fun i H=>∃ xs ys,SqB b1 K H a xs/\SqB b2 K H b ys/\(xs.length<=i∨ys.length<=i)⟩
end L2
namespace L2
open PySem PySem.Spec PyProof.Rows PySem.SeqAt
def ZlR (b1 b2:Bool) (z TI TO i1 i2 l1 l2:Addr) (i:Nat) (h:Heap):Prop:=IsZip h z TI TO .none/\IsPair h TI (.ref i1) (.ref i2)/\(∃ a b,IsPair h TO a b)/\HIt b1 h i1 l1 i/\HIt b2 h i2 l2 i
theorem Zij {P:Program}{w:World}{K:Yae}{es:List Expr}{x1}{pos:Pos}{b1 b2:Bool}{z TI TO i1 i2 l1 l2:Addr} (D:ZipApart z TI TO i1 i2 l1 l2):Turn P w K (.Tuple es x1 pos) (ItzB b1 b2 K l1 l2) [z,TI,TO,i1,i2] z (ZlR b1 b2 z TI TO i1 i2 l1 l2) where
 mem:=by simp
 obj:=fun i h st b hb=>by
  obtain⟨h1,h2,⟨a,c,h3⟩,h4,h5⟩:=st;simp only[Yao,Ybm,or_false] at hb;rcases hb with rfl | rfl | rfl | rfl | rfl
  ·exact⟨_,h1,fun v q=>nomatch q⟩
  ·exact⟨_,h2,fun v q=>nomatch q⟩
  ·exact⟨_,h3,fun v q=>nomatch q⟩
  ·exact h4.obj
  ·exact h5.obj
 keep:=fun i h h' st k=>by
  obtain⟨h1,h2,⟨a,c,h3⟩,h4,h5⟩:=st;exact⟨k z (by simp) _ h1,k TI (by simp) _ h2,⟨a,c,k TO (by simp) _ h3⟩,h4.at fun o q=>k i1 (by simp) o q,h5.at fun o q=>k i2 (by simp) o q⟩
 item:=by
  intro X hP hw hK hc i pins s σ H E I hf st hg;subst hP hw hK;obtain⟨xs,ys,x,y,hq1,hq2,hx,hy⟩:=hg;obtain⟨its,rv,p⟩:=hq1.heap I;obtain⟨its2,rv2,p2⟩:=hq2.heap I;obtain⟨u,hu,ru⟩:=rv.get hx;obtain⟨u2,hu2,ru2⟩:=rv2.get hy;obtain⟨s1,s2,⟨a,c,s3⟩,s4,s5⟩:=id st;refine Zfc D s1 s2 s3 s4 s5 p p2 (x:=u) (y:=u2) (by simpa using hu) (by simpa using hu2) fun h' g1 g2 g3 g4 g5 g6 hk=>?_;refine⟨_,rfl,?_⟩;refine wpAny_letOwnedTupleGo_zip g1 fun h'' he hs=>?_;have live:∀ b∈[z,TI,TO,i1,i2],b<s.heap.objs.size:=fun b hb=>by
   obtain⟨h1,h2,⟨a,c,h3⟩,h4,h5⟩:=st;obtain⟨o4,e4,_⟩:=h4.obj;obtain⟨o5,e5,_⟩:=h5.obj;simp only[Yao,Ybm,or_false] at hb;rcases hb with rfl | rfl | rfl | rfl | rfl
   ·exact Yah h1
   ·exact Yah h2
   ·exact Yah h3
   ·exact Yah e4
   ·exact Yah e5
  have hsz:s.heap.objs.size≠z:=YbA (live z (by simp));have k:∀ b o,b ∉ [z,TI,TO,i1,i2]->s.heap.get? b=some o->h''.get? b=some o:=fun b o hb q=>by
   simp only[Yao,Ybm,or_false,not_or] at hb;exact (hs.2 b hb.1).trans (hk b o hb.1 hb.2.2.1 hb.2.2.2.1 hb.2.2.2.2 q)
  have st':ZlR b1 b2 z TI TO i1 i2 l1 l2 (i+1) h'':=by
   refine⟨he,(hs.2 TI D.TIz).trans (hk TI _ D.TIz D.TITO D.TIi1 D.TIi2 s2),⟨u,u2,(hs.2 TO D.TOz).trans g2⟩,?_,?_⟩
   ·exact g3.ext hs.extBut D.i1z
   ·exact g4.ext hs.extBut D.i2z
  have th:∀ b∈[z,TI,TO,i1,i2],∃ o,h''.get? b=some o:=fun b hb=>by
   obtain⟨h1,h2,⟨a,c,h3⟩,h4,h5⟩:=st';obtain⟨o4,e4,_⟩:=h4.obj;obtain⟨o5,e5,_⟩:=h5.obj;simp only[Yao,Ybm,or_false] at hb;rcases hb with rfl | rfl | rfl | rfl | rfl
   ·exact⟨_,h1⟩
   ·exact⟨_,h2⟩
   ·exact⟨_,h3⟩
   ·exact⟨_,e4⟩
   ·exact⟨_,e5⟩
  have fresh:H s.heap.objs.size=none:=I.hok.fresh (Yag _);refine⟨.ref s.heap.objs.size,_,I.pairOut (fp:=[z,TI,TO,i1,i2]) (tk:=s.toks) hf k ((hs.2 _ hsz).trans g5) live th ru ru2,rfl,⟨s.heap.objs.size,x,y,fresh,rfl,rfl,fun ys hy=>by rw[hy.inj I hq1];exact hx,fun zs hz=>by rw[hz.inj I hq2];exact hy⟩,st',fun b hb=>?_⟩;rw[Zaf (Yaw (live b hb))];exact (hf b hb).1
 done:=by
  intro X hP hw hK hc i pins s σ H E I hf st hg;subst hP hw hK;obtain⟨xs,ys,hq1,hq2,hx⟩:=hg;obtain⟨its,rv,p⟩:=hq1.heap I;obtain⟨its2,rv2,p2⟩:=hq2.heap I;obtain⟨s1,s2,⟨a,c,s3⟩,s4,s5⟩:=st;have e1:=rv.length;have e2:=rv2.length;refine Zf8 (I.ok.hd hc) D s1 s2 s3 s4 s5 p p2 (by rcases hx with q | q;exact .inl (by simp;omega);exact .inr (by simp;omega)) fun h' hk=>⟨rfl,I.turnedAll (fp:=[z,TI,TO,i1,i2]) (tk:=s.toks) hf fun b o hb q=>?_⟩
  simp only[Yao,Ybm,or_false,not_or] at hb;exact hk b o hb.1 hb.2.2.1 hb.2.2.2.1 hb.2.2.2.2 q
 self:=fun _ _ _ _ _ st h=>wpAny_pyIter_zip st.1 h
def Zo6 (K:Yae) (ta:TA):TI:=fun σ H R=>ta σ H fun vs H1=>∃ b1 b2 a b,vs=[.ref a,.ref b]/\(∃ xs,SqB b1 K H1 a xs)/\(∃ ys,SqB b2 K H1 b ys)/\R (ItzB b1 b2 K a b) H1
theorem ZiT {X:Cx}{es:List Expr}{x1}{tpos:Pos}{e f:Expr}{ta:TA}{p pos:Pos} (hg:Gl X "zip") (hm:X.mg "zip"=none) (ha:PA X [e,f] ta) (hs:starEach [e,f] X.env=[(false,eval e X.env),(false,eval f X.env)]:=by rfl) (hs2:starEach [f] X.env=[(false,eval f X.env)]:=by rfl) :
  PI X (.Tuple es x1 tpos) (.Call (.Name "zip" p) [e,f] [] pos) (Zo6 X.K ta):=by
 intro pins s σ H R I h;refine Call_ (Zdg I hg hm (show bootBuiltins "zip"=some (.type "zip") by decide +kernel) (YbO (thn (ha pos pins s σ H _ I h) fun us s1 ⟨vs,H1,I1,r1,q1⟩=>?_) (by rw[hs,hs2]) (by rw[hs2];rfl)));obtain⟨b1,b2,a,b,e1,⟨xs,hq⟩,⟨ys,hq2⟩,q⟩:=q1;subst e1;obtain⟨u,u2,rfl,r,r2⟩:=ZkE r1;cases r;cases r2;obtain⟨its,rv,pl⟩:=hq.heap I1;obtain⟨its2,rv2,pl2⟩:=hq2.heap I1;have la:=pl.lt;have lb:=pl2.lt;have ne:∀ {i j:Nat},i≠j->s1.heap.objs.size+i≠s1.heap.objs.size+j:=fun h z=>h (Nat.add_left_cancel z);have nl:∀ {c:Addr} (i:Nat),c<s1.heap.objs.size->c≠s1.heap.objs.size+i:=fun i h=>Yaw (Yal h (Ydq _ _));refine Zko pl pl2 fun h' g1 g2 g3 g4 g5 k=>wpAny_pyIter_zip g1 ?_;have D:ZipApart (s1.heap.objs.size+4) (s1.heap.objs.size+2) (s1.heap.objs.size+3) (s1.heap.objs.size+0) (s1.heap.objs.size+1) a b :=
  ⟨ne (by decide),ne (by decide),ne (by decide),ne (by decide),ne (by decide),ne (by decide),ne (by decide),ne (by decide),ne (by decide),ne (by decide),nl 4 la,nl 3 la,nl 0 la,nl 1 la,nl 4 lb,nl 3 lb,nl 0 lb,nl 1 lb⟩
 refine⟨s1.heap.objs.size+4,[s1.heap.objs.size+4,s1.heap.objs.size+2,s1.heap.objs.size+3,s1.heap.objs.size+0,s1.heap.objs.size+1],_,_,H1,rfl,I1.kept (t':=s1.toks) k,Zij D,⟨g1,g2,⟨_,_,g3⟩,g4,g5⟩,fun c hc=>?_,q⟩;have ge:s1.heap.objs.size<=c:=by
  simp only[Yao,Ybm,or_false] at hc;rcases hc with rfl | rfl | rfl | rfl | rfl <;> exact Ydq _ _
 exact I1.fpOk ge (I1.hok.fresh ge)
theorem ZlI {b1 b2:Bool}{K:Yae}{own:List Str}{js:List Nat}{g:TG}{tt:TT}{te:TE}{σ:St}{H1:Hp}{Q:VK}{a b:Addr}{xs ys:List V} (hlen:xs.length<=ys.length) (Pv:Addr->Nat->Hp->Prop) (h0:∀ acc,H1 acc=none->Pv acc 0 (upd H1 acc (.lst [])))
  (hl:∀ acc i H,H1 acc=none->i<=xs.length->Pv acc i H->SqB b1 K H a xs/\SqB b2 K H b ys)
  (hs:∀ acc i x y p H,H1 acc=none->xs[i]?=some x->ys[i]?=some y->Pv acc i H->H p=none->g (.ref p) (blkσ own js σ) (upd H p (.tup [x,y])) fun τ H4=>tt τ H4 fun c H5=>
   if c=true then te τ H5 fun y H6=>∃ ys,H6 acc=some (.lst ys)/\ys.length<sizeLine/\(i+1<=xs.length/\Pv acc (i+1) (upd H6 acc (.lst (ys++[y])))) else (i+1<=xs.length/\Pv acc (i+1) H5))
  (hd:∀ acc H,H1 acc=none->Pv acc xs.length H->Q (.ref acc) H):Zbp own js g tt te σ (ItzB b1 b2 K a b) H1 Q:=by
 intro acc hacc;refine⟨fun i H=>i<=xs.length/\Pv acc i H,xs.length,⟨YaW _,h0 acc hacc⟩,?_⟩;rintro i H ⟨hi,p⟩;obtain⟨q1,q2⟩:=hl acc i H hacc hi p;by_cases hlt:i<xs.length
 ·have hl2:i<ys.length:=by omega
  refine .inr ⟨hlt,⟨xs,ys,xs[i],ys[i],q1,q2,by simp[hlt],by simp[hl2]⟩,fun x H' y=>?_⟩;obtain⟨pa,z1,z2,hp,e1,e2,y1,y2⟩:=y;subst e1 e2;exact hs acc i z1 z2 pa H hacc (y1 xs q1) (y2 ys q2) p hp
 ·have e:i=xs.length:=by omega
  subst e;exact .inl ⟨⟨xs,ys,q1,q2,.inl (Yag _)⟩,hd acc H hacc p⟩
end L2
namespace Lv
open PySem L2
theorem ZcJ (K:Yae) {X:Cx}{es:List Expr}{k:Nat}{t:TGs}{n:Nat}{pos:Pos} (hc:X.calm=true) (h:PGs X es t) (hK:X.K=K:=by rfl) (hn:(assignEach es X.env).length=n:=by rfl) (hst:(assignEach es X.env).findIdx? (·.1)=none:=by rfl):PG X (.Tuple es k pos) (gTup K n t):=by
 subst hK;exact ZbF hc h hn hst
end Lv
namespace L2
open PySem PySem.Spec PyProof.Rows PySem.SeqAt
theorem Zlb (K:Yae) {X:Cx} (hK:X.K=K:=by rfl):OpR X (binaryOp .Add) (Zn6 K):=by subst hK;exact Zm5
theorem Zkt (K:Yae) {X:Cx} (hK:X.K=K:=by rfl):ZbK X (.builtin "len") (fun xs H Q=>∃ p ys,xs=[.ref p]/\(SqL K H p ys∨SqT K H p ys)/\Q (.int ys.length) H):=by subst hK;exact Zas
theorem CompOk.bare {X:Cx}{scope:Scope}{own:List Str} (h:((scope.kind == .function) && scope.names.all fun y=>(y.2 != .cell) && (y.2 != .free) && ((y.2 != .local) || (scope.names.lookup y.1 == some .local)))=true):CompOk X scope own []:=by
 simp only[YcS,beq_iff_eq,Ycv,Yej,bne_iff_ne,ne_eq] at h;obtain⟨h1,h2⟩:=h;refine⟨h1,fun y hy=>(h2 y hy).1.1,fun y hy hf=>absurd hf (h2 y hy).1.2,fun y hy hl=>?_,fun j hj=>by cases hj⟩;rcases (h2 y hy).2 with z | z
 ·exact absurd hl z
 ·exact z
section
variable {X:Cx}
def LLs (H:Hp) (rs:List Addr) (N:List (List Int)):Prop:=rs.length=N.length/\∀ (j:Nat) r xs,rs[j]?=some r->N[j]?=some xs->H r=some (.lst (xs.map V.int))
def TTs (H:Hp) (rs:List Addr) (N:List (List Int)):Prop:=rs.length=N.length/\∀ (j:Nat) r xs,rs[j]?=some r->N[j]?=some xs->H r=some (.tup (xs.map V.int))
theorem LLs.same {H H':Hp}{rs:List Addr}{N:List (List Int)} (h:LLs H rs N) (s:Same H H'):LLs H' rs N:=⟨h.1,fun j r xs a b=>s _ _ (h.2 j r xs a b)⟩
theorem TTs.same {H H':Hp}{rs:List Addr}{N:List (List Int)} (h:TTs H rs N) (s:Same H H'):TTs H' rs N:=⟨h.1,fun j r xs a b=>s _ _ (h.2 j r xs a b)⟩
theorem TTs.lst {H:Hp}{rs:List Addr}{N:List (List Int)}{acc:Addr}{ys zs:List V} (h:TTs H rs N) (e:H acc=some (.lst zs)):TTs (upd H acc (.lst ys)) rs N:=⟨h.1,fun j r xs a b=>by
 have:=h.2 j r xs a b;rw[Zaf (by intro z;subst z;rw[e] at this;cases this)];exact this⟩
theorem Zes {α:Type}{xs:List α}{x y:α}{j:Nat} (h:(xs++[x])[j]?=some y):xs[j]?=some y∨(j=xs.length/\y=x):=by
 by_cases hj:j<xs.length
 ·rw[YaL hj] at h;exact .inl h
 ·rw[YaI (by omega)] at h;have:j - xs.length=0:=by
   cases e:j - xs.length with
   | zero=>rfl
   | succ m=>rw[e] at h;simp at h
  rw[this] at h;exact .inr ⟨by omega,by simpa using h.symm⟩
theorem TTs.snoc {H:Hp}{rs:List Addr}{N:List (List Int)}{r:Addr}{x:List Int} (h:TTs H rs N) (e:H r=some (.tup (x.map V.int))):TTs H (rs++[r]) (N++[x]):=⟨by simp[h.1],fun j r' xs a b=>by
 rcases Zes a with a | ⟨a,rfl⟩
 ·rcases Zes b with b | ⟨b,_⟩
  ·exact h.2 j r' xs a b
  ·have:=(Yad.mp a).1;have:=h.1;omega
 ·rcases Zes b with b | ⟨_,rfl⟩
  ·have:=(Yad.mp b).1;have:=h.1;omega
  ·exact e⟩
end
end L2
namespace Lv
open PySem L2
def fstN (N:List (List Int)):List Int:=(N.headD []).map (·+1)
def Zdy (N:List (List Int)):List (List Int):=(N.tail.map (fstN N++·))++[fstN N]
def num0 (p:Nat):List (List Int):=[0]::Yai (p - 1) []
def num (p:Nat):Nat->List (List Int)
 | 0=>num0 p
 | n+1=>Zdy (num p n)
def lens (N:List (List Int)):List Int:=N.map fun l=>(l.length:Int)
theorem ZjA (N:List (List Int)):lens (Zdy N)=Zbt (lens N):=by
 cases N with
 | nil=>simp[lens,Zdy,Zbt,fstN]
 | cons a r=>
  simp[lens,Zdy,Zbt,fstN,Function.comp_def]
theorem ZbR (p:Nat):∀ n,lens (num p n)=cnt p n
 | 0=>by simp[lens,num,num0,cnt,Zcs]
 | n+1=>by
  show lens (Zdy (num p n))=Zbt (cnt p n);rw[ZjA,ZbR p n]
theorem ZbG {p:Nat} (hp:1<=p) (n:Nat):(num p n).length=p:=by
 have:=congrArg Ycx (ZbR p n);rw[Zdo hp] at this;simpa[lens] using this
theorem Zmb {c:List Int} (h:∀ x∈c,0<=x) {x:Int} (hx:x∈c):x<=c.sum:=by
 induction c with
 | nil=>cases hx
 | cons a r ih=>
  have nn:∀ l:List Int,(∀ x∈l,0<=x)->0<=l.sum:=by
   intro l
   induction l with
   | nil=>intro _;simp
   | cons x y ih=>
    intro h;rw[YaS];have:=h x (by simp);have:=ih fun z hz=>h z (by simp[hz]);omega
  rw[YaS];have ha:=h a (by simp);have hr:∀ x∈r,0<=x:=fun x hx=>h x (by simp[hx]);rcases Yao.mp hx with rfl | hx
  ·have:=nn r hr;omega
  ·have:=ih hr hx;omega
theorem Zg0 {p n:Nat}{xs:List Int} (h:xs∈num p n):(xs.length:Int)<=tot p n:=by
 refine Zmb (Zct p n).2 ?_;rw[<- ZbR p n];exact YaG.mpr ⟨xs,h,rfl⟩
theorem Zg1 {p:Nat} (hp:2<=p) (n:Nat):∃ a r,num p n=a::r/\a≠[]/\r.length=p - 1:=by
 have h:=ZbG (p:=p) (by omega) n
 cases e:num p n with
 | nil=>rw[e] at h;simp at h;omega
 | cons a r=>
  rw[e] at h;refine⟨a,r,rfl,?_,by simp at h;omega⟩;rintro rfl;have h1:=Zfu hp n;unfold hd at h1;rw[<- ZbR p n,e] at h1;simp[lens] at h1
theorem ZbC {n:Nat} (h:n<=8000):n<sizeLine:=Yce h (by decide)
theorem ZoG {p:Nat} (hp:2<=p) (h7:p<=7):4000<tot p 20:=by
 have:p=2∨p=3∨p=4∨p=5∨p=6∨p=7:=by omega
 rcases this with rfl | rfl | rfl | rfl | rfl | rfl <;> decide +kernel
theorem Zni {p n:Nat} (hp:2<=p) (h7:p<=7) (h:tot p n<=4000):n<=19:=by
 refine Classical.byContradiction fun z=>?_;have:=ZbN hp (show 20<=n by omega);have:=ZoG hp h7;omega
def Zee:Sp:=fun vs H Q _=>∃ p n:Nat,vs=[.int p,.int n]/\2<=p/\p<=7/\n<=300/\tot p n<=4000/\∀ H',Same H H'->Q .non H'
def Zcw:Sp:=fun vs H Q _=>∃ (a:Addr) (rs:List Addr) (N:List (List Int)),vs=[.ref a]/\H a=some (.tup (rs.map V.ref))/\TTs H rs N/\2<=N.length/\N.length<=7/\N.headD []≠[]/\(∀ xs∈N,xs.length<=4000) /\
 ∀ l qs H',H l=none->H' l=some (.tup (qs.map V.ref))->TTs H' qs (Zdy N)->Same H H'->Q (.ref l) H'
def Zf0:Sp:=fun vs H Q _=>∃ p n:Nat,vs=[.int p,.int n]/\2<=p/\p<=7/\n<=300/\tot p n<=4000/\∀ l qs H',H l=none->H' l=some (.tup (qs.map V.ref))->TTs H' qs (num p n)->Same H H'->Q (.ref l) H'
theorem ZiL {α:Type}{n j:Nat}{x y:α} (h:(Yai n x)[j]?=some y):y=x:=by
 rw[YcC] at h;split at h
 ·exact (YaE h).symm
 ·cases h
theorem Za6 {rs:List Addr}{i:Nat}{x:V} (h:(rs.map V.ref)[i]?=some x):∃ r,rs[i]?=some r/\x=.ref r:=by
 rw[Yam] at h
 cases e:rs[i]? with
 | none=>rw[e] at h;cases h
 | some p=>rw[e] at h;exact⟨p,rfl,(YaE h).symm⟩
def ZmA:Sp:=fun vs H Q _=>∃ i,vs=[.int i]/\i<=4000/\Q .non H
def ZcU:Sp:=fun vs H Q _=>∃ p:Nat,vs=[.int p]/\2<=p/\p<=7/\∀ l qs H',H l=none->H' l=some (.tup (qs.map V.ref))->TTs H' qs (num0 p)->Same H H'->Q (.ref l) H'
def Zf4 (fn:Addr):Sp:=fun vs H Q _=>∃ p n:Nat,vs=[.int p,.int n,.ref fn]/\2<=p/\p<=7/\n<=300/\tot p n<=4000/\∀ l qs H',H l=none->H' l=some (.tup (qs.map V.ref))->TTs H' qs (num p n)->Same H H'->Q (.ref l) H'
end Lv
namespace Lv
open PySem L2 PySem.Spec PyProof.Rows
structure FunD (K:Yae) (x qual:Str) (st:Stmt) (f da:Addr) (fd:FuncData):Prop where
 ex:∃ (oc:Value) (od:Option Addr) (kV doc pm:Value) (an:Option Addr) (cdv ct:Value) (osl:Array (Option Value)),
  fd=YaB x qual (Zak st) (Zai st) (Zac st) (.ref da) kV doc pm an cdv ct/\K.lookup f=some ⟨oc,od,.func fd,osl⟩/\Yav K cdv qual=true
 kp:Yan K (.ref f)=true
section
variable {P:Program}{w:World}{K:Yae}{mg:Str->Option Value}{base:Heap}
theorem FunD.ok {x qual:Str}{st:Stmt}{f da:Addr}{fd:FuncData}{N ps:List Str}{k:Nat}{sp:Sp} (F:FunD K x qual st f da fd) (S:FnScope N ps (Zac st)) (len:∀ vs H Q E,sp vs H Q E->vs.length=ps.length)
  (hbody:∀ (cdv:Value) (A:Around) (outer:List Env) (s:Shared) (H:Hp) (vs:List V) (Q:VK) (E:XK),Room k (A.deeper (envOfC qual (Zac st) s.heap.objs.size f cdv))->sp vs H Q E ->
   ∃ t,PSs (cxOf CX0 P w K mg base N qual (Zac st) f cdv A outer s H E).nox (Zai st) t/\t { nx:=fun _ H'=>Q .non H',rt:=Q } (start N vs) H):FnOk P w K mg base CX0 (k+1) f fd ps sp:=by
 obtain⟨oc,od,kV,doc,pm,an,cdv,ct,osl,rfl,lk,hcd⟩:=F.ex;refine Zou lk hcd S len fun A outer s H vs Q E hr hsp=>?_;obtain⟨t,h,q⟩:=hbody cdv A outer s H vs Q E hr hsp;exact⟨t,h.nox,q⟩
theorem FunD.binds {x qual:Str}{st:Stmt}{f da:Addr}{fd:FuncData}{ps:List Str}{o:Obj}{items:Array Value}{n:Nat} (F:FunD K x qual st f da fd) (ho:K.lookup da=some o) (hs:o.data=.seq items n) (ds:List Value) (qs:List Str) (hq:qs.length+ds.length=ps.length)
  (h:∀ (kV doc pm:Value) (an:Option Addr) (cdv ct:Value) (us:List Value),us.length=qs.length ->
   ∃ k:Option (Array Value)->Sem (List (Str × Value)),bindArgs (YaB x qual (Zak st) (Zai st) (Zac st) (.ref da) kV doc pm an cdv ct) ⟨us,[]⟩=seqItems? (.ref da) >>= k/\k (some items)=pure (ps.zip (us++ds))):Binds K fd ps ds:=by
 obtain⟨oc,od,kV,doc,pm,an,cdv,ct,osl,rfl,lk,hcd⟩:=F.ex;intro s us X hl;obtain⟨k,h1,h2⟩:=h kV doc pm an cdv ct us (by rw[Yak] at hl;omega);exact PySem.W.binds_K X rfl ho hs h1 h2
theorem Znr {x qual:Str}{st:Stmt}{f da:Addr}{oc:Value}{od an:Option Addr}{osl:Array (Option Value)}{kV doc pm cdv ct:Value} (l:K.lookup f=some ⟨oc,od,.func (YaB x qual (Zak st) (Zai st) (Zac st) (.ref da) kV doc pm an cdv ct),osl⟩)
  (c:Yav K cdv qual=true) (k:Yan K (.ref f)=true):FunD K x qual st f da (YaB x qual (Zak st) (Zai st) (Zac st) (.ref da) kV doc pm an cdv ct):=⟨⟨oc,od,kV,doc,pm,an,cdv,ct,osl,rfl,l,c⟩,k⟩
end
structure CalD (P:Program) (w:World) (K:Yae) (mg:Str->Option Value) (base:Heap) (k:Nat) (x:Str) (ps:List Str) (dvs:List V) (sp:Sp) (f:Addr) (fd:FuncData):Prop where
 ok:FnOk P w K mg base CX0 k f fd ps sp
 mg:mg x=some (.ref f)
 kp:Yan K (.ref f)=true
 bd:∃ ds,Binds K fd ps ds/\Vals dvs ds
theorem Zi4 {X:Cx}{k:Nat}{x:Str}{ps:List Str}{dvs:List V}{sp:Sp}{f:Addr}{fd:FuncData}{e:Expr}{es:List Expr}{t:TA}{p pos:Pos} (C:CalD X.prog X.w X.K X.mg X.base k x ps dvs sp f fd) (hr:Room k X.A) (hg:Gl X x) (ha:PA X (e::es) t)
  (hdb:(x == ("__debug__":Str))=false:=by decide) (he:starEach (e::es) X.env=(false,eval e X.env)::starEach es X.env:=by rfl) (hpl:(backTo pos (starEach es X.env)).any (·.1)=false:=by rfl) :
  PE X (.Call (.Name x p) (e::es) [] pos) (ZkJ sp dvs E0 t):=by
 obtain⟨ds,h1,h2⟩:=C.bd;exact Zi3 C.ok hr hg C.mg C.kp h1 h2 Zm0 ha hdb he hpl
def ZnS (j:Nat) (f:Addr) (t:TE):TE:=fun σ H Q=>σ[j]?=some (some (.ref f))/\t σ H Q
theorem Zf9 {X:Cx}{k:Nat}{x y:Str}{ps:List Str}{sp:Sp}{f:Addr}{fd:FuncData}{e:Expr}{es:List Expr}{t:TA}{p pos:Pos} (j:Nat) (C:Cal X.prog X.w X.K X.mg X.base k y ps sp f fd) (hr:Room k X.A) (ha:PA X (e::es) t) (hN:X.N[j]?=some x:=by rfl) (hv:Vis X.env.scope x:=by first | exact YaJ rfl | exact Ydb (YaJ rfl) | exact Ydb (Ydb rfl))
  (hdb:(x == ("__debug__":Str))=false:=by decide) (hcd:(x == ("__classdict__":Str))=false:=by decide) (he:starEach (e::es) X.env=(false,eval e X.env)::starEach es X.env:=by rfl) (hpl:(backTo pos (starEach es X.env)).any (·.1)=false:=by rfl) :
  PE X (.Call (.Name x p) (e::es) [] pos) (ZnS j f (ZkJ sp [] E0 t)):=by
 intro pins s σ H Q I h;obtain⟨h0,h⟩:=h;refine wpAny_Call_Name_kw ?_;refine thn (Zl5 hN hv hdb hcd pins s σ H (fun v H1=>v=.ref f/\t σ H1 fun vs H2=>sp (vs++[]) H2 Q E0) I ⟨_,h0,rfl,h⟩) fun u s1 ⟨v,H1,I1,r,ev,q⟩=>?_;subst ev;obtain rfl:u=YaK f:=r;refine YeX (h₀:=X.base) I.ok.mod.kin C.kp (thn (ha pos pins s1 σ H1 _ I1 q) fun us s2 ⟨vs,H2,I2,r2,q2⟩=>⟨I2.kIn,?_⟩) he hpl;exact Zl0 C.ok hr C.bd .nil Zm0 I2 r2 q2
theorem Zi2 {X:Cx}{k:Nat}{x:Str}{ps:List Str}{sp:Sp}{f:Addr}{fd:FuncData}{pos:Pos} (C:Cal X.prog X.w X.K X.mg X.base k x ps sp f fd) (hg:Gl X x) (hd:(x == ("__debug__":Str))=false:=by decide):PE X (.Name x pos) (tC (.ref f)) :=
 Zi1 hg C.mg rfl hd
def ZcT:Sp:=fun vs H Q _=>∃ i m,vs=[.int i,.int m]/\0<=i/\i<=m/\Q .non H
end Lv
namespace L2
open PySem PySem.Spec PyProof.Rows
end L2
namespace L2
open PySem PySem.Spec PyProof.Rows
def Fly (H:Hp) (h0 h:Heap) (ea:Addr) (cls:Value) (od:Option Addr) (fl:Value):Prop :=
 ∃ (a0:Value) (T:Addr) (oe oT:Obj) (vs ts:Array Value),(H ea=none/\H T=none/\h0.get? ea=none/\h0.get? T=none) /\
  h.get? ea=some oe/\((oe.cls=cls/\vs[0]?=some a0)/\oe.dict=od)/\oe.data=.fields vs/\vs[1]?=some (.ref T)/\T≠ea/\h.get? T=some oT/\oT.data=.fields ts/\ts[3]?=some fl
def CX1 (P:Program) (w:World):CXT:=fun outer H s E e s'=>∃ (ea:Addr) (cls:Value) (od:Option Addr) (H':Hp),e=.ref ea/\s'.os=s.os/\AllBare s'.gens/\Un (frs outer) [] H H' s.heap s'.heap/\HOk P w H' s'.heap/\Fly H' s.heap s'.heap ea cls od .none/\E cls od H'
section
variable {P:Program}{w:World}{K:Yae}{mg:Str->Option Value}{base:Heap}{N:List Str}{qual:Str}{scope:Scope}{f:Addr}{cd:Value}{A:Around}{outer:List Env}{s:Shared}{H:Hp}{E:XK}
end
end L2
namespace L2
open PySem PySem.Spec PyProof.Rows PySem.W
section
variable {prog:Program}{w:World}{A:Around}{E:Value->Shared->Prop}{s:Shared}{K:Frag}{x C D:Addr}{ox:Obj}
def Zj3 (K:Frag) (C:Addr):Bool:=findIn K (.ref C) "__getattribute__" == some (some (.builtin "BaseException.__getattribute__")) && (findIn K (.ref C) "__getattr__" == some none &&
 (findIn K (.ref C) "__class__" == some (some (.builtin "object.__class__")) && (mroIn K C (.type "object") == some true && (mroIn K C (.type "BaseException") == some true && ((clsIn K C).isSome &&
 (specialIn K (.builtin "object.__class__") "__get__" == some (some (.builtin "getset_descriptor.__get__")) && takesIn K (.builtin "object.__class__") == some true))))))
def Zox (K:Frag) (C:Addr):Bool:=excIn K C [.type "ValueError",.type "Exception",.type "BaseException",.type "object"] "ValueError.__new__" && Zj3 K C
end
section
variable {X:Cx}
end
end L2
namespace L2
open PySem PySem.Spec PyProof.Rows PySem.W
section
variable {P:Program}{w:World}{K:Yae}{mg:Str->Option Value}{base:Heap}
end
structure CalE (P:Program) (w:World) (K:Yae) (mg:Str->Option Value) (base:Heap) (k:Nat) (x:Str) (ps:List Str) (dvs:List V) (sp:Sp) (f:Addr) (fd:FuncData):Prop where
 ok:FnOk P w K mg base (CX1 P w) k f fd ps sp
 mg:mg x=some (.ref f)
 kp:Yan K (.ref f)=true
 bd:∃ ds,Binds K fd ps ds/\Vals dvs ds
section
variable {X:Cx}
inductive FParts (X:Cx):List Expr->List TE->Prop
 | nil:FParts X [] []
 | con {x:Str}{j pos}{es:List Expr}{ts:List TE} (h:x.length<=1000) (r:FParts X es ts):FParts X (.Constant (.str x) j pos::es) ts
 | val {v:Expr}{t:TE}{pos:Pos}{es:List Expr}{ts:List TE} (h:PE X v t) (r:FParts X es ts):FParts X (.FormattedValue v (-1) none pos::es) (t::ts)
end
section
variable {X:Cx}{pins:List (Addr × Obj)}{σ:St}{H:Hp}{s:Shared}
end
def Ends.without (D:Ends) (i:Nat):Ends:={ nx:=fun σ H=>D.nx (σ.set i none) H,rt:=D.rt,bk:=fun σ H=>D.bk (σ.set i none) H,ct:=fun σ H=>D.ct (σ.set i none) H }
section
variable {X:Cx}
end
end L2
namespace L2
open PySem PySem.Spec PyProof.Rows
def ZeA:Expr->Bool
 | .Starred ..=>false
 | _=>true
theorem ZdG {e:Expr}{es:List Expr}{env:Env} (h:ZeA e=true):starEach (e::es) env=(false,eval e env)::starEach es env:=by
 cases e <;> first | rfl | (cases h)
structure WA (X:Cx) (es:List Expr) (t:TA):Prop where
 out:PA X es t
structure WS (X:Cx) (st:Stmt) (t:TS):Prop where
 out:PS X st t
structure WSs (X:Cx) (sts:List Stmt) (t:TS):Prop where
 out:PSs X sts t
section
variable {X:Cx}{st:Stmt}{rest a b:List Stmt}{t u:TS}{c e:Expr}{tc:TT}{pos:Pos}{es:List Expr}{te:TE}{ta:TA}
theorem Zah (h1:WS X st t) (h2:WSs X rest u):WSs X (st::rest) (tSeq t u):=⟨Zan h1.out h2.out⟩
theorem Zax (h:WS X st t):WSs X [st] t:=⟨Zao h.out⟩
theorem Zbc:WSs X [] ZnK:=⟨Zb9⟩
theorem wss {sts:List Stmt} (h:PSs X sts t):WSs X sts t:=⟨h⟩
theorem ZcQ (hc:PT X c tc) (ha:WSs X a t) (hb:WSs X b u):WS X (.If c a b pos) (tIfS tc t u):=⟨Zfe hc ha.out hb.out⟩
theorem ws (h:PS X st t):WS X st t:=⟨h⟩
theorem ZeV:WA X [] tNil:=⟨Zad⟩
theorem Za4 (hn:ZeA e=true) (ha:PE X e te) (hr:WA X es ta):WA X (e::es) (Zmw te ta):=⟨Zaa ha hr.out (ZdG hn)⟩
end
section
variable {P:Program}{w:World}{K:Yae}{mg:Str->Option Value}{base:Heap}
theorem okW {x qual:Str}{st:Stmt}{f:Addr}{fd:FuncData}{N ps:List Str}{k:Nat}{sp:Sp} (F:Fun K x qual st f fd) (S:FnScope N ps (Zac st)) (len:∀ vs H Q E,sp vs H Q E->vs.length=ps.length)
  (hbody:∀ (cdv:Value) (A:Around) (outer:List Env) (s:Shared) (H:Hp) (vs:List V) (Q:VK) (E:XK),Room k (A.deeper (envOfC qual (Zac st) s.heap.objs.size f cdv))->sp vs H Q E ->
   ∃ t,WSs (cxOf CX0 P w K mg base N qual (Zac st) f cdv A outer s H E).nox (Zai st) t/\t { nx:=fun _ H'=>Q .non H',rt:=Q } (start N vs) H):FnOk P w K mg base CX0 (k+1) f fd ps sp :=
 F.ok S len fun cdv A outer s H vs Q E hr hsp=>by
  obtain⟨t,h,q⟩:=hbody cdv A outer s H vs Q E hr hsp;exact⟨t,h.out,q⟩
end
end L2
namespace L2
open PySem PySem.Spec PyProof.Rows PySem.SeqAt
theorem Zop {P:Program}{w:World}{k:Key}{u:Value} (h:(ZaD P w).is k u=true):RelV (kV k) u:=by
 rw[ZhU] at h;rcases ZaG h with ⟨i,t,rfl,rfl⟩ | ⟨x,t,rfl,rfl⟩
 ·exact⟨t,rfl⟩
 ·exact⟨t,rfl⟩
section
variable {X:Cx}{pins:List (Addr × Obj)}{σ:St}{H:Hp}{s:Shared}{a:Addr}{u v:HO}{kvs:List (Key × V)}
theorem Inv.refit (I:Inv X pins σ H s) (e:H a=some u) (h1:∀ xs,u≠.tup xs) (h2:∀ x,u≠.own x) (h3:∀ ps,u≠.tbl ps)
  (h4:∀ o u',X.H₀ a≠some (.frz o u')) (new:ObjOk X.prog X.w (upd H a v) s.heap a v):Inv X pins σ (upd H a v) s:=by
 have nn:∀ b,H b=none->b≠a:=fun b z q=>by rw[q,e] at z;cases z
 refine⟨I.ok,I.os,I.bare,⟨I.base.keep,I.base.slot,fun b o q n hx=>?_,I.base.there,fun b xs q=>?_,fun b o u' q=>?_,fun b ps q=>?_⟩,I.loc,I.cell,?_,fun x c q=>?_,fun p hp=>?_,fun b ob q=>?_,I.len⟩
 ·have:=I.base.free b o q n hx;rw[Zaf (nn b this)];exact this
 ·have z:=I.base.tups b xs q;rw[Zaf (by rintro rfl;rw[e] at z;exact h1 xs (YaE z))];exact z
 ·have z:=I.base.frzs b o u' q;rw[Zaf (by rintro rfl;exact h4 o u' q)];exact z
 ·obtain⟨more,z⟩:=I.base.tbls b ps q;exact⟨more,by rw[Zaf (by rintro rfl;rw[e] at z;exact h3 _ (YaE z))];exact z⟩
 ·rw[Zaf (nn _ I.free)];exact I.free
 ·rw[Zaf (nn _ (I.freeC x c q))];exact I.freeC x c q
 ·obtain⟨z1,z2,z3⟩:=I.pin p hp;exact⟨z1,by rw[Zaf (nn _ z2)];exact z2,z3⟩
 ·by_cases hb:b=a
  ·subst hb;rw[Zab] at q;cases q;exact new
  ·rw[Zaf hb] at q;refine (I.hok b ob q).stay (fun _ _ _ z=>z) (fun c z=>?_) fun c xs z=>?_
   ·rw[Zaf (by rintro rfl;rw[e] at z;exact h2 _ (YaE z))];exact z
   ·rw[Zaf (by rintro rfl;rw[e] at z;exact h1 _ (YaE z))];exact z
theorem Inv.freeze (I:Inv X pins σ H s) (e:H a=some (.dK kvs)):∃ o,(∀ o u',X.H₀ a≠some (.frz o u'))/\Inv X pins σ (upd H a (.frz o (.dK kvs))) s:=by
 have q:ObjOk X.prog X.w H s.heap a (.dK kvs):=I.hok a _ e;obtain⟨z,hd,vs,r,o,es,ep,ho,rest⟩:=id q;have hn:∀ o u',X.H₀ a≠some (.frz o u'):=fun o u' q=>by
  have:=I.base.frzs a o u' q;rw[e] at this;cases this
 exact⟨o,hn,I.refit e (fun _ z=>nomatch z) (fun _ z=>nomatch z) (fun _ z=>nomatch z) hn ⟨ho,z,hd,vs,r,o,es,ep,ho,rest⟩⟩
theorem Inv.thaw {o:Obj} (I:Inv X pins σ H s) (e:H a=some (.frz o (.dK kvs))) (hn:∀ o u',X.H₀ a≠some (.frz o u')):Inv X pins σ (upd H a (.dK kvs)) s:=by
 obtain⟨_,z,hd,vs,r,q⟩:=(show ObjOk X.prog X.w H s.heap a (.frz o (.dK kvs)) from I.hok a _ e)
 exact I.refit e (fun _ z=>nomatch z) (fun _ z=>nomatch z) (fun _ z=>nomatch z) hn ⟨z,hd,vs,r,q⟩
end
def ZoI (a:Addr) (o:Obj) (kvs:List (Key × V)) (D:Ends):Ends where
 nx:=fun σ H=>H a=some (.frz o (.dK kvs))/\D.nx σ (upd H a (.dK kvs))
 rt:=fun v H=>H a=some (.frz o (.dK kvs))/\D.rt v (upd H a (.dK kvs))
 bk:=fun σ H=>H a=some (.frz o (.dK kvs))/\D.bk σ (upd H a (.dK kvs))
 ct:=fun σ H=>H a=some (.frz o (.dK kvs))/\D.ct σ (upd H a (.dK kvs))
def sFrz (t:TS):TS:=fun D σ H=>(∃ a kvs,H a=some (.dK kvs)/\∀ o,t (ZoI a o kvs D) σ (upd H a (.frz o (.dK kvs))))∨t D σ H
def tFrz (t:TE):TE:=fun σ H Q=>(∃ a kvs,H a=some (.dK kvs)/\∀ o,t σ (upd H a (.frz o (.dK kvs))) fun v H'=>H' a=some (.frz o (.dK kvs))/\Q v (upd H' a (.dK kvs)))∨t σ H Q
section
variable {X:Cx}
theorem Zn7 {st:Stmt}{t:TS} (h:PS X st t):PS X st (sFrz t):=by
 intro pins s σ H D I q;rcases q with ⟨a,kvs,e,q⟩ | q
 ·obtain⟨o,hn,I1⟩:=I.freeze e;refine wpAny_mono (h pins s σ _ _ I1 (q o)) (fun f s' z=>?_) fun _ _ z=>z
  cases f with
  | next=>obtain⟨σ',H',I',e',q'⟩:=z;exact⟨σ',_,I'.thaw e' hn,q'⟩
  | brk=>obtain⟨σ',H',I',e',q'⟩:=z;exact⟨σ',_,I'.thaw e' hn,q'⟩
  | cont=>obtain⟨σ',H',I',e',q'⟩:=z;exact⟨σ',_,I'.thaw e' hn,q'⟩
  | ret u=>obtain⟨v,σ',H',I',r,e',q'⟩:=z;exact⟨v,σ',_,I'.thaw e' hn,r,q'⟩
 ·exact h pins s σ H D I q
theorem Zoa {x:Expr}{t:TE} (h:PE X x t):PE X x (tFrz t):=by
 intro pins s σ H Q I q;rcases q with ⟨a,kvs,e,q⟩ | q
 ·obtain⟨o,hn,I1⟩:=I.freeze e;refine wpAny_mono (h pins s σ _ _ I1 (q o)) (fun f s' z=>?_) fun _ _ z=>z;obtain⟨v,H',I',r,e',q'⟩:=z;exact⟨v,_,I'.thaw e' hn,r,q'⟩
 ·exact h pins s σ H Q I q
end
def VwI (v a:Addr):HO:=.ext fun h=>h.IsItemsView v a
theorem ZnH {P:Program}{w:World}{H:Hp}{h:Heap}{v a:Addr} (x:h.IsItemsView v a):ObjOk P w H h v (VwI v a) :=
 ⟨x,let ⟨o,e,_⟩:=x;⟨o,e⟩,fun _ _ ⟨o,e,r⟩ k=>⟨o,k o e,r⟩⟩
theorem ZlT {X:Cx}{pins:List (Addr × Obj)}{σ:St}{H:Hp}{s:Shared}{v a:Addr} (I:Inv X pins σ H s) (e:H v=some (VwI v a)):s.heap.IsItemsView v a :=
 (show ObjOk X.prog X.w H s.heap v (VwI v a) from I.hok v _ e).1
def ZnM (to:TE):TE:=fun σ H Q=>to σ H fun x H1=>∃ a kvs,x=.ref a/\Rd H1 a (.dK kvs)/\∀ v,H1 v=none->Q (.ref v) (upd H1 v (VwI v a))
theorem Zey {X:Cx}{o:Expr}{to:TE}{apos cpos:Pos} (ho:PE X o to) (hbase:attributeBase o "items" X.env (eval o X.env)=eval o X.env:=by rfl) (hline:(apos.endLine == cpos.line)=true:=by rfl) :
  PE X (.Call (.Attribute o "items" apos) [] [] cpos) (ZnM to):=by
 intro pins s σ H Q I h;refine wpAny_Call_method0_late hbase hline (thn (ho pins s σ H _ I h) fun v s1 ⟨x,H1,I1,r1,a,kvs,ex,hd,q1⟩=>?_);subst ex;cases r1;obtain⟨t1,t2,t3⟩:=Zme I1 (.inl ⟨kvs,hd⟩);obtain⟨_,_,vs,rel,dd⟩:=Zh7 I1.hok hd;refine⟨"dict","dict.items",Yeo,Yen,PySem.F.type_dict_items,t1,t2,YcI rfl (Ye4 ?_)⟩;refine call_meetsIn Yen dd.typeIs PySem.F.entry_dict_items (PySem.F.args_dict_items_1 _) (meets_dict_items (ZaD X.prog X.w) a t3) ⟨⟨vs,dd⟩,?_⟩;exact⟨.ref s1.heap.objs.size,_,I1.laid (o:=VwI s1.heap.objs.size a) (t':=s1.toks) (fun b o e=>Yab _ e) (Yag _) (ZnH ⟨_,Yas _ rfl,rfl,rfl⟩),rfl,q1 _ (I1.hok.fresh (Yag _))⟩
theorem ZjY {X:Cx}{pins:List (Addr × Obj)}{σ:St}{H:Hp}{s:Shared}{a:Addr}{o:Obj}{kvs:List (Key × V)} (I:Inv X pins σ H s) (e:H a=some (.frz o (.dK kvs))) :
  ∃ vs es ep,KV kvs vs/\kvs.length<=sizeLine/\(a == sysModules)=false/\o.data=.dict es ep/\es.size=kvs.length/\s.heap.DictAt (ZaD X.prog X.w) a vs ep:=by
 obtain⟨ho,z,hd,vs,r,o',es,ep,ho',ex,hdat,hk,hp,hn⟩:=(show ObjOk X.prog X.w H s.heap a (.frz o (.dK kvs)) from I.hok a _ e)
 rw[ho] at ho';cases ho';refine⟨vs,es,ep,r,z,hd,hdat,?_,o,es,ho,ex,hdat,hk,hp,hn⟩;rw[r.length,<- hp.length];simp
theorem KV.get {κ:Type}:∀ {kvs:List (κ × V)}{vs:List (κ × Value)}{i:Nat}{k:κ}{v:V},KV kvs vs->kvs[i]?=some (k,v)->∃ u,vs[i]?=some (k,u)/\RelV v u
 | _,_,_,_,_,.nil,e=>by simp at e
 | _,_,0,k,v,.cons (a:=p) (b:=q) r _,e=>by
  simp at e;subst e;obtain⟨e1,r⟩:=r;obtain⟨q1,q2⟩:=q;cases e1;exact⟨q2,rfl,r⟩
 | _,_,i+1,k,v,.cons _ t,e=>by
  obtain⟨u,h1,h2⟩:=KV.get (i:=i) (k:=k) (v:=v) t (by simpa using e);exact⟨u,by simpa using h1,h2⟩
def Itd (o:Obj) (a:Addr):It :=
 ⟨fun i H=>∃ kvs p,H a=some (.frz o (.dK kvs))/\kvs[i]?=some p,fun i H y H'=>∃ p k v,H p=none/\y=.ref p/\H'=upd H p (.tup [kV k,v])/\∀ kvs,H a=some (.frz o (.dK kvs))->kvs[i]?=some (k,v),
  fun i H=>∃ kvs,H a=some (.frz o (.dK kvs))/\kvs.length<=i⟩
theorem Zkc {o:Obj}{es es':Array DictEntry}{ep ep':Nat} (h:o.data=.dict es ep) (h':o.data=.dict es' ep'):es=es'/\ep=ep':=by
 rw[h] at h';cases h';exact⟨rfl,rfl⟩
theorem Zhs {P:Program}{w:World}{K:Yae}{xs:List Expr}{x1}{pos:Pos} (a it:Addr) (o:Obj) (es:Array DictEntry) (ep:Nat) (hdat:o.data=.dict es ep) :
  Turn P w K (.Tuple xs x1 pos) (Itd o a) [it] it (fun i h=>∃ ok ov,IsItemIter h it a i es.size ep ok ov) where
 mem:=by simp
 obj:=fun i h st b hb=>by
  have e:b=it:=by simpa using hb
  subst e;obtain⟨ok,ov,st⟩:=st;exact⟨_,st,fun v z=>nomatch z⟩
 keep:=fun i h h' st k=>by
  obtain⟨ok,ov,st⟩:=st;exact⟨ok,ov,k it (by simp) _ st⟩
 item:=by
  intro X hP hw hK hc i pins s σ H E I hf st hg;subst hP hw hK;obtain⟨ok,ov,st⟩:=st;obtain⟨kvs,⟨k,v⟩,hq,hx⟩:=hg;obtain⟨vs,es',ep',r,_,_,hdat',hsz,da⟩:=ZjY I hq;obtain⟨rfl,rfl⟩:=Zkc hdat hdat';obtain⟨u,hu,ru⟩:=r.get hx;have st':IsItemIter s.heap it a i vs.length ep ok ov:=by rw[<- r.length,<- hsz];exact st
  refine wpAny_pyNext_items_item st' da hu fun key h' hkey ho ht hz hk=>?_;refine⟨_,rfl,wpAny_letOwnedTupleGo_items ho fun h'' he hs=>?_⟩;have lt:it<s.heap.objs.size:=Yah st;have live:∀ b∈[it],b<s.heap.objs.size:=fun b hb=>by
   have e:b=it:=by simpa using hb
   rw[e];exact lt
  have hsz':s.heap.objs.size≠it:=YbA lt;have fresh:H s.heap.objs.size=none:=I.hok.fresh (Yag _);refine⟨.ref s.heap.objs.size,_,I.pairOut (fp:=[it]) (tk:=s.toks) hf (fun b o hb q=>?_) ((hs.2 _ hsz').trans ht) live (fun b hb=>?_) (Zop hkey) ru,rfl,⟨s.heap.objs.size,k,v,fresh,rfl,rfl,fun kvs' h'=>?_⟩,⟨key,u,?_⟩,fun b hb=>?_⟩
  ·have hb:b≠it:=by simpa using hb
   exact (hs.2 b hb).trans (hk b o hb q)
  ·have e:b=it:=by simpa using hb
   rw[e];exact⟨_,he⟩
  ·rw[hq] at h';cases h';exact hx
  ·rw[hsz,r.length];exact he
  ·rw[Zaf (Yaw (live b hb))];exact (hf b hb).1
 done:=by
  intro X hP hw hK hc i pins s σ H E I hf st hg;subst hP hw hK;obtain⟨ok,ov,st⟩:=st;obtain⟨kvs,hq,hx⟩:=hg;obtain⟨vs,es',ep',r,_,_,hdat',hsz,da⟩:=ZjY I hq;obtain⟨rfl,rfl⟩:=Zkc hdat hdat';have st':IsItemIter s.heap it a i vs.length ep ok ov:=by rw[<- r.length,<- hsz];exact st
  obtain⟨f0,f1,f2,f3,f4,f5⟩:=hf it (by simp);exact wpAny_pyNext_items_end (I.ok.hd hc) st' da (Yb1 (by rw[<- r.length];exact hx)) fun h' eb=>⟨rfl,I.turned (t':=s.toks) (fun b o hb q=>eb b o hb q) f0 f1 f3 f4 f5⟩
 self:=fun _ _ _ _ _ st h=>by
  obtain⟨ok,ov,st⟩:=st;exact PySem.W.kcp_self st h
section
variable {X:Cx}
def Zot (tl:TE):TI:=fun σ H R=>tl σ H fun x H1=>∃ v a o kvs,x=.ref v/\H1 v=some (VwI v a)/\H1 a=some (.frz o (.dK kvs))/\R (Itd o a) H1
theorem ZgV {xs:List Expr}{x1}{tpos:Pos}{l:Expr}{tl:TE} (hl:PE X l tl):PI X (.Tuple xs x1 tpos) l (Zot tl):=by
 intro pins s σ H R I h;refine thn (hl pins s σ H _ I h) fun v s1 ⟨x,H1,I1,r1,vw,a,o,kvs,e,hv,hq,q⟩=>?_;subst e;cases r1;obtain⟨vs,es,ep,r,_,_,hdat,hsz,da⟩:=ZjY I1 hq;refine wpAny_pyIter_items (ZlT I1 hv) da ?_;refine⟨s1.heap.objs.size,[s1.heap.objs.size],_,_,H1,rfl,I1.kept (t':=s1.toks) fun b o e=>Yab _ e,Zhs a _ o es ep hdat,⟨.none,.none,?_⟩,fun b hb=>?_,q⟩
 ·rw[hsz,r.length];exact Yas _ rfl
 ·have e:b=s1.heap.objs.size:=by simpa using hb
  subst e;exact I1.fpOk (Yag _) (I1.hok.fresh (Yag _))
end
theorem ZjZ {o:Obj}{a:Addr}{kvs:List (Key × V)}{g:TG}{tb:TS}{D:Ends}{σ:St}{H:Hp} (Pv:Nat->St->Hp->Prop) (h0:Pv 0 σ H) (hl:∀ i σ H,i<=kvs.length->Pv i σ H->H a=some (.frz o (.dK kvs)))
  (hs:∀ i k v p σ H,kvs[i]?=some (k,v)->Pv i σ H->H p=none->g (.ref p) σ (upd H p (.tup [kV k,v])) fun σ2 H2=>tb { D with nx:=Pv (i+1),ct:=Pv (i+1),bk:=D.nx } σ2 H2) (hd:∀ σ H,Pv kvs.length σ H->D.nx σ H) :
  ∃ W:Nat->Nat->St->Hp->Prop,(∃ m,W 0 m σ H)/\∀ i m σ H,W i m σ H ->
   ((Itd o a).stop i H/\D.nx σ H)∨((Itd o a).go i H/\∃ N:St->Hp->Prop,(∀ σ' H',N σ' H'->∃ m',m'<m/\W (i+1) m' σ' H')/\∀ x H',(Itd o a).yld i H x H'->g x σ H' fun σ2 H2=>tb { D with nx:=N,ct:=N,bk:=D.nx } σ2 H2):=by
 refine⟨fun i m σ H=>m=kvs.length - i/\i<=kvs.length/\Pv i σ H,⟨kvs.length,by simp,YaW _,h0⟩,?_⟩;rintro i m σ H ⟨rfl,hi,p⟩;have q:=hl i σ H hi p;by_cases hlt:i<kvs.length
 ·refine .inr ⟨⟨kvs,kvs[i],q,Yaa hlt⟩,Pv (i+1),fun σ' H' z=>⟨kvs.length - (i+1),by omega,rfl,hlt,z⟩,fun x H' y=>?_⟩;obtain⟨pa,k,v,hp,e1,e2,y⟩:=y;subst e1 e2;exact hs i k v pa σ H (y kvs q) p hp
 ·obtain rfl:i=kvs.length:=by omega
  exact .inl ⟨⟨kvs,q,Yag _⟩,hd σ H p⟩
section
variable {prog:Program}{w:World}{A:Around}{R:Result->Shared->Prop}{s:Shared}
theorem ZbX {kx vx target iter:Expr}{ifs:List Expr}{scope:Scope}{pos:Pos}{it:Value}{D:Addr}{env:Env} (I:Nat->Shared->Prop)
  (turn:∀ n s,I n s->wpAny (model prog w) A (pyNext it) (fun r s₁=>match r with
   | none=>R (.ok .next) s₁
   | some v=>wpAny (model prog w) A (letOwnedTupleGo target it v) (fun _ s₁'=>wpAny (model prog w) A (assign target env v) (fun _ s₂=>
     wpAny (model prog w) A (forIn ifs true fun c r=>if r=true then do let ok <- isTrue c env (eval c env);pure (Ybh ok) else pure (Ybh r)) (fun ok s₃=>
      if ok=true then wpAny (model prog w) A (eval kx env) (fun kv s₄=>wpAny (model prog w) A (eval vx env) (fun vv s₅=>
       wpAny (model prog w) A (dictSet D kv vv) (fun _ s₆=>∃ m,m<n/\I m s₆) (fun _ _=>False) s₅) (fun _ _=>False) s₄) (fun _ _=>False) s₃
      else ∃ m,m<n/\I m s₃) (fun _ _=>False) s₂) (fun _ _=>False) s₁') (fun _ _=>False) s₁) (fun _ _=>False) s)
  (n:Nat) (h:I n s) :
  codeAny (model prog w) A (.compLoop (.DictComp kx vx [⟨target,iter,ifs,0⟩] scope pos) 0 it (.ref D) env) R s:=by
 refine codeAny_loop rfl I (fun n s hI=>?_) n h;show wpAny _ A ((compTurn (.DictComp kx vx [⟨target,iter,ifs,0⟩] scope pos) 0 it (.ref D) env).onRaise (fun x=>do noteFrame x env;theTreesLotGoes x)) _ _ s;refine wpAny_noted ?_;rw[compTurn_dict];refine wpAny_bind (wpAny_standAt (wpAny_bind (wpAny_mono (turn n s hI) (fun r s₁ h₁=>?_) fun _ _ h'=>h'.elim)))
 cases r with
 | none=>exact wpAny_pure h₁
 | some v=>
  refine wpAny_bind (wpAny_mono h₁ (fun _ s₁' h₁=>?_) fun _ _ h'=>h'.elim);refine wpAny_bind (wpAny_mono h₁ (fun _ s₂ h₂=>wpAny_bind (wpAny_mono h₂ (fun ok s₃ h₃=>?_) fun _ _ h'=>h'.elim)) fun _ _ h'=>h'.elim)
  cases ok with
  | false=>exact wpAny_pure ⟨rfl,h₃⟩
  | true=>
   exact wpAny_bind (wpAny_bind (wpAny_mono h₃ (fun kv s₄ h₄=>wpAny_bind (wpAny_holding (wpAny_mono h₄ (fun vv s₅ h₅=>wpAny_bind (wpAny_standAt (wpAny_holding (wpAny_mono h₅ (fun _ s₆ h₆=>wpAny_pure ⟨rfl,h₆⟩) fun _ _ h'=>h'.elim)))) fun _ _ h'=>h'.elim))) fun _ _ h'=>h'.elim))
end
section
variable {X:Cx}{pins:List (Addr × Obj)}{σ:St}{H H':Hp}{s s':Shared}{scope:Scope}{own:List Str}{js:List Nat}{C:Addr}{fp:List Addr}
theorem Zia {ob:HO}{acc:Addr}{m:Str->Option Value}{tk:Nat}{h':Heap} (c:CompOk X scope own js) (I:Inv X pins σ H s) (hC:s.heap.objs.size<=C) (hf:∀ b∈fp,FpOk X pins H b) (ho:∀ b∈fp,∃ o,s.heap.get? b=some o)
  (hn:h'.Ns C m) (k:∀ b u,s.heap.get? b=some u->h'.get? b=some u) (hacc:s.heap.objs.size<=acc) (haC:acc≠C) (new:ObjOk X.prog X.w (upd H acc ob) h' acc ob) :
  Inv (X.blk scope own js s H C fp pins) [] (blkσ own js σ) (upd H acc ob) { s with heap:=h',toks:=tk }:=by
 have ok:=Zmj c I hC hf ho;have fresh:∀ {a:Addr},s.heap.objs.size<=a->H a=none:=fun h=>I.hok.fresh h;have neA:∀ b o,s.heap.get? b=some o->b≠acc:=fun b o e=>Yaw (Yal (Yah e) hacc);refine⟨ok,rfl,I.bare,Un.laid k hacc (fresh hacc),⟨m,hn,fun i x v e1 e2 e3=>?_⟩,fun x a e=>?_,?_,fun x a e=>?_,fun p hp=>?_,I.hok.laid k hacc new,Zds own js σ X⟩
 ·
  have hi:own.length<=i:=by
   refine Yd6 fun hi=>?_;unfold blkσ at e2;rw[YaL (by simpa using hi),Yam] at e2
   cases q:own[i]? with
   | none=>rw[q] at e2;cases e2
   | some z=>rw[q] at e2;cases e2
  have e1':(js.map fun j=>X.N.getD j YcZ)[i - own.length]?=some x:=by
   have e1:(own++js.map fun j=>X.N.getD j YcZ)[i]?=some x:=e1
   rwa [YaI hi] at e1
  have e2':(js.map fun j=>(σ[j]?).join)[i - own.length]?=some (some v):=by
   unfold blkσ at e2;rw[YaI (by simpa using hi)] at e2;simpa using e2
  rw[Yam] at e1' e2'
  cases q:js[i - own.length]? with
  | none=>rw[q] at e1';cases e1'
  | some j=>
   rw[q] at e1' e2';obtain⟨x',hx',hfree⟩:=c.out j (Yau q);have ex:x'=x:=by
    have:X.N.getD j YcZ=x:=YaE e1';rw[Yat,hx'] at this;exact this
   subst ex;have eσ:σ[j]?=some (some v):=by
    have e2'':(σ[j]?).join=some v:=YaE e2'
    cases r:σ[j]? with
    | none=>rw[r] at e2'';cases e2''
    | some z=>rw[r] at e2'';cases z with
     | none=>cases e2''
     | some y=>cases e2'';rfl
   have hmem:(x',Yb5)∈scope.names:=YbD hfree;have hkX:=c.free _ hmem rfl;have vis:Vis X.env.scope x':=by
    rcases hkX with z | z
    ·exact .inr (.inl z)
    ·exact .inr (.inr z)
   obtain⟨m0,hn0,hl0⟩:=I.loc;obtain⟨u,r,l⟩:=hl0 j x' v hx' eσ vis;refine⟨u,r,.inr ⟨ZbD hfree,?_⟩⟩;obtain⟨a,ha⟩:=Zhn (env:=X.env) scope.names [] hmem;refine⟨a,ha,?_⟩;have haX:=c.look I ha;rcases l with ⟨z,_⟩ | ⟨_,a',ha',⟨o,ho',hd⟩⟩
   ·have z:X.env.kindOf x'=some .local:=z;rcases hkX with y | y
    ·have y:X.env.kindOf x'=some .cell:=y;rw[z] at y;cases y
    ·have y:X.env.kindOf x'=some .free:=y;rw[z] at y;cases y
   ·rw[haX] at ha';cases ha';exact⟨o,k _ o ho',hd⟩
 ·obtain⟨v,o,ho',hd⟩:=I.cell x a (c.look I e);exact⟨v,o,k _ o ho',hd⟩
 ·show upd H acc ob C=none;rw[Zaf (Ybq haC)];exact fresh hC
 ·have e':=c.look I e;obtain⟨v,o,ho',hd⟩:=I.cell x a e';rw[Zaf (neA a o ho')];exact I.freeC x a e'
 ·have hp:p∈X.pn++pins:=by simpa[Cx.blk] using hp
  obtain⟨e,n,ne,nf,d⟩:=I.pin p hp;refine⟨k _ _ e,by rw[Zaf (neA _ _ e)];exact n,Yaw (Yal (Yah e) hC),fun z=>?_,d⟩;rcases Yao.mp (I.stkSub _ z) with q | q
  ·exact ne q
  ·exact nf q
end
theorem Zke {X:Cx}{pins:List (Addr × Obj)}{σ:St}{H:Hp}{s:Shared}{a:Addr}{kvs:List (Key × V)}{k:Key}{v:V}{u r:Value}{A:Around}{E:Value->Shared->Prop}{Q:Unit->Shared->Prop} (I:Inv X pins σ H s) (e:H a=some (.dK kvs)) (l:kvs.length<sizeLine) (ry:RelV (kV k) u) (rv:RelV v r) (h:∀ s',Inv X pins σ (upd H a (.dK (putK kvs k v))) s'->Q () s') :
  wpAny (model X.prog X.w) A (dictSet a u r) Q E s:=by
 obtain⟨z,hd,vs,rel,dd⟩:=Znx I.hok e;have hz:vs.length<=sizeLine:=by rw[<- rel.length];exact z
 have hl:(putK kvs k v).length<=sizeLine:=by have:=Zbv kvs k v;omega
 refine wpAny_dictSet_pairs (hsz:=hz) (ZjL ry) dd fun h' dd' hs=>h _ ?_;have he:∃ q,h'.get? a=some q:=let ⟨q,_,_,hq,_⟩:=dd';⟨q,hq⟩
 exact ZeK I (by rw[e];exact YbX) hs he (Zhl hl hd (rel.put k rv) dd')
def ZfR (own:List Str) (js:List Nat) (g:TG) (tt:TT) (tk tv:TE) (σ:St) (J:It) (H1:Hp) (Q:VK):Prop :=
 ∀ acc,H1 acc=none->∃ (W:Nat->Hp->Prop) (n:Nat),W 0 (upd H1 acc (.dK []))/\∀ i H2,W i H2 ->
  (J.stop i H2/\Q (.ref acc) H2)∨(i<n/\J.go i H2/\∀ x H3,J.yld i H2 x H3->g x (blkσ own js σ) H3 fun τ H4=>tt τ H4 fun c H5=>
   if c=true then tk τ H5 fun y H6=>tv τ H6 fun z H7=>∃ k kvs,y=kV k/\H7 acc=some (.dK kvs)/\kvs.length<sizeLine/\W (i+1) (upd H7 acc (.dK (putK kvs k z))) else W (i+1) H5)
def ZnP (own:List Str) (js:List Nat) (wi:TI) (g:TG) (tt:TT) (tk tv:TE):TE:=fun σ H Q=>wi σ H fun J H1=>ZfR own js g tt tk tv σ J H1 Q
section
variable {X:Cx}{scope:Scope}{own:List Str}{js:List Nat}{kx vx iter target:Expr}{ifs:List Expr}{wi:TI}{g:TG}{tt:TT}{tk tv:TE}{pos:Pos}
theorem ZlM {pins:List (Addr × Obj)}{σ:St}{H2:Hp}{s₂:Shared}{it:Addr}{fp:List Addr}{tn:Nat->Heap->Prop}{J:It}{Q:VK}{E:Value->Shared->Prop}{RR:Value->Addr->Result->Shared->Prop}
  (c:CompOk X scope own js) (hc:X.calm=true) (hgk:ZfM own g)
  (hg:∀ s H C fp pins,PG (X.blk scope own js s H C fp pins) target g) (ht:∀ s H C fp pins,PTs (X.blk scope own js s H C fp pins) ifs tt) (hk:∀ s H C fp pins,PE (X.blk scope own js s H C fp pins) kx tk) (hv:∀ s H C fp pins,PE (X.blk scope own js s H C fp pins) vx tv)
  (I:Inv X pins σ H2 s₂) (T:Turn X.prog X.w X.K target J fp it tn) (st:tn 0 s₂.heap) (hf:∀ b∈fp,FpOk X pins H2 b) (h:ZfR own js g tt tk tv σ J H2 Q)
  (hRR:∀ acc C H' s' m,s₂.heap.objs.size<=C->H' C=none->Inv X pins σ H' s'->s'.heap.Ns C m->Q (.ref acc) H'->RR (.ref acc) C (.ok .next) s') :
  wpAny (model X.prog X.w) X.A newDict (fun acc s₃=>wpAny (model X.prog X.w) X.A (newFunctionEnv scope X.env.globals (clOf scope X.env) [] X.env.qual none .none (some X.env)) (fun cenv s₄=>
   codeAny (model X.prog X.w) X.A (.compStart (.DictComp kx vx [⟨target,iter,ifs,0⟩] scope pos) 0 (.ref it) acc { cenv with scope:=relabel scope X.env }) (RR acc cenv.locals) s₄) E s₃) E s₂:=by
 refine wpAny_newObj_type (wpAny_newFunctionEnv c.cell (by intro y hy;simp at hy) (fun h₁ hns₁ hsb₁=>?_) c.kind);dsimp only at hns₁ hsb₁ ⊢;generalize hH2:s₂.heap.push { cls:=.type "dict",dict:=none,data:=.dict #[] }=G2 at hns₁ hsb₁ ⊢;have hC:G2.objs.size=s₂.heap.objs.size+1:=by rw[<- hH2,YaY]
 have hDC:s₂.heap.objs.size≠G2.objs.size:=by rw[hC];exact Yaw (Ybs _)
 have hCle:s₂.heap.objs.size<=G2.objs.size:=by rw[hC];exact Ydm _
 have old:∀ b o,s₂.heap.get? b=some o->h₁.get? b=some o:=fun b o e=>hsb₁.extBut b o (Yaw (Yal (Yah e) hCle)) (Yab _ (hH2 ▸ Yab _ e));have hacc:ObjOk X.prog X.w (upd H2 s₂.heap.objs.size (.dK [])) h₁ s₂.heap.objs.size (.dK []):=by
  refine (ZeJ (H:=upd H2 s₂.heap.objs.size (.dK [])) s₂.heap I.big).stay (h':=h₁) (fun b u hb e=>?_) (fun _ q=>q) fun _ _ q=>q;have hb':b≠G2.objs.size:=by
   have:=Yah e;rw[hC];rw[YaY] at this;exact Yaw this
  exact hsb₁.extBut _ _ hb' (Yab _ (hH2 ▸ e))
 have ho2:∀ b∈fp,∃ o,s₂.heap.get? b=some o:=fun b hb=>let ⟨o,e,_⟩:=T.obj 0 _ st b hb;⟨o,e⟩
 have I0:∀ tk,Inv (X.blk scope own js s₂ H2 G2.objs.size fp pins) [] (blkσ own js σ) (upd H2 s₂.heap.objs.size (.dK [])) { s₂ with heap:=h₁,toks:=tk }:=fun tk=>
  Zia c I hCle hf ho2 hns₁ old (Yag _) hDC hacc
 obtain⟨W,nn,w0,turn⟩:=h s₂.heap.objs.size (I.hok.fresh (Yag _));generalize hacc':s₂.heap.objs.size=acc at *;generalize hGC:G2.objs.size=C at *;have st1:tn 0 h₁:=T.keep 0 _ _ st fun b _ o e=>old b o e;have fOk:∀ {H':Hp},(∀ b∈fp,H' b=none)->∀ b∈fp,FpOk (X.blk scope own js s₂ H2 C fp pins) [] H' b:=fun hn b hb=>by
  obtain⟨f0,f1,f2,f3,f4,f5⟩:=hf b hb;obtain⟨o,e⟩:=ho2 b hb;refine⟨hn b hb,Yaw (Yal (Yah e) (by rw[<- hacc'] at hCle;exact hCle)),fun z=>?_,.inl hb,fun x a h=>f4 x a (c.look I h),fun p hp=>f5 p (by simpa[Cx.blk] using hp)⟩;rcases Yao.mp (I.stkSub b z) with q | q
  ·exact f1 q
  ·exact f2 q
 have loop:∀ s₃:Shared,s₃={ s₂ with heap:=h₁,toks:=s₂.toks+([]:List (Str × Value)).length } ->
   codeAny (model X.prog X.w) X.A (.compLoop (.DictComp kx vx [⟨target,iter,ifs,0⟩] scope pos) 0 (.ref it) (.ref acc) (compEnvC scope (clOf scope X.env) C X.env)) (RR (.ref acc) C) s₃:=by
  rintro s₃ rfl;refine ZbX (fun n s'=>∃ i H',n=nn - i/\Inv (X.blk scope own js s₂ H2 C fp pins) [] (blkσ own js σ) H' s'/\tn i s'.heap/\(∀ b∈fp,H' b=none)/\W i H') ?_ nn ⟨0,_,rfl,I0 _,st1,fun b hb=>?_,w0⟩
  ·rintro n s3 ⟨i,H3,en,I3,st3,fr3,w3⟩;rcases turn i H3 w3 with ⟨stop,qn⟩ | ⟨hin,go,step⟩
   ·refine thn (T.done (X.blk scope own js s₂ H2 C fp pins) rfl rfl rfl hc i [] s3 _ H3 (fun _ _=>False) I3 (fOk fr3) st3 stop) fun r s4 ⟨hr,I4⟩=>?_;subst hr;obtain⟨m,hn,_⟩:=I4.loc;exact hRR acc C H3 s4 m hCle I4.free (Zgu I hf I4) hn qn
   ·refine thn (T.item (X.blk scope own js s₂ H2 C fp pins) rfl rfl rfl hc i [] s3 _ H3 (fun _ _=>False) I3 (fOk fr3) st3 go) fun r s4 ⟨u,hr,h4⟩=>?_;subst hr;refine thn h4 fun _ s5 ⟨x,H5,I5,r5,y5,st5,fr5⟩=>?_;have I5':=I5.pinned (fOk fr5) (T.obj _ _ st5);have again:∀ {σ7:St}{H7:Hp}{s7:Shared},Inv (X.blk scope own js s₂ H2 C fp pins) ([]++ZcN fp s5.heap) σ7 H7 s7->(∀ (j:Nat) v,(blkσ own js σ)[j]?=some (some v)->σ7[j]?=some (some v))->W (i+1) H7 ->
      ∃ m,m<n/\∃ i H',m=nn - i/\Inv (X.blk scope own js s₂ H2 C fp pins) [] (blkσ own js σ) H' s7/\tn i s7.heap/\(∀ b∈fp,H' b=none)/\W i H':=fun {σ7 H7 s7} I7 hw w7=>by
     refine⟨nn - (i+1),by omega,i+1,H7,rfl,(I7.unpinned).weak ((Zds own js σ X).trans I7.len.symm) hw,T.keep _ _ _ st5 fun b hb o e=>(I7.pin (b,o) (YaA _ (YaA _ (ZaL hb e)))).1,fun b hb=>?_,w7⟩;obtain⟨o,e,d⟩:=T.obj _ _ st5 b hb;exact (I7.pin (b,o) (YaA _ (YaA _ (ZaL hb e)))).2.1
    refine thn (hg s₂ H2 C fp pins _ s5 _ H5 x u _ I5' r5 (hgk _ _ _ _ _ (step x H5 y5))) fun _ s6 ⟨σ6,H6,I6,kp,q6⟩=>?_;refine thn (ht s₂ H2 C fp pins _ s6 σ6 H6 _ I6 q6) fun ok s7 ⟨H7,I7,q7⟩=>?_
    cases ok with
    | false=>
     exact again I7 kp q7
    | true=>
     refine thn (hk s₂ H2 C fp pins _ s7 σ6 H7 _ I7 q7) fun y s8 ⟨v,H8,I8,r8,q8⟩=>?_;refine thn (hv s₂ H2 C fp pins _ s8 σ6 H8 _ I8 q8) fun z s9 ⟨zv,H9,I9,r9,k,kvs,ek,hl,hz,w9⟩=>?_;subst ek;exact Zke (X:=X.blk scope own js s₂ H2 C fp pins) I9 hl hz r8 r9 fun s10 I10=>again I10 kp w9
  ·rw[Zaf ?_]
   ·exact (hf b hb).1
   ·obtain⟨o,e⟩:=ho2 b hb;rw[<- hacc'];exact Yaw (Yah e)
 exact codeAny_compStart_dict (loop _ rfl) (T.self _ 0 _ _ _ st1 (loop _ rfl))
theorem Zk6 (c:CompOk X scope own js) (hc:X.calm=true) (hi:PI X target iter wi) (hgk:ZfM own g)
  (hg:∀ s H C fp pins,PG (X.blk scope own js s H C fp pins) target g) (ht:∀ s H C fp pins,PTs (X.blk scope own js s H C fp pins) ifs tt) (hk:∀ s H C fp pins,PE (X.blk scope own js s H C fp pins) kx tk) (hv:∀ s H C fp pins,PE (X.blk scope own js s H C fp pins) vx tv)
  (hs:∀ x,foldedSetIterable iter X.env x=pure x:=by intro _;rfl):PE X (.DictComp kx vx [⟨target,iter,ifs,0⟩] scope pos) (ZnP own js wi g tt tk tv):=by
 intro pins s σ H Q I h;rw[arm_eval_DictComp];refine wpAny_comprehension_free (use:=none) rfl hs (ZbT (c.cl I)) c.kind c.names (thn (hi pins s σ H _ I h) fun v s1 h1=>thn h1 fun itv s2 h2=>?_);obtain⟨it,fp,tn,J,H2,e,I2,T,st2,f2,hw⟩:=h2;subst e;refine ZlM (RR:=fun acc C=>compPost (model X.prog X.w) X.A X.xe none (EP X pins σ Q) acc C) c hc hgk hg ht hk hv I2 T st2 f2 hw ?_;intro acc C H' s' m hCs hCn I' hn q;refine⟨m,hn,fun h' hs'=>⟨.ref acc,H',I'.other hs' hCn ?_ ?_ ?_ ?_,rfl,q⟩⟩
 ·exact YbA (Yal I2.lt hCs)
 ·exact Ybv I2.sz hCs
 ·intro x a e z;obtain⟨v,q⟩:=I2.cell x a e;exact absurd (Yal q.lt (by rw[z];exact hCs)) (Ya7 _)
 ·intro p hp z;exact absurd (Yal (Yah (I2.pin p hp).1) (by rw[z];exact hCs)) (Ya7 _)
end
theorem Zgo {o:Obj}{own:List Str}{js:List Nat}{g:TG}{tt:TT}{tk tv:TE}{σ:St}{H1:Hp}{Q:VK}{a:Addr}{kvs:List (Key × V)} (Pv:Addr->Nat->Hp->Prop) (h0:∀ acc,H1 acc=none->Pv acc 0 (upd H1 acc (.dK []))) (hl:∀ acc i H,H1 acc=none->i<=kvs.length->Pv acc i H->H a=some (.frz o (.dK kvs)))
  (hs:∀ acc i k v p H,H1 acc=none->kvs[i]?=some (k,v)->Pv acc i H->H p=none->g (.ref p) (blkσ own js σ) (upd H p (.tup [kV k,v])) fun τ H4=>tt τ H4 fun c H5=>
   if c=true then tk τ H5 fun y H6=>tv τ H6 fun z H7=>∃ k kvs',y=kV k/\H7 acc=some (.dK kvs')/\kvs'.length<sizeLine/\(i+1<=kvs.length/\Pv acc (i+1) (upd H7 acc (.dK (putK kvs' k z)))) else (i+1<=kvs.length/\Pv acc (i+1) H5))
  (hd:∀ acc H,H1 acc=none->Pv acc kvs.length H->Q (.ref acc) H):ZfR own js g tt tk tv σ (Itd o a) H1 Q:=by
 intro acc hacc;refine⟨fun i H=>i<=kvs.length/\Pv acc i H,kvs.length,⟨YaW _,h0 acc hacc⟩,?_⟩;rintro i H ⟨hi,p⟩;have q:=hl acc i H hacc hi p;by_cases hlt:i<kvs.length
 ·refine .inr ⟨hlt,⟨kvs,kvs[i],q,Yaa hlt⟩,fun x H' y=>?_⟩;obtain⟨pa,k,v,hp,e1,e2,y⟩:=y;subst e1 e2;exact hs acc i k v pa _ hacc (y kvs q) p hp
 ·obtain rfl:i=kvs.length:=by omega
  exact .inl ⟨⟨kvs,q,Yag _⟩,hd acc H hacc p⟩
theorem Zgt {X:Cx}:ZbK X (.type "dict") (fun xs H Q=>∃ a kvs,xs=[.ref a]/\Rd H a (.dK kvs)/\∀ p,H p=none->Q (.ref p) (upd H p (.dK kvs))):=by
 intro pins s σ H xs us Q I r h;obtain⟨a,kvs,rfl,e,q⟩:=h;obtain⟨u,rfl,r1⟩:=ZcR r;cases r1;exact ZlH I e fun p s' hp I'=>⟨.ref p,_,I',rfl,q p hp⟩
end L2
namespace L2
open PySem PyProof.Rows
structure KO extends KeyOrd where
 ky:Keyed->α
namespace KO
variable {O:KO}{x y z:Keyed}
def le (O:KO) (x y:Keyed):Prop:=O.blt (O.ky y) (O.ky x)=false
theorem le_refl:O.le x x:=O.irrefl _
theorem le_trans (h1:O.le x y) (h2:O.le y z):O.le x z:=YcN (O:=O.toKeyOrd) h1 h2
theorem le_of_lt (h:O.blt (O.ky x) (O.ky y)=true):O.le x y:=KeyOrd.klt_asymm (O:=O.toKeyOrd) h
abbrev Srt (O:KO) (l:List Keyed):Prop:=l.Pairwise O.le
end KO
def Zgk:Bool->Keyed->Array Keyed->Nat->Nat->Nat->StateT SortSt Sem (Option Nat):=sortPriv% PySem.Builtin.gallop
def Zlv:Array Keyed->Array Keyed->StateT SortSt Sem (Array Keyed):=sortPriv% PySem.Builtin.mergeLo
def Zlw:Array Keyed->Array Keyed->StateT SortSt Sem (Array Keyed):=sortPriv% PySem.Builtin.mergeHi
def ZhC:Nat->StateT SortSt Sem Unit:=sortPriv% PySem.Builtin.setMinGallop
section
variable {prog:Program}{w:World}{A:Around}{E:Value->Shared->Prop}{s:Shared}{O:KO}{knd:SortKind}{ok:Keyed->Prop}{st:SortSt}
def Asks (prog:Program) (w:World) (A:Around) (s:Shared) (O:KO) (knd:SortKind) (ok:Keyed->Prop):Prop :=
 ∀ x y,ok x->ok y->∀ (E:Value->Shared->Prop) (Q:Bool->Shared->Prop),Q (O.blt (O.ky x) (O.ky y)) s->wpAny (model prog w) A (keyLt' knd x.1 y.1) Q E s
theorem ZeT {x y:Keyed}{Q:Option Bool->SortSt->Prop} (hA:Asks prog w A s O knd ok) (hk:kindOf st=knd) (hx:ok x) (hy:ok y) (h:Q (some (O.blt (O.ky x) (O.ky y))) st):wpS (model prog w) A E s (lt' x y) Q st:=by
 rw[lt'_eq];refine wpS_bind (wpS_get ?_);rw[hk];refine wpS_bind (wpS_lift (wpAny_attempt (hA x y hx hy _ _ ⟨rfl,?_⟩)));exact wpS_pure h
theorem Zat {arr:Array Keyed}{i:Nat}{x:Keyed}{Q:Keyed->SortSt->Prop} (e:arr[i]?=some x) (h:Q x st):wpS (model prog w) A E s (elem' arr i) Q st:=by
 rw[elem'_eq,e];exact wpS_pure h
def Zkv (left:Bool) (key:Keyed) (arr:Array Keyed) (base i:Nat):StateT SortSt Sem (Option Bool) :=
 elem' arr (base+i) >>= fun x=>if left=true then lt' x key else lt' key x >>= fun r=>pure (r.map (! ·))
theorem ZdD {left:Bool}{key:Keyed}{arr:Array Keyed}{base n hint:Nat}{Q:Option Nat->SortSt->Prop} (hA:Asks prog w A s O knd ok) (hk:kindOf st=knd) (hkey:ok key) (B:Nat->Bool)
    (hB:∀ i,i<n->∃ x,arr[base+i]?=some x/\ok x/\B i=if left=true then O.blt (O.ky x) (O.ky key) else !(O.blt (O.ky key) (O.ky x)))
    (mono:∀ i j,i<=j->j<n->B j=true->B i=true) (hh:hint<n)
    (h:∀ k,k<=n->(∀ i,i<k->B i=true)->(∀ i,k<=i->i<n->B i=false)->Q (some k) st):wpS (model prog w) A E s (Zgk left key arr base n hint) Q st:=by
  have bey:∀ i,i<n->∀ {Q':Option Bool->SortSt->Prop},Q' (some (B i)) st->wpS (model prog w) A E s (Zkv left key arr base i) Q' st:=by
    intro i hi Q' hq;obtain⟨x,e,hx,eb⟩:=hB i hi;refine wpS_bind (Zat e ?_);rw[eb] at hq
    cases left with
    | true=>simp only[if_true] at hq ⊢;exact ZeT hA hk hx hkey hq
    | false=>
      simp only[YaD,if_false] at hq ⊢;exact wpS_bind (ZeT hA hk hkey hx (wpS_pure hq))
  have monoF:∀ i j,i<=j->j<n->B i=false->B j=false:=by
    intro i j hij hj hf
    cases e:B j with
    | false=>rfl
    | true=>rw[mono i j hij hj e] at hf;cases hf
  have jp:∀ lo hi,lo<=hi->hi<=n->(∀ i,i<lo->B i=true)->(∀ i,hi<=i->i<n->B i=false) ->
      wpS (model prog w) A E s (forIn [:n] ((none : Option (Option Nat)), lo, hi) fun _ c => if c.2.1 ≥ c.2.2 then pure (Yco (none, c.2.1, c.2.2)) else Zkv left key arr base (c.2.1 + (c.2.2 - c.2.1) / 2) >>= fun x => match x with
          | some more=>if more=true then pure (Ybh (none,c.2.1+(c.2.2 - c.2.1) / 2+1,c.2.2)) else pure (Ybh (none,c.2.1,c.2.1+(c.2.2 - c.2.1) / 2))
          | _=>pure (Yco (some none,c.2.1,c.2.2)))
        (fun c st'=>st'=st/\∃ l k,c=(none,l,k)/\Q (some k) st) st:=by
    intro lo hi hle hin hlo hhi;refine wpS_forRange (I:=fun x c st'=>st'=st/\∃ l k,c=(none,l,k)/\l<=k/\k<=n/\k - l<=n - x/\(∀ i,i<l->B i=true)/\(∀ i,k<=i->i<n->B i=false)) ?step ?fin ⟨rfl,lo,hi,rfl,hle,hin,by omega,hlo,hhi⟩
    case fin=>
      rintro c st' ⟨rfl,l,k,rfl,h1,h2,h3,h4,h5⟩;have e:l=k:=by omega
      subst e;exact⟨rfl,l,l,rfl,h l h2 h4 h5⟩
    case step=>
      rintro x c st' _ hx ⟨rfl,l,k,rfl,h1,h2,h3,h4,h5⟩;dsimp only;by_cases hge:l ≥ k
      · rw[if_pos hge];have e:l=k:=by omega
        subst e;exact wpS_pure ⟨rfl,l,l,rfl,h l h2 h4 h5⟩
      · rw[if_neg hge];have hm:l+(k - l) / 2<k:=by omega
        refine wpS_bind (bey _ (by omega) ?_)
        cases e:B (l+(k - l) / 2) with
        | true=>
          simp only[if_true];exact wpS_pure ⟨rfl,_,_,rfl,by omega,h2,by omega,fun i hi=>mono i _ (by omega) (by omega) e,h5⟩
        | false=>
          simp only[YaD,if_false];exact wpS_pure ⟨rfl,_,_,rfl,by omega,by omega,by omega,h4,fun i h6 h7=>monoF _ i h6 h7 e⟩
  refine wpS_bind (bey hint hh ?_);dsimp only
  cases e0:B hint with
  | true=>
    simp only[if_true];refine wpS_bind (wpS_mono (wpS_forRange (I:=fun x c st'=>st'=st/\∃ l k,c=((none:Option (Option Nat)),l,k)/\l<k/\x+1<=k/\hint+l<n/\B (hint+l)=true)
      (Q:=fun c st'=>st'=st/\∃ l k,c=((none:Option (Option Nat)),l,k)/\l<k/\hint+l<n/\B (hint+l)=true/\(n - hint<=k∨(hint+k<n/\B (hint+k)=false))) ?step ?fin ⟨rfl,0,1,rfl,by omega,by omega,hh,e0⟩) ?post)
    case fin=>
      rintro c st' ⟨rfl,l,k,rfl,h1,h2,h3,h4⟩;exact⟨rfl,l,k,rfl,h1,h3,h4,.inl (by omega)⟩
    case step=>
      rintro x c st' _ hx ⟨rfl,l,k,rfl,h1,h2,h3,h4⟩;dsimp only;by_cases hge:k ≥ n - hint
      · rw[if_pos hge];exact wpS_pure ⟨rfl,l,k,rfl,h1,h3,h4,.inl hge⟩
      · rw[if_neg hge];refine wpS_bind (bey (hint+k) (by omega) ?_)
        cases e:B (hint+k) with
        | true=>
          simp only[Yb2,YaD,if_false];exact wpS_pure ⟨rfl,_,_,rfl,by omega,by omega,by omega,e⟩
        | false=>
          simp only[YeJ,if_true];exact wpS_pure ⟨rfl,l,k,rfl,h1,h3,h4,.inr ⟨by omega,e⟩⟩
    case post=>
      rintro c st' ⟨rfl,l,k,rfl,h1,h3,h4,h5⟩;dsimp only;refine wpS_bind (wpS_mono (jp (hint+l+1) (hint+min k (n - hint)) (by omega) (by omega) (fun i hi=>mono i (hint+l) (by omega) h3 h4) (fun i h6 h7=>?_)) ?_)
      · rcases h5 with h5 | ⟨h5,h8⟩
        · omega
        · exact monoF (hint+k) i (by omega) h7 h8
      · rintro c st' ⟨rfl,l,k,rfl,q⟩;exact wpS_pure q
  | false=>
    simp only[YaD,if_false];refine wpS_bind (wpS_mono (wpS_forRange (I:=fun x c st'=>st'=st/\∃ l k,c=((none:Option (Option Nat)),l,k)/\l<k/\x+1<=k/\l<=hint/\B (hint - l)=false)
      (Q:=fun c st'=>st'=st/\∃ l k,c=((none:Option (Option Nat)),l,k)/\l<k/\l<=hint/\B (hint - l)=false/\(hint+1<=k∨(k<=hint/\B (hint - k)=true))) ?step ?fin ⟨rfl,0,1,rfl,by omega,by omega,by omega,e0⟩) ?post)
    case fin=>
      rintro c st' ⟨rfl,l,k,rfl,h1,h2,h3,h4⟩;exact⟨rfl,l,k,rfl,h1,h3,h4,.inl (by omega)⟩
    case step=>
      rintro x c st' _ hx ⟨rfl,l,k,rfl,h1,h2,h3,h4⟩;dsimp only;by_cases hge:k ≥ hint+1
      · rw[if_pos hge];exact wpS_pure ⟨rfl,l,k,rfl,h1,h3,h4,.inl hge⟩
      · rw[if_neg hge];refine wpS_bind (bey (hint - k) (by omega) ?_)
        cases e:B (hint - k) with
        | true=>
          simp only[if_true];exact wpS_pure ⟨rfl,l,k,rfl,h1,h3,h4,.inr ⟨by omega,e⟩⟩
        | false=>
          simp only[YaD,if_false];exact wpS_pure ⟨rfl,_,_,rfl,by omega,by omega,by omega,e⟩
    case post=>
      rintro c st' ⟨rfl,l,k,rfl,h1,h3,h4,h5⟩;dsimp only;refine wpS_bind (wpS_mono (jp (hint+1 - min k (hint+1)) (hint - l) (by omega) (by omega) (fun i hi=>?_) (fun i h6 h7=>monoF _ i h6 h7 h4)) ?_)
      · rcases h5 with h5 | ⟨h5,h8⟩
        · omega
        · exact mono i (hint - k) (by omega) (by omega) h8
      · rintro c st' ⟨rfl,l,k,rfl,q⟩;exact wpS_pure q
end
section
variable {O:KO}{a b out:List Keyed}{ia ib:Nat}{x:Keyed}
theorem Zgm {l:List Keyed}{i:Nat}{x:Keyed} (e:l[i]?=some x):l.drop i=x::l.drop (i+1):=by
 obtain⟨h,rfl⟩:=Yad.mp e;exact YeG h
theorem Zhg (a:Array Keyed) (i:Nat):(a.extract i a.size).toList=a.toList.drop i:=by
 rw[YcT];simp only[Ye0];exact Ybn (by simp)
theorem Zgl (a:Array Keyed) (i k:Nat):(a.extract i (i+k)).toList=(a.toList.drop i).take k:=by
 rw[YcT];simp[Ye0]
structure MI (O:KO) (a b out:List Keyed) (ia ib:Nat):Prop where
 perm:(out++(a.drop ia++b.drop ib)).Perm (a++b)
 srt:O.Srt out
 le:∀ x∈out,∀ y∈a.drop ia++b.drop ib,O.le x y
theorem ZgI (h:O.Srt out) (hx:∀ y∈out,O.le y x):O.Srt (out++[x]) :=
 YaR.mpr ⟨h,YeN _ _,fun y hy z hz=>by rw[YaF.mp hz];exact hx y hy⟩
theorem MI.takeA (h:MI O a b out ia ib) (sa:O.Srt a) (e:a[ia]?=some x) (hb:∀ y∈b.drop ib,O.le x y):MI O a b (out++[x]) (ia+1) ib:=by
 have ed:=Zgm e;have sd:O.Srt (x::a.drop (ia+1)):=ed ▸ sa.drop;refine⟨?_,ZgI h.srt fun y hy=>h.le y hy x (by rw[ed];simp),fun y hy z hz=>?_⟩
 ·have p:=h.perm;rw[ed] at p;simpa using p
 ·rcases Yaj.mp hy with hy | hy
  ·refine h.le y hy z ?_;rw[ed];rcases Yaj.mp hz with hz | hz
   ·exact Ya0 _ (Yar _ hz)
   ·exact YaA _ hz
  ·rw[YaF.mp hy];rcases Yaj.mp hz with hz | hz
   ·exact (YaZ.mp sd).1 z hz
   ·exact hb z hz
theorem MI.takeB (h:MI O a b out ia ib) (sb:O.Srt b) (e:b[ib]?=some x) (ha:∀ y∈a.drop ia,O.le x y):MI O a b (out++[x]) ia (ib+1):=by
 have ed:=Zgm e;have sd:O.Srt (x::b.drop (ib+1)):=ed ▸ sb.drop;refine⟨?_,ZgI h.srt fun y hy=>h.le y hy x (by rw[ed];simp),fun y hy z hz=>?_⟩
 ·have p:=h.perm;rw[ed] at p;refine YdO ?_ p;rw[YaN];exact Ycc _ (show List.Perm (x::(a.drop ia++b.drop (ib+1))) _ from YfF.symm)
 ·rcases Yaj.mp hy with hy | hy
  ·refine h.le y hy z ?_;rw[ed];rcases Yaj.mp hz with hz | hz
   ·exact Ya0 _ hz
   ·exact YaA _ (Yar _ hz)
  ·rw[YaF.mp hy];rcases Yaj.mp hz with hz | hz
   ·exact ha z hz
   ·exact (YaZ.mp sd).1 z hz
theorem Ze5 {l:List Keyed}{i k:Nat}{x:Keyed} (e:l[i+k]?=some x):(l.drop i).take (k+1)=(l.drop i).take k++[x]:=by
 rw[List.take_succ,Yc6,e];rfl
theorem MI.takeAs (h:MI O a b out ia ib) (sa:O.Srt a):∀ k,ia+k<=a.length->(∀ i z,i<k->a[ia+i]?=some z->∀ y∈b.drop ib,O.le z y)->MI O a b (out++(a.drop ia).take k) (ia+k) ib
 | 0,_,_=>by simpa using h
 | k+1,hl,hz=>by
  have q:=MI.takeAs h sa k (by omega) fun i z hi e=>hz i z (by omega) e;have e:a[ia+k]?=some a[ia+k]:=Yaa (by omega);have r:=q.takeA sa e (hz k _ (by omega) e);rw[YaN,<- Ze5 e] at r;exact r
theorem MI.takeBs (h:MI O a b out ia ib) (sb:O.Srt b):∀ k,ib+k<=b.length->(∀ i z,i<k->b[ib+i]?=some z->∀ y∈a.drop ia,O.le z y)->MI O a b (out++(b.drop ib).take k) ia (ib+k)
 | 0,_,_=>by simpa using h
 | k+1,hl,hz=>by
  have q:=MI.takeBs h sb k (by omega) fun i z hi e=>hz i z (by omega) e;have e:b[ib+k]?=some b[ib+k]:=Yaa (by omega);have r:=q.takeB sb e (hz k _ (by omega) e);rw[YaN,<- Ze5 e] at r;exact r
def Mg (O:KO) (a b r:List Keyed):Prop:=r.Perm (a++b)/\O.Srt r
theorem MI.doneA (h:MI O a b out ia ib) (sa:O.Srt a) (e:b.length<=ib):Mg O a b (out++a.drop ia++b.drop ib):=by
 have eb:b.drop ib=[]:=List.drop_eq_nil_of_le e;refine⟨by rw[YaN];exact h.perm,?_⟩;rw[eb,YbI];exact YaR.mpr ⟨h.srt,sa.drop,fun x hx y hy=>h.le x hx y (Ya0 _ hy)⟩
theorem MI.doneB (h:MI O a b out ia ib) (sa:O.Srt a) (sb:O.Srt b) (hl:∀ x∈b.drop ib,∀ y∈a.drop ia,O.le x y):Mg O a b (out++b.drop ib++a.drop ia):=by
 refine⟨by rw[YaN];exact (Ycc _ YeZ).trans h.perm,?_⟩;rw[YaN];refine YaR.mpr ⟨h.srt,YaR.mpr ⟨sb.drop,sa.drop,hl⟩,fun x hx y hy=>h.le x hx y ?_⟩;rcases Yaj.mp hy with hy | hy
 ·exact YaA _ hy
 ·exact Ya0 _ hy
end
section
variable {prog:Program}{w:World}{A:Around}{E:Value->Shared->Prop}{s:Shared}{O:KO}{knd:SortKind}{ok:Keyed->Prop}{st:SortSt}
theorem ZaE {α:Type}{c:Prop} [Decidable c] {p q:StateT SortSt Sem α}{Q:α->SortSt->Prop} (h1:c->wpS (model prog w) A E s p Q st) (h2:¬ c->wpS (model prog w) A E s q Q st):wpS (model prog w) A E s (if c then p else q) Q st:=by
 by_cases h:c
 ·rw[if_pos h];exact h1 h
 ·rw[if_neg h];exact h2 h
def Gal (st st':SortSt):Prop:=kindOf st'=kindOf st/\arrOf st'=arrOf st/\pendingOf st'=pendingOf st/\failedOf st'=failedOf st
theorem Gal.refl:Gal st st:=⟨rfl,rfl,rfl,rfl⟩
theorem Zbe {g:Nat}{st1:SortSt}{Q:Unit->SortSt->Prop} (hG:Gal st st1) (h:∀ st',Gal st st'->Q () st'):wpS (model prog w) A E s (ZhC g) Q st1 :=
 wpS_modify (h _ ⟨hG.1,hG.2.1,hG.2.2.1,hG.2.2.2⟩)
theorem Zcl {l:List Keyed} (sl:O.Srt l) {i j:Nat}{x y:Keyed} (hij:i<=j) (hx:l[i]?=some x) (hy:l[j]?=some y):O.le x y:=by
 obtain⟨h1,rfl⟩:=Yad.mp hx;obtain⟨h2,rfl⟩:=Yad.mp hy;rcases Yfy hij with h | h
 ·exact Yc9.mp sl i j h1 h2 h
 ·subst h;exact KO.le_refl
theorem ZaZ {l:List Keyed}{i:Nat}{y:Keyed} (h:y∈l.drop i):∃ j,i<=j/\l[j]?=some y:=by
 obtain⟨j,hj,e⟩:=Yfb.mp h;exact⟨i+j,by omega,by rw[<- Yc6,Yaa hj,e]⟩
theorem ZcK {l:List Keyed} (sl:O.Srt l) {i:Nat}{x:Keyed} (hx:l[i]?=some x):∀ y∈l.drop i,O.le x y:=fun y hy=>
 let ⟨_,hj,e⟩:=ZaZ hy
 Zcl sl hj hx e
theorem ZaJ {a:Array Keyed}{i:Nat} (h:i<a.size):∃ x,a[i]?=some x/\a.toList[i]?=some x/\x∈a.toList :=
 ⟨a[i],YaP h,by rw[Yaf];exact YaP h,by simp⟩
theorem Zd8 {a:Array Keyed}{i:Nat}{x:Keyed} (h:a[i]?=some x):a.toList[i]?=some x:=by rw[Yaf];exact h
theorem Zb5 {key:Keyed}{a:Array Keyed}{i n hint:Nat}{Q:Option Nat->SortSt->Prop} (hA:Asks prog w A s O knd ok) (hk:kindOf st=knd) (hkey:ok key) (oka:∀ x∈a.toList,ok x) (hi:i+n<=a.size)
  (sa:∀ p q x y,i<=p->p<=q->q<i+n->a[p]?=some x->a[q]?=some y->O.le x y) (hh:hint<n)
  (h:∀ k,k<=n->(∀ j z,j<k->a[i+j]?=some z->O.le z key)->(∀ j z,k<=j->j<n->a[i+j]?=some z->O.blt (O.ky key) (O.ky z)=true)->Q (some k) st):wpS (model prog w) A E s (Zgk false key a i n hint) Q st:=by
 refine ZdD hA hk hkey (fun j=>!(O.blt (O.ky key) (O.ky (a.getD (i+j) key)))) ?_ ?_ hh ?_
 ·intro j hj;obtain⟨x,e1,_,e3⟩:=ZaJ (a:=a) (i:=i+j) (by omega);refine⟨x,e1,oka x e3,?_⟩;have e4:a.getD (i+j) key=x:=by rw[Ybb,e1];rfl
  simp[e4]
 ·intro p q hpq hq hb;obtain⟨x,e1,_,_⟩:=ZaJ (a:=a) (i:=i+p) (by omega);obtain⟨y,f1,_,_⟩:=ZaJ (a:=a) (i:=i+q) (by omega);have e4:a.getD (i+p) key=x:=by rw[Ybb,e1];rfl
  have f4:a.getD (i+q) key=y:=by rw[Ybb,f1];rfl
  rw[f4] at hb;rw[e4];have z:O.le x key:=KO.le_trans (sa _ _ x y (by omega) (by omega) (by omega) e1 f1) (show O.blt _ _=false by simpa using hb);have z:O.blt (O.ky key) (O.ky x)=false:=z;simpa using z
 ·intro k hk1 h1 h2;refine h k hk1 (fun j z hj e=>?_) (fun j z hj hj2 e=>?_)
  ·have e4:a.getD (i+j) key=z:=by rw[Ybb,e];rfl
   have:=h1 j hj;rw[e4] at this;exact (show O.blt _ _=false by simpa using this)
  ·have e4:a.getD (i+j) key=z:=by rw[Ybb,e];rfl
   have:=h2 j hj hj2;rw[e4] at this;simpa using this
theorem Zbj {key:Keyed}{a:Array Keyed}{i n hint:Nat}{Q:Option Nat->SortSt->Prop} (hA:Asks prog w A s O knd ok) (hk:kindOf st=knd) (hkey:ok key) (oka:∀ x∈a.toList,ok x) (hi:i+n<=a.size)
  (sa:∀ p q x y,i<=p->p<=q->q<i+n->a[p]?=some x->a[q]?=some y->O.le x y) (hh:hint<n)
  (h:∀ k,k<=n->(∀ j z,j<k->a[i+j]?=some z->O.blt (O.ky z) (O.ky key)=true)->(∀ j z,k<=j->j<n->a[i+j]?=some z->O.le key z)->Q (some k) st):wpS (model prog w) A E s (Zgk true key a i n hint) Q st:=by
 refine ZdD hA hk hkey (fun j=>O.blt (O.ky (a.getD (i+j) key)) (O.ky key)) ?_ ?_ hh ?_
 ·intro j hj;obtain⟨x,e1,_,e3⟩:=ZaJ (a:=a) (i:=i+j) (by omega);refine⟨x,e1,oka x e3,?_⟩;have e4:a.getD (i+j) key=x:=by rw[Ybb,e1];rfl
  simp[e4]
 ·intro p q hpq hq hb;obtain⟨x,e1,_,_⟩:=ZaJ (a:=a) (i:=i+p) (by omega);obtain⟨y,f1,_,_⟩:=ZaJ (a:=a) (i:=i+q) (by omega);have e4:a.getD (i+p) key=x:=by rw[Ybb,e1];rfl
  have f4:a.getD (i+q) key=y:=by rw[Ybb,f1];rfl
  rw[f4] at hb;rw[e4];exact KeyOrd.klt_of_kle_of_klt (O:=O.toKeyOrd) (sa _ _ x y (by omega) (by omega) (by omega) e1 f1) hb
 ·intro k hk1 h1 h2;refine h k hk1 (fun j z hj e=>?_) (fun j z hj hj2 e=>?_)
  ·have e4:a.getD (i+j) key=z:=by rw[Ybb,e];rfl
   have:=h1 j hj;rw[e4] at this;exact this
  ·have e4:a.getD (i+j) key=z:=by rw[Ybb,e];rfl
   have:=h2 j hj hj2;rw[e4] at this;exact this
theorem srtA {a:Array Keyed} (sa:O.Srt a.toList) (i n:Nat):∀ p q x y,i<=p->p<=q->q<i+n->a[p]?=some x->a[q]?=some y->O.le x y:=fun p q x y _ h _ e1 e2=>Zcl sa h (Zd8 e1) (Zd8 e2)
theorem ZfO {a b:Array Keyed}{Q:Array Keyed->SortSt->Prop} (hA:Asks prog w A s O knd ok) (hk:kindOf st=knd) (oka:∀ x∈a.toList,ok x) (okb:∀ x∈b.toList,ok x) (sa:O.Srt a.toList) (sb:O.Srt b.toList) (ha:1<=a.size) (hb:1<=b.size)
  (hfirst:∀ y,b[0]?=some y->∀ x∈a.toList,O.le y x) (hlast:∀ z,a[a.size - 1]?=some z->∀ y∈b.toList,O.blt (O.ky y) (O.ky z)=true)
  (h:∀ r st',Gal st st'->Mg O a.toList b.toList r.toList->Q r st'):wpS (model prog w) A E s (Zlv a b) Q st:=by
 obtain⟨b0,eb0,eb0',_⟩:=ZaJ (a:=b) (i:=0) (by omega);have done:∀ {out:Array Keyed}{ia ib:Nat},MI O a.toList b.toList out.toList ia ib->b.size<=ib->Mg O a.toList b.toList (out++a.extract ia a.size++b.extract ib b.size).toList:=by
  intro out ia ib m hl;rw[Ybi,Ybi,Zhg,Zhg];exact m.doneA sa hl
 have last:∀ {out:Array Keyed}{ia ib:Nat},MI O a.toList b.toList out.toList ia ib->ia+1=a.size->Mg O a.toList b.toList (out++b.extract ib b.size++a.extract ia a.size).toList:=by
  intro out ia ib m hl;rw[Ybi,Ybi,Zhg,Zhg];refine m.doneB sa sb fun x hx y hy=>?_;obtain⟨j,hj,e⟩:=ZaZ hy;have hj2:j<a.size:=(Yad.mp e).1
  have e2:j=a.size - 1:=by omega
  rw[e2] at e;rw[Yaf] at e;exact KO.le_of_lt (hlast y e x (Ybz hx))
 have pB:∀ {out:Array Keyed}{ia ib:Nat}{y:Keyed},MI O a.toList b.toList out.toList ia ib->b[ib]?=some y->(∀ z∈a.toList.drop ia,O.le y z)->MI O a.toList b.toList (out.push y).toList ia (ib+1):=by
  intro out ia ib y m e hz;rw[YcJ];exact m.takeB sb (Zd8 e) hz
 have pA:∀ {out:Array Keyed}{ia ib:Nat}{y:Keyed},MI O a.toList b.toList out.toList ia ib->a[ia]?=some y->(∀ z∈b.toList.drop ib,O.le y z)->MI O a.toList b.toList (out.push y).toList (ia+1) ib:=by
  intro out ia ib y m e hz;rw[YcJ];exact m.takeA sa (Zd8 e) hz
 refine wpS_bind (wpS_lift (wpAny_rule ⟨rfl,?_⟩));refine wpS_bind (Zat eb0 ?_);have m0:MI O a.toList b.toList #[b0].toList 0 1 :=
  MI.takeB (out:=[]) (ib:=0) ⟨by simp,YbM,fun x hx=>by cases hx⟩ sb eb0' (by simpa using hfirst b0 eb0)
 dsimp only;by_cases c1:1=b.size
 ·rw[if_pos (by simpa using c1)];exact wpS_pure (h _ _ Gal.refl (done m0 (by omega)))
 rw[if_neg (by simpa using c1)];by_cases c2:0+1=a.size
 ·rw[if_pos (by simpa using c2)];exact wpS_pure (h _ _ Gal.refl (last m0 (by omega)))
 rw[if_neg (by simpa using c2)];refine wpS_bind (wpS_get ?_);refine wpS_bind (wpS_mono (wpS_forRange
  (I:=fun x c st'=>Gal st st'/\∃ (out:Array Keyed) (ia ib g:Nat),c=((none:Option (Array Keyed)),out,ia,ib,g)/\MI O a.toList b.toList out.toList ia ib/\ia+1<a.size/\ib<b.size/\x<=ia+ib)
  (Q:=fun c st'=>Gal st st'/\∃ (r out:Array Keyed) (ia ib g:Nat),c=(some r,out,ia,ib,g)/\Mg O a.toList b.toList r.toList) ?step ?fin ⟨Gal.refl,#[b0],0,1,gallopOf st,rfl,m0,by omega,by omega,by omega⟩) ?post)
 case fin=>
  rintro c st' ⟨_,out,ia,ib,g,rfl,_,h1,h2,h3⟩;omega
 case post=>
  rintro c st' ⟨hG,r,out,ia,ib,g,rfl,hm⟩;exact wpS_pure (h r st' hG hm)
 case step=>
  rintro x c st1 _ hx ⟨hG1,out,ia,ib,g,rfl,hm,h1,h2,h3⟩;dsimp only;have hk1:kindOf st1=knd:=hG1.1.trans hk;refine wpS_bind (wpS_mono (wpS_forRange
   (I:=fun y c st'=>st'=st1/\∃ (out:Array Keyed) (ia ib p q:Nat),c=((none:Option (Array Keyed)),out,ia,ib,p,q)/\MI O a.toList b.toList out.toList ia ib/\ia+1<a.size/\ib<b.size/\x+y<=ia+ib)
   (Q:=fun c st'=>st'=st1/\((∃ (r out:Array Keyed) (ia ib p q:Nat),c=(some r,out,ia,ib,p,q)/\Mg O a.toList b.toList r.toList) ∨
    (∃ (out:Array Keyed) (ia ib p q:Nat),c=(none,out,ia,ib,p,q)/\MI O a.toList b.toList out.toList ia ib/\ia+1<a.size/\ib<b.size/\x+1<=ia+ib))) ?step1 ?fin1 ⟨rfl,out,ia,ib,0,0,rfl,hm,h1,h2,by omega⟩) ?post1)
  case fin1=>
   rintro c st' ⟨rfl,out,ia,ib,p,q,rfl,hm,h1,h2,h3⟩;exact⟨rfl,.inr ⟨out,ia,ib,p,q,rfl,hm,h1,h2,by omega⟩⟩
  case step1=>
   rintro y c st' _ hy ⟨rfl,out,ia,ib,p,q,rfl,hm,h1,h2,h3⟩;dsimp only;obtain⟨u,eu,eu',mu⟩:=ZaJ (a:=b) h2;obtain⟨v,ev,ev',mv⟩:=ZaJ (a:=a) (i:=ia) (by omega);refine wpS_bind (Zat eu (wpS_bind (Zat ev ?_)));refine wpS_bind (ZeT hA hk1 (okb u mu) (oka v mv) ?_)
   cases e:O.blt (O.ky u) (O.ky v) with
   | true=>
    simp only[if_true];refine wpS_bind (Zat eu ?_);have m2:=pB hm eu fun z hz=>KO.le_trans (KO.le_of_lt e) (ZcK sa ev' z hz);by_cases c3:ib+1=b.size
    ·rw[if_pos (by simpa using c3)];exact wpS_pure ⟨rfl,.inl ⟨_,_,_,_,_,_,rfl,done m2 (by omega)⟩⟩
    rw[if_neg (by simpa using c3)];refine ZaE (fun _=>?_) (fun _=>?_)
    ·exact wpS_pure ⟨rfl,.inr ⟨_,_,_,_,_,rfl,m2,by omega,by omega,by omega⟩⟩
    ·exact wpS_pure ⟨rfl,_,_,_,_,_,rfl,m2,by omega,by omega,by omega⟩
   | false=>
    simp only[YaD,if_false];refine wpS_bind (Zat ev ?_);have m2:=pA hm ev fun z hz=>KO.le_trans (show O.le v u from e) (ZcK sb eu' z hz);by_cases c3:ia+1+1=a.size
    ·rw[if_pos (by simpa using c3)];exact wpS_pure ⟨rfl,.inl ⟨_,_,_,_,_,_,rfl,last m2 c3⟩⟩
    rw[if_neg (by simpa using c3)];refine ZaE (fun _=>?_) (fun _=>?_)
    ·exact wpS_pure ⟨rfl,.inr ⟨_,_,_,_,_,rfl,m2,by omega,by omega,by omega⟩⟩
    ·exact wpS_pure ⟨rfl,_,_,_,_,_,rfl,m2,by omega,by omega,by omega⟩
  case post1=>
   rintro c st' ⟨rfl,⟨r,out,ia,ib,p,q,rfl,hr⟩ | ⟨out,ia,ib,p,q,rfl,hm,h1,h2,h3⟩⟩
   ·exact wpS_pure ⟨hG1,_,_,_,_,_,rfl,hr⟩
   dsimp only;refine wpS_bind (wpS_lift (wpAny_rule ⟨rfl,?_⟩));refine wpS_bind (wpS_mono (wpS_forRange
    (I:=fun y c st'=>Gal st st'/\∃ (out:Array Keyed) (ia ib g p q:Nat),c=((none:Option (Array Keyed)),out,ia,ib,g,p,q)/\MI O a.toList b.toList out.toList ia ib/\ia+1<a.size/\ib<b.size/\x+1<=ia+ib)
    (Q:=fun c st'=>Gal st st'/\((∃ (r out:Array Keyed) (ia ib g p q:Nat),c=(some r,out,ia,ib,g,p,q)/\Mg O a.toList b.toList r.toList) ∨
     (∃ (out:Array Keyed) (ia ib g p q:Nat),c=(none,out,ia,ib,g,p,q)/\MI O a.toList b.toList out.toList ia ib/\ia+1<a.size/\ib<b.size/\x+1<=ia+ib))) ?step2 ?fin2 ⟨hG1,out,ia,ib,g+1,p,q,rfl,hm,h1,h2,h3⟩) ?post2)
   case fin2=>
    rintro c st' ⟨hG,out,ia,ib,g,p,q,rfl,hm,h1,h2,h3⟩;exact⟨hG,.inr ⟨out,ia,ib,g,p,q,rfl,hm,h1,h2,h3⟩⟩
   case post2=>
    rintro c st' ⟨hG,⟨r,out,ia,ib,g,p,q,rfl,hr⟩ | ⟨out,ia,ib,g,p,q,rfl,hm,h1,h2,h3⟩⟩
    ·exact wpS_pure ⟨hG,_,_,_,_,_,rfl,hr⟩
    exact wpS_bind (Zbe hG fun st2 hG2=>wpS_pure ⟨hG2,_,_,_,_,rfl,hm,h1,h2,h3⟩)
   case step2=>
    rintro y c st' _ hy ⟨hG,out,ia,ib,g,p,q,rfl,hm,h1,h2,h3⟩;dsimp only;obtain⟨u,eu,eu',mu⟩:=ZaJ (a:=b) h2;refine ZaE (fun cg=>?_) (fun cg=>?_)
    all_goals
     refine wpS_bind (Zbe hG fun st2 hG2=>wpS_bind (Zat eu ?_));refine wpS_bind (Zb5 hA (hG2.1.trans hk) (okb u mu) oka (by omega) (srtA sa _ _) (by omega) fun k hk1 b1 b2=>?_);have m3:=hm.takeAs sa k (by simp;omega) fun i z hi e y hy=>KO.le_trans (b1 i z hi (by rw[<- Yaf];exact e)) (ZcK sb eu' y hy);have hu:∀ z∈a.toList.drop (ia+k),O.le u z:=by
      intro z hz;obtain⟨j,hj,e⟩:=ZaZ hz;have hj2:j<a.size:=(Yad.mp e).1
      refine KO.le_of_lt (b2 (j - ia) z (by omega) (by omega) ?_);rw[show ia+(j - ia)=j by omega,<- Yaf];exact e
     have hka:ia+k<a.size:=by
      rcases Yfy hk1 with z | z
      ·omega
      ·obtain⟨zl,el,_,_⟩:=ZaJ (a:=a) (i:=a.size - 1) (by omega);have q1:=hlast zl el u mu;have q2:=b1 (a.size - 1 - ia) zl (by omega) (by rw[show ia+(a.size - 1 - ia)=a.size - 1 by omega];exact el);rw[show O.blt (O.ky u) (O.ky zl)=false from q2] at q1;cases q1
     dsimp only;by_cases ck:k > 0
     ·rw[if_pos ck];rw[<- Zgl,<- Ybi] at m3;by_cases c3:ia+k+1=a.size
      ·rw[if_pos (by simpa using c3)];exact wpS_pure ⟨hG2,.inl ⟨_,_,_,_,_,_,_,rfl,last m3 c3⟩⟩
      rw[if_neg (by simpa using c3),if_neg (by simp;omega)];refine wpS_bind (Zat eu ?_);have m4:=pB m3 eu hu;by_cases c4:ib+1=b.size
      ·rw[if_pos (by simpa using c4)];exact wpS_pure ⟨hG2,.inl ⟨_,_,_,_,_,_,_,rfl,done m4 (by omega)⟩⟩
      rw[if_neg (by simpa using c4)];obtain⟨v,ev,ev',mv⟩:=ZaJ (a:=a) (i:=ia+k) (by omega);refine wpS_bind (Zat ev ?_);refine wpS_bind (Zbj hA (hG2.1.trans hk) (oka v mv) okb (by omega) (srtA sb _ _) (by omega) fun k2 hk2 d1 d2=>?_);have m5:=m4.takeBs sb k2 (by simp;omega) fun i z hi e y hy=>KO.le_trans (KO.le_of_lt (d1 i z hi (by rw[<- Yaf];exact e))) (ZcK sa ev' y hy);have hv:∀ z∈b.toList.drop (ib+1+k2),O.le v z:=by
       intro z hz;obtain⟨j,hj,e⟩:=ZaZ hz;have hj2:j<b.size:=(Yad.mp e).1
       refine d2 (j - (ib+1)) z (by omega) (by omega) ?_;rw[show ib+1+(j - (ib+1))=j by omega,<- Yaf];exact e
      dsimp only;by_cases ck2:k2 > 0
      ·rw[if_pos ck2];rw[<- Zgl,<- Ybi] at m5;by_cases c6:ib+1+k2=b.size
       ·rw[if_pos (by simpa using c6)];exact wpS_pure ⟨hG2,.inl ⟨_,_,_,_,_,_,_,rfl,done m5 (by omega)⟩⟩
       rw[if_neg (by simpa using c6)];refine wpS_bind (Zat ev ?_);have m7:=pA m5 ev hv;by_cases c7:ia+k+1+1=a.size
       ·rw[if_pos (by simpa using c7)];exact wpS_pure ⟨hG2,.inl ⟨_,_,_,_,_,_,_,rfl,last m7 c7⟩⟩
       rw[if_neg (by simpa using c7)];refine ZaE (fun _=>?_) (fun _=>?_)
       ·exact wpS_pure ⟨hG2,.inr ⟨_,_,_,_,_,_,rfl,m7,by omega,by omega,by omega⟩⟩
       ·exact wpS_pure ⟨hG2,_,_,_,_,_,_,rfl,m7,by omega,by omega,by omega⟩
      ·rw[if_neg ck2];have k0:k2=0:=by omega
       subst k0;rw[YbQ,YbI] at m5;refine wpS_bind (Zat ev ?_);have m7:=pA m5 ev hv;by_cases c7:ia+k+1+1=a.size
       ·rw[if_pos (by simpa using c7)];exact wpS_pure ⟨hG2,.inl ⟨_,_,_,_,_,_,_,rfl,last m7 c7⟩⟩
       rw[if_neg (by simpa using c7)];refine ZaE (fun _=>?_) (fun _=>?_)
       ·exact wpS_pure ⟨hG2,.inr ⟨_,_,_,_,_,_,rfl,m7,by omega,by omega,by omega⟩⟩
       ·exact wpS_pure ⟨hG2,_,_,_,_,_,_,rfl,m7,by omega,by omega,by omega⟩
     ·rw[if_neg ck];have k0:k=0:=by omega
      subst k0;rw[YbQ,YbI] at m3;refine wpS_bind (Zat eu ?_);have m4:=pB m3 eu hu;by_cases c4:ib+1=b.size
      ·rw[if_pos (by simpa using c4)];exact wpS_pure ⟨hG2,.inl ⟨_,_,_,_,_,_,_,rfl,done m4 (by omega)⟩⟩
      rw[if_neg (by simpa using c4)];obtain⟨v,ev,ev',mv⟩:=ZaJ (a:=a) (i:=ia+0) (by omega);refine wpS_bind (Zat ev ?_);refine wpS_bind (Zbj hA (hG2.1.trans hk) (oka v mv) okb (by omega) (srtA sb _ _) (by omega) fun k2 hk2 d1 d2=>?_);have m5:=m4.takeBs sb k2 (by simp;omega) fun i z hi e y hy=>KO.le_trans (KO.le_of_lt (d1 i z hi (by rw[<- Yaf];exact e))) (ZcK sa ev' y hy);have hv:∀ z∈b.toList.drop (ib+1+k2),O.le v z:=by
       intro z hz;obtain⟨j,hj,e⟩:=ZaZ hz;have hj2:j<b.size:=(Yad.mp e).1
       refine d2 (j - (ib+1)) z (by omega) (by omega) ?_;rw[show ib+1+(j - (ib+1))=j by omega,<- Yaf];exact e
      dsimp only;by_cases ck2:k2 > 0
      ·rw[if_pos ck2];rw[<- Zgl,<- Ybi] at m5;by_cases c6:ib+1+k2=b.size
       ·rw[if_pos (by simpa using c6)];exact wpS_pure ⟨hG2,.inl ⟨_,_,_,_,_,_,_,rfl,done m5 (by omega)⟩⟩
       rw[if_neg (by simpa using c6)];refine wpS_bind (Zat ev ?_);have m7:=pA m5 ev hv;by_cases c7:ia+0+1+1=a.size
       ·rw[if_pos (by simpa using c7)];exact wpS_pure ⟨hG2,.inl ⟨_,_,_,_,_,_,_,rfl,last m7 c7⟩⟩
       rw[if_neg (by simpa using c7)];refine ZaE (fun _=>?_) (fun _=>?_)
       ·exact wpS_pure ⟨hG2,.inr ⟨_,_,_,_,_,_,rfl,m7,by omega,by omega,by omega⟩⟩
       ·exact wpS_pure ⟨hG2,_,_,_,_,_,_,rfl,m7,by omega,by omega,by omega⟩
      ·rw[if_neg ck2];have k0:k2=0:=by omega
       subst k0;rw[YbQ,YbI] at m5;refine wpS_bind (Zat ev ?_);have m7:=pA m5 ev hv;by_cases c7:ia+0+1+1=a.size
       ·rw[if_pos (by simpa using c7)];exact wpS_pure ⟨hG2,.inl ⟨_,_,_,_,_,_,_,rfl,last m7 c7⟩⟩
       rw[if_neg (by simpa using c7)];refine ZaE (fun _=>?_) (fun _=>?_)
       ·exact wpS_pure ⟨hG2,.inr ⟨_,_,_,_,_,_,rfl,m7,by omega,by omega,by omega⟩⟩
       ·exact wpS_pure ⟨hG2,_,_,_,_,_,_,rfl,m7,by omega,by omega,by omega⟩
end
section
variable {O:KO}{a b out:List Keyed}{na nb:Nat}{x:Keyed}
structure MH (O:KO) (a b out:List Keyed) (na nb:Nat):Prop where
 perm:(a.take na++b.take nb++out.reverse).Perm (a++b)
 srt:O.Srt out.reverse
 le:∀ x∈a.take na++b.take nb,∀ y∈out,O.le x y
theorem Ziu {l:List Keyed}{i:Nat}{x:Keyed} (e:l[i]?=some x):l.take (i+1)=l.take i++[x]:=by
 rw[List.take_succ,e];rfl
theorem MH.takeA (h:MH O a b out (na+1) nb) (sa:O.Srt a) (e:a[na]?=some x) (hb:∀ y∈b.take nb,O.le y x):MH O a b (out++[x]) na nb:=by
 have ed:=Ziu e;have sd:O.Srt (a.take na++[x]):=ed ▸ sa.take;have hx:x∈a.take (na+1)++b.take nb:=by rw[ed];simp
 refine⟨?_,?_,fun y hy z hz=>?_⟩
 ·have p:=h.perm;rw[ed] at p;refine YdO ?_ p;rw[YcX];simp only[Yb6,Ydo,Yec,YaN,List.singleton_append];refine Ycc _ ?_;exact (YfF (a:=x) (l₁:=b.take nb) (l₂:=out.reverse))
 ·rw[YcX];exact YaZ.mpr ⟨fun y hy=>h.le x hx y (YcP.mp hy),h.srt⟩
 ·rcases Yaj.mp hz with hz | hz
  ·refine h.le y ?_ z hz;rw[ed];rcases Yaj.mp hy with hy | hy
   ·exact Ya0 _ (Ya0 _ hy)
   ·exact YaA _ hy
  ·rw[YaF.mp hz];rcases Yaj.mp hy with hy | hy
   ·exact (YaR.mp sd).2.2 y hy x (by simp)
   ·exact hb y hy
theorem MH.takeB (h:MH O a b out na (nb+1)) (sb:O.Srt b) (e:b[nb]?=some x) (ha:∀ y∈a.take na,O.le y x):MH O a b (out++[x]) na nb:=by
 have ed:=Ziu e;have sd:O.Srt (b.take nb++[x]):=ed ▸ sb.take;have hx:x∈a.take na++b.take (nb+1):=by rw[ed];simp
 refine⟨?_,?_,fun y hy z hz=>?_⟩
 ·have p:=h.perm;rw[ed] at p;rw[YcX];simpa using p
 ·rw[YcX];exact YaZ.mpr ⟨fun y hy=>h.le x hx y (YcP.mp hy),h.srt⟩
 ·rcases Yaj.mp hz with hz | hz
  ·refine h.le y ?_ z hz;rw[ed];rcases Yaj.mp hy with hy | hy
   ·exact Ya0 _ hy
   ·exact YaA _ (Ya0 _ hy)
  ·rw[YaF.mp hz];rcases Yaj.mp hy with hy | hy
   ·exact ha y hy
   ·exact (YaR.mp sd).2.2 y hy x (by simp)
theorem ZgM {l:List Keyed}{i d:Nat}{x:Keyed} (e:l[i]?=some x):(l.drop i).take (d+1)=x::(l.drop (i+1)).take d:=by
 rw[Zgm e];rfl
theorem MH.takeAs (h:MH O a b out na nb) (sa:O.Srt a) (hn:na<=a.length):∀ d,d<=na->(∀ i z,na - d<=i->i<na->a[i]?=some z->∀ y∈b.take nb,O.le y z)->MH O a b (out++((a.drop (na - d)).take d).reverse) (na - d) nb
 | 0,_,_=>by simpa using h
 | d+1,hl,hz=>by
  have q:=MH.takeAs h sa hn d (by omega) fun i z h1 h2 e=>hz i z (by omega) h2 e;have e:a[na - (d+1)]?=some a[na - (d+1)]:=Yaa (by omega);rw[show na - d=na - (d+1)+1 by omega] at q;have r:=q.takeA sa e (hz _ _ (by omega) (by omega) e);rw[YaN,<- Yb6,<- ZgM e] at r;exact r
theorem MH.takeBs (h:MH O a b out na nb) (sb:O.Srt b) (hn:nb<=b.length):∀ d,d<=nb->(∀ i z,nb - d<=i->i<nb->b[i]?=some z->∀ y∈a.take na,O.le y z)->MH O a b (out++((b.drop (nb - d)).take d).reverse) na (nb - d)
 | 0,_,_=>by simpa using h
 | d+1,hl,hz=>by
  have q:=MH.takeBs h sb hn d (by omega) fun i z h1 h2 e=>hz i z (by omega) h2 e;have e:b[nb - (d+1)]?=some b[nb - (d+1)]:=Yaa (by omega);rw[show nb - d=nb - (d+1)+1 by omega] at q;have r:=q.takeB sb e (hz _ _ (by omega) (by omega) e);rw[YaN,<- Yb6,<- ZgM e] at r;exact r
theorem MH.doneA (h:MH O a b out 0 nb) (sb:O.Srt b):Mg O a b (a.take 0++b.take nb++out.reverse):=by
 refine⟨h.perm,?_⟩;rw[YbQ,Yec];exact YaR.mpr ⟨sb.take,h.srt,fun x hx y hy=>h.le x (YaA _ hx) y (YcP.mp hy)⟩
theorem MH.doneB (h:MH O a b out na nb) (sa:O.Srt a) (sb:O.Srt b) (hl:∀ x∈b.take nb,∀ y∈a.take na,O.le x y):Mg O a b (b.take nb++a.take na++out.reverse):=by
 refine⟨(Ydc _ YeZ).trans h.perm,?_⟩;refine YaR.mpr ⟨YaR.mpr ⟨sb.take,sa.take,hl⟩,h.srt,fun x hx y hy=>h.le x ?_ y (YcP.mp hy)⟩;rcases Yaj.mp hx with hx | hx
 ·exact YaA _ hx
 ·exact Ya0 _ hx
theorem ZaY {l:List Keyed}{i:Nat}{y:Keyed} (h:y∈l.take i):∃ j,j<i/\l[j]?=some y:=by
 obtain⟨j,hj,e⟩:=Yfb.mp h;rw[Yaz] at hj;refine⟨j,by omega,?_⟩;rw[YcL] at e;rw[Yaa (by omega),e]
theorem ZjD {l:List Keyed} (sl:O.Srt l) {i:Nat}{x:Keyed} (hx:l[i]?=some x):∀ y∈l.take (i+1),O.le y x:=fun y hy=>
 let ⟨_,hj,e⟩:=ZaY hy
 Zcl sl (by omega) e hx
theorem ZeI (a:Array Keyed) (i:Nat):(a.extract 0 i).toList=a.toList.take i:=by
 rw[YcT];simp[Ye0]
theorem ZeH (a:Array Keyed) (i n:Nat):(a.extract i n).toList=(a.toList.drop i).take (n - i):=by
 rw[YcT]
end
section
variable {prog:Program}{w:World}{A:Around}{E:Value->Shared->Prop}{s:Shared}{O:KO}{knd:SortKind}{ok:Keyed->Prop}{st:SortSt}
theorem ZfP {a b:Array Keyed}{Q:Array Keyed->SortSt->Prop} (hA:Asks prog w A s O knd ok) (hk:kindOf st=knd) (oka:∀ x∈a.toList,ok x) (okb:∀ x∈b.toList,ok x) (sa:O.Srt a.toList) (sb:O.Srt b.toList) (ha:1<=a.size) (hb:1<=b.size)
  (hfirst:∀ y,b[0]?=some y->∀ x∈a.toList,O.blt (O.ky y) (O.ky x)=true) (hlast:∀ z,a[a.size - 1]?=some z->∀ y∈b.toList,O.le y z)
  (h:∀ r st',Gal st st'->Mg O a.toList b.toList r.toList->Q r st'):wpS (model prog w) A E s (Zlw a b) Q st:=by
 obtain⟨a0,ea0,ea0',_⟩:=ZaJ (a:=a) (i:=a.size - 1) (by omega);have done:∀ {out:Array Keyed}{nb:Nat},MH O a.toList b.toList out.toList 0 nb->Mg O a.toList b.toList (a.extract 0 0++b.extract 0 nb++out.reverse).toList:=by
  intro out nb m;rw[Ybi,Ybi,ZeI,ZeI,Ycq];exact m.doneA sb
 have first:∀ {out:Array Keyed}{na:Nat},MH O a.toList b.toList out.toList na 1->Mg O a.toList b.toList (b.extract 0 1++a.extract 0 na++out.reverse).toList:=by
  intro out na m;rw[Ybi,Ybi,ZeI,ZeI,Ycq];refine m.doneB sa sb fun x hx y hy=>?_;obtain⟨j,hj,e⟩:=ZaY hx;have e2:j=0:=by omega
  rw[e2,Yaf] at e;exact KO.le_of_lt (hfirst x e y (Ybt hy))
 have pB:∀ {out:Array Keyed}{na nb:Nat}{y:Keyed},1<=nb->MH O a.toList b.toList out.toList na nb->b[nb - 1]?=some y->(∀ z∈a.toList.take na,O.le z y)->MH O a.toList b.toList (out.push y).toList na (nb - 1):=by
  intro out na nb y hn m e hz;rw[YcJ];exact MH.takeB (by rw[show nb - 1+1=nb by omega];exact m) sb (Zd8 e) hz
 have pA:∀ {out:Array Keyed}{na nb:Nat}{y:Keyed},1<=na->MH O a.toList b.toList out.toList na nb->a[na - 1]?=some y->(∀ z∈b.toList.take nb,O.le z y)->MH O a.toList b.toList (out.push y).toList (na - 1) nb:=by
  intro out na nb y hn m e hz;rw[YcJ];exact MH.takeA (by rw[show na - 1+1=na by omega];exact m) sa (Zd8 e) hz
 have leT:∀ {l:List Keyed}{i:Nat}{x:Keyed},O.Srt l->1<=i->l[i - 1]?=some x->∀ y∈l.take i,O.le y x:=by
  intro l i x sl hi e y hy;exact ZjD sl e y (by rw[show i - 1+1=i by omega];exact hy)
 refine wpS_bind (wpS_lift (wpAny_rule ⟨rfl,?_⟩));refine wpS_bind (Zat ea0 ?_);have m0:MH O a.toList b.toList #[a0].toList (a.size - 1) b.size:=by
  refine MH.takeA (out:=[]) (na:=a.size - 1) (nb:=b.size) ⟨?_,YbM,fun x hx y hy=>by cases hy⟩ sa ea0' fun y hy=>hlast a0 ea0 y (Ybt hy);rw[show a.size - 1+1=a.size by omega,Ybn (by simp),Ybn (by simp)];simp
 dsimp only;by_cases c1:a.size - 1=0
 ·rw[if_pos (by simpa using c1)];rw[c1] at m0 ⊢;exact wpS_pure (h _ _ Gal.refl (done m0))
 rw[if_neg (by simpa using c1)];by_cases c2:b.size=1
 ·rw[if_pos (by simpa using c2)];rw[c2] at m0;rw[c2];exact wpS_pure (h _ _ Gal.refl (first m0))
 rw[if_neg (by simpa using c2)];refine wpS_bind (wpS_get ?_);refine wpS_bind (wpS_mono (wpS_forRange
  (I:=fun x c st'=>Gal st st'/\∃ (out:Array Keyed) (na nb g:Nat),c=((none:Option (Array Keyed)),na,nb,out,g)/\MH O a.toList b.toList out.toList na nb/\1<=na/\na<=a.size/\2<=nb/\nb<=b.size/\x+na+nb<=a.size+b.size)
  (Q:=fun c st'=>Gal st st'/\∃ (r out:Array Keyed) (na nb g:Nat),c=(some r,na,nb,out,g)/\Mg O a.toList b.toList r.toList) ?step ?fin ⟨Gal.refl,#[a0],a.size - 1,b.size,gallopOf st,rfl,m0,by omega,by omega,by omega,by omega,show 0+(a.size - 1)+b.size<=_ by omega⟩) ?post)
 case fin=>
  rintro c st' ⟨_,out,na,nb,g,rfl,_,h1,h1',h2,h2',h3⟩;omega
 case post=>
  rintro c st' ⟨hG,r,out,na,nb,g,rfl,hm⟩;exact wpS_pure (h r st' hG hm)
 case step=>
  rintro x c st1 _ hx ⟨hG1,out,na,nb,g,rfl,hm,h1,h1',h2,h2',h3⟩;dsimp only;have hk1:kindOf st1=knd:=hG1.1.trans hk;refine wpS_bind (wpS_mono (wpS_forRange
   (I:=fun y c st'=>st'=st1/\∃ (out:Array Keyed) (na nb p q:Nat),c=((none:Option (Array Keyed)),na,nb,out,p,q)/\MH O a.toList b.toList out.toList na nb/\1<=na/\na<=a.size/\2<=nb/\nb<=b.size/\x+y+na+nb<=a.size+b.size)
   (Q:=fun c st'=>st'=st1/\((∃ (r out:Array Keyed) (na nb p q:Nat),c=(some r,na,nb,out,p,q)/\Mg O a.toList b.toList r.toList) ∨
    (∃ (out:Array Keyed) (na nb p q:Nat),c=(none,na,nb,out,p,q)/\MH O a.toList b.toList out.toList na nb/\1<=na/\na<=a.size/\2<=nb/\nb<=b.size/\x+1+na+nb<=a.size+b.size))) ?step1 ?fin1 ⟨rfl,out,na,nb,0,0,rfl,hm,h1,h1',h2,h2',by omega⟩) ?post1)
  case fin1=>
   rintro c st' ⟨rfl,out,na,nb,p,q,rfl,hm,h1,h1',h2,h2',h3⟩;exact⟨rfl,.inr ⟨out,na,nb,p,q,rfl,hm,h1,h1',h2,h2',by omega⟩⟩
  case step1=>
   rintro y c st' _ hy ⟨rfl,out,na,nb,p,q,rfl,hm,h1,h1',h2,h2',h3⟩;dsimp only;obtain⟨u,eu,eu',mu⟩:=ZaJ (a:=b) (i:=nb - 1) (by omega);obtain⟨v,ev,ev',mv⟩:=ZaJ (a:=a) (i:=na - 1) (by omega);refine wpS_bind (Zat eu (wpS_bind (Zat ev ?_)));refine wpS_bind (ZeT hA hk1 (okb u mu) (oka v mv) ?_)
   cases e:O.blt (O.ky u) (O.ky v) with
   | true=>
    simp only[if_true];refine wpS_bind (Zat ev ?_);have m2:=pA h1 hm ev fun z hz=>KO.le_trans (leT sb (by omega) eu' z hz) (KO.le_of_lt e);by_cases c3:na - 1=0
    ·rw[if_pos (by simpa using c3)];rw[c3] at m2 ⊢;exact wpS_pure ⟨rfl,.inl ⟨_,_,_,_,_,_,rfl,done m2⟩⟩
    rw[if_neg (by simpa using c3)];refine ZaE (fun _=>?_) (fun _=>?_)
    ·exact wpS_pure ⟨rfl,.inr ⟨_,_,_,_,_,rfl,m2,by omega,by omega,by omega,by omega,by omega⟩⟩
    ·exact wpS_pure ⟨rfl,_,_,_,_,_,rfl,m2,by omega,by omega,by omega,by omega,by omega⟩
   | false=>
    simp only[YaD,if_false];refine wpS_bind (Zat eu ?_);have m2:=pB (by omega) hm eu fun z hz=>KO.le_trans (leT sa (by omega) ev' z hz) (show O.le v u from e);by_cases c3:nb - 1=1
    ·rw[if_pos (by simpa using c3)];rw[c3] at m2 ⊢;exact wpS_pure ⟨rfl,.inl ⟨_,_,_,_,_,_,rfl,first m2⟩⟩
    rw[if_neg (by simpa using c3)];refine ZaE (fun _=>?_) (fun _=>?_)
    ·exact wpS_pure ⟨rfl,.inr ⟨_,_,_,_,_,rfl,m2,by omega,by omega,by omega,by omega,by omega⟩⟩
    ·exact wpS_pure ⟨rfl,_,_,_,_,_,rfl,m2,by omega,by omega,by omega,by omega,by omega⟩
  case post1=>
   rintro c st' ⟨rfl,⟨r,out,na,nb,p,q,rfl,hr⟩ | ⟨out,na,nb,p,q,rfl,hm,h1,h1',h2,h2',h3⟩⟩
   ·exact wpS_pure ⟨hG1,_,_,_,_,_,rfl,hr⟩
   dsimp only;refine wpS_bind (wpS_lift (wpAny_rule ⟨rfl,?_⟩));refine wpS_bind (wpS_mono (wpS_forRange
    (I:=fun y c st'=>Gal st st'/\∃ (out:Array Keyed) (na nb g p q:Nat),c=((none:Option (Array Keyed)),na,nb,out,g,p,q)/\MH O a.toList b.toList out.toList na nb/\1<=na/\na<=a.size/\2<=nb/\nb<=b.size/\x+1+na+nb<=a.size+b.size)
    (Q:=fun c st'=>Gal st st'/\((∃ (r out:Array Keyed) (na nb g p q:Nat),c=(some r,na,nb,out,g,p,q)/\Mg O a.toList b.toList r.toList) ∨
     (∃ (out:Array Keyed) (na nb g p q:Nat),c=(none,na,nb,out,g,p,q)/\MH O a.toList b.toList out.toList na nb/\1<=na/\na<=a.size/\2<=nb/\nb<=b.size/\x+1+na+nb<=a.size+b.size))) ?step2 ?fin2 ⟨hG1,out,na,nb,g+1,p,q,rfl,hm,h1,h1',h2,h2',h3⟩) ?post2)
   case fin2=>
    rintro c st' ⟨hG,out,na,nb,g,p,q,rfl,hm,h1,h1',h2,h2',h3⟩;exact⟨hG,.inr ⟨out,na,nb,g,p,q,rfl,hm,h1,h1',h2,h2',h3⟩⟩
   case post2=>
    rintro c st' ⟨hG,⟨r,out,na,nb,g,p,q,rfl,hr⟩ | ⟨out,na,nb,g,p,q,rfl,hm,h1,h1',h2,h2',h3⟩⟩
    ·exact wpS_pure ⟨hG,_,_,_,_,_,rfl,hr⟩
    exact wpS_bind (Zbe hG fun st2 hG2=>wpS_pure ⟨hG2,_,_,_,_,rfl,hm,h1,h1',h2,h2',h3⟩)
   case step2=>
    rintro y c st' _ hy ⟨hG,out,na,nb,g,p,q,rfl,hm,h1,h1',h2,h2',h3⟩;dsimp only;obtain⟨u,eu,eu',mu⟩:=ZaJ (a:=b) (i:=nb - 1) (by omega);refine ZaE (fun cg=>?_) (fun cg=>?_)
    all_goals
     refine wpS_bind (Zbe hG fun st2 hG2=>wpS_bind (Zat eu ?_));refine wpS_bind (Zb5 hA (hG2.1.trans hk) (okb u mu) oka (by omega) (srtA sa _ _) (by omega) fun k hk1 b1 b2=>?_);have m3:=hm.takeAs sa (by simp;omega) (na - k) (by omega) fun i z h6 h7 e y hy=>KO.le_trans (leT sb (by omega) eu' y hy) (KO.le_of_lt (b2 i z (by omega) (by omega) (by rw[YbF,<- Yaf];exact e)));rw[show na - (na - k)=k by omega] at m3;have hu:∀ z∈a.toList.take k,O.le z u:=by
      intro z hz;obtain⟨j,hj,e⟩:=ZaY hz;refine b1 j z hj ?_;rw[YbF,<- Yaf];exact e
     dsimp only;by_cases ck:na - k > 0
     ·rw[if_pos ck];rw[<- ZeH,<- Ycq,<- Ybi] at m3;by_cases c3:k=0
      ·rw[if_pos (by simpa using c3)];rw[c3] at m3 ⊢;exact wpS_pure ⟨hG2,.inl ⟨_,_,_,_,_,_,_,rfl,done m3⟩⟩
      rw[if_neg (by simpa using c3)];refine wpS_bind (Zat eu ?_);have m4:=pB (by omega) m3 eu hu;by_cases c4:nb - 1=1
      ·rw[if_pos (by simpa using c4)];rw[c4] at m4 ⊢;exact wpS_pure ⟨hG2,.inl ⟨_,_,_,_,_,_,_,rfl,first m4⟩⟩
      rw[if_neg (by simpa using c4)];obtain⟨v,ev,ev',mv⟩:=ZaJ (a:=a) (i:=k - 1) (by omega);refine wpS_bind (Zat ev ?_);refine wpS_bind (Zbj hA (hG2.1.trans hk) (oka v mv) okb (by omega) (srtA sb _ _) (by omega) fun k2 hk2 d1 d2=>?_);have hk20:1<=k2:=by
       rcases YdN k2 with z | z
       ·obtain⟨zl,el,_,_⟩:=ZaJ (a:=b) (i:=0) (by omega);have q1:=hfirst zl el v mv;have q2:=d2 0 zl (by omega) (by omega) (by rw[YbF];exact el);rw[show O.blt (O.ky zl) (O.ky v)=false from q2] at q1;cases q1
       ·exact z
      have m5:=m4.takeBs sb (by simp;omega) (nb - 1 - k2) (by omega) fun i z h6 h7 e y hy=>KO.le_trans (leT sa (by omega) ev' y hy) (d2 i z (by omega) (by omega) (by rw[YbF,<- Yaf];exact e));rw[show nb - 1 - (nb - 1 - k2)=k2 by omega] at m5;have hv:∀ z∈b.toList.take k2,O.le z v:=by
       intro z hz;obtain⟨j,hj,e⟩:=ZaY hz;refine KO.le_of_lt (d1 j z hj ?_);rw[YbF,<- Yaf];exact e
      dsimp only;by_cases ck2:nb - 1 - k2 > 0
      ·rw[if_pos ck2];rw[<- ZeH,<- Ycq,<- Ybi] at m5;by_cases c6:k2=1
       ·rw[if_pos (by simpa using c6)];rw[c6] at m5 ⊢;exact wpS_pure ⟨hG2,.inl ⟨_,_,_,_,_,_,_,rfl,first m5⟩⟩
       rw[if_neg (by simpa using c6),if_neg (by simp;omega)];obtain⟨v2,ev2,ev2',mv2⟩:=ZaJ (a:=a) (i:=k - 1) (by omega);refine wpS_bind (Zat ev2 ?_);have ee:v2=v:=YaE (ev2.symm.trans ev);subst ee;have m7:=pA (by omega) m5 ev2 hv;by_cases c7:k - 1=0
       ·rw[if_pos (by simpa using c7)];rw[c7] at m7 ⊢;exact wpS_pure ⟨hG2,.inl ⟨_,_,_,_,_,_,_,rfl,done m7⟩⟩
       rw[if_neg (by simpa using c7)];refine ZaE (fun _=>?_) (fun _=>?_)
       ·exact wpS_pure ⟨hG2,.inr ⟨_,_,_,_,_,_,rfl,m7,by omega,by omega,by omega,by omega,by omega⟩⟩
       ·exact wpS_pure ⟨hG2,_,_,_,_,_,_,rfl,m7,by omega,by omega,by omega,by omega,by omega⟩
      ·rw[if_neg ck2];have k0:nb - 1=k2:=by omega
       rw[show nb - 1 - k2=0 by omega,YbQ,Ydo,YbI] at m5;rw[k0];obtain⟨v2,ev2,ev2',mv2⟩:=ZaJ (a:=a) (i:=k - 1) (by omega);refine wpS_bind (Zat ev2 ?_);have ee:v2=v:=YaE (ev2.symm.trans ev);subst ee;have m7:=pA (by omega) m5 ev2 hv;by_cases c7:k - 1=0
       ·rw[if_pos (by simpa using c7)];rw[c7] at m7 ⊢;exact wpS_pure ⟨hG2,.inl ⟨_,_,_,_,_,_,_,rfl,done m7⟩⟩
       rw[if_neg (by simpa using c7)];refine ZaE (fun _=>?_) (fun _=>?_)
       ·exact wpS_pure ⟨hG2,.inr ⟨_,_,_,_,_,_,rfl,m7,by omega,by omega,by omega,by omega,by omega⟩⟩
       ·exact wpS_pure ⟨hG2,_,_,_,_,_,_,rfl,m7,by omega,by omega,by omega,by omega,by omega⟩
     ·rw[if_neg ck];have k0:na=k:=by omega
      rw[show na - k=0 by omega,YbQ,Ydo,YbI] at m3;rw[k0];refine wpS_bind (Zat eu ?_);have m4:=pB (by omega) m3 eu hu;by_cases c4:nb - 1=1
      ·rw[if_pos (by simpa using c4)];rw[c4] at m4 ⊢;exact wpS_pure ⟨hG2,.inl ⟨_,_,_,_,_,_,_,rfl,first m4⟩⟩
      rw[if_neg (by simpa using c4)];obtain⟨v,ev,ev',mv⟩:=ZaJ (a:=a) (i:=k - 1) (by omega);refine wpS_bind (Zat ev ?_);refine wpS_bind (Zbj hA (hG2.1.trans hk) (oka v mv) okb (by omega) (srtA sb _ _) (by omega) fun k2 hk2 d1 d2=>?_);have hk20:1<=k2:=by
       rcases YdN k2 with z | z
       ·obtain⟨zl,el,_,_⟩:=ZaJ (a:=b) (i:=0) (by omega);have q1:=hfirst zl el v mv;have q2:=d2 0 zl (by omega) (by omega) (by rw[YbF];exact el);rw[show O.blt (O.ky zl) (O.ky v)=false from q2] at q1;cases q1
       ·exact z
      have m5:=m4.takeBs sb (by simp;omega) (nb - 1 - k2) (by omega) fun i z h6 h7 e y hy=>KO.le_trans (leT sa (by omega) ev' y hy) (d2 i z (by omega) (by omega) (by rw[YbF,<- Yaf];exact e));rw[show nb - 1 - (nb - 1 - k2)=k2 by omega] at m5;have hv:∀ z∈b.toList.take k2,O.le z v:=by
       intro z hz;obtain⟨j,hj,e⟩:=ZaY hz;refine KO.le_of_lt (d1 j z hj ?_);rw[YbF,<- Yaf];exact e
      dsimp only;by_cases ck2:nb - 1 - k2 > 0
      ·rw[if_pos ck2];rw[<- ZeH,<- Ycq,<- Ybi] at m5;by_cases c6:k2=1
       ·rw[if_pos (by simpa using c6)];rw[c6] at m5 ⊢;exact wpS_pure ⟨hG2,.inl ⟨_,_,_,_,_,_,_,rfl,first m5⟩⟩
       rw[if_neg (by simpa using c6),if_neg (by simp;omega)];obtain⟨v2,ev2,ev2',mv2⟩:=ZaJ (a:=a) (i:=k - 1) (by omega);refine wpS_bind (Zat ev2 ?_);have ee:v2=v:=YaE (ev2.symm.trans ev);subst ee;have m7:=pA (by omega) m5 ev2 hv;by_cases c7:k - 1=0
       ·rw[if_pos (by simpa using c7)];rw[c7] at m7 ⊢;exact wpS_pure ⟨hG2,.inl ⟨_,_,_,_,_,_,_,rfl,done m7⟩⟩
       rw[if_neg (by simpa using c7)];refine ZaE (fun _=>?_) (fun _=>?_)
       ·exact wpS_pure ⟨hG2,.inr ⟨_,_,_,_,_,_,rfl,m7,by omega,by omega,by omega,by omega,by omega⟩⟩
       ·exact wpS_pure ⟨hG2,_,_,_,_,_,_,rfl,m7,by omega,by omega,by omega,by omega,by omega⟩
      ·rw[if_neg ck2];have k0:nb - 1=k2:=by omega
       rw[show nb - 1 - k2=0 by omega,YbQ,Ydo,YbI] at m5;rw[k0];obtain⟨v2,ev2,ev2',mv2⟩:=ZaJ (a:=a) (i:=k - 1) (by omega);refine wpS_bind (Zat ev2 ?_);have ee:v2=v:=YaE (ev2.symm.trans ev);subst ee;have m7:=pA (by omega) m5 ev2 hv;by_cases c7:k - 1=0
       ·rw[if_pos (by simpa using c7)];rw[c7] at m7 ⊢;exact wpS_pure ⟨hG2,.inl ⟨_,_,_,_,_,_,_,rfl,done m7⟩⟩
       rw[if_neg (by simpa using c7)];refine ZaE (fun _=>?_) (fun _=>?_)
       ·exact wpS_pure ⟨hG2,.inr ⟨_,_,_,_,_,_,rfl,m7,by omega,by omega,by omega,by omega,by omega⟩⟩
       ·exact wpS_pure ⟨hG2,_,_,_,_,_,_,rfl,m7,by omega,by omega,by omega,by omega,by omega⟩
def ka (O:KO) (xs:Array Keyed) (i:Nat):O.α:=O.ky ((xs[i]?).getD (.none,.none))
def Up (O:KO) (lo n:Nat) (xs:Array Keyed):Prop:=∀ i j,i<=j->j<n->O.kle (ka O xs (lo+i)) (ka O xs (lo+j))
def Dn (O:KO) (lo n:Nat) (xs:Array Keyed):Prop:=∀ i j,i<=j->j<n->O.kle (ka O xs (lo+j)) (ka O xs (lo+i))
structure FB (knd:SortKind) (b₀:Array Keyed) (p₀:Array (Nat × Nat × Nat)) (lo:Nat) (st:SortSt):Prop where
 perm:(arrOf st).Perm b₀
 keep:∀ i,i<lo->(arrOf st)[i]?=b₀[i]?
 kind:kindOf st=knd
 failed:failedOf st=none
 pend:pendingOf st=p₀
section
variable {b₀:Array Keyed}{p₀:Array (Nat × Nat × Nat)}{lo:Nat}
theorem FB.size (h:FB knd b₀ p₀ lo st):(arrOf st).size=b₀.size:=h.perm.size_eq
theorem FB.put {xs:Array Keyed} (h:FB knd b₀ p₀ lo st) (hp:xs.Perm (arrOf st)) (hx:∀ i,i<lo->xs[i]?=(arrOf st)[i]?):FB knd b₀ p₀ lo (setArr st xs) :=
 ⟨hp.trans h.perm,fun i hi=>(hx i hi).trans (h.keep i hi),h.kind,h.failed,h.pend⟩
theorem FB.mir (h:FB knd b₀ p₀ lo st) {i j:Nat} (hi:lo<=i) (hj:j<=b₀.size):FB knd b₀ p₀ lo (setArr st (mirror (arrOf st) i j ((j - i) / 2))) :=
 h.put (mirror_perm _ _ _ _) fun k hk=>by rw[getElem?_mirror_all (by rw[h.size];exact hj),if_neg (by omega)]
theorem Zcr {xs ys:Array Keyed}{i j:Nat} (h:xs[i]?=ys[j]?):ka O xs i=ka O ys j:=by unfold ka;rw[h]
theorem ZjK {xs:Array Keyed}{i j:Nat} (hj:j<=xs.size) (k:Nat):ka O (mirror xs i j ((j - i) / 2)) k=if i<=k/\k<j then ka O xs (i+j - 1 - k) else ka O xs k:=by
 have e:=getElem?_mirror_all (i:=i) hj k;split
 ·rename_i c;rw[if_pos c] at e;exact Zcr e
 ·rename_i c;rw[if_neg c] at e;exact Zcr e
theorem Zcd {xs:Array Keyed}{i j:Nat} (hj:j<=xs.size) (he:∀ k,i<=k->k<j->ka O xs k=ka O xs (j - 1)) (k:Nat):ka O (mirror xs i j ((j - i) / 2)) k=ka O xs k:=by
 rw[ZjK hj];split
 ·rw[he _ (by omega) (by omega),he k (by omega) (by omega)]
 ·rfl
theorem Zmc {xs:Array Keyed}{src d:Nat} (hs:src<xs.size) (hd:d<=src) (k:Nat):ka O (bubble xs src d) k=if k=src - d then ka O xs src else if src - d<k/\k<=src then ka O xs (k - 1) else ka O xs k:=by
 have e:=getElem?_bubble hs d hd k;split
 ·rename_i c;rw[if_pos c] at e;exact Zcr e
 ·rename_i c;rw[if_neg c] at e;split
  ·rename_i c2;rw[if_pos c2] at e;exact Zcr e
  ·rename_i c2;rw[if_neg c2] at e;exact Zcr e
theorem ZcW {i j:Nat}{Q:Option Bool->SortSt->Prop} (hA:Asks prog w A s O knd ok) (h0:∀ x∈b₀.toList,ok x) (hF:FB knd b₀ p₀ lo st) (hi:i<b₀.size) (hj:j<b₀.size) (h:Q (some (O.blt (ka O (arrOf st) i) (ka O (arrOf st) j))) st):wpS (model prog w) A E s (ltAt' i j) Q st:=by
 obtain⟨x,ex,_,mx⟩:=ZaJ (a:=arrOf st) (i:=i) (by rw[hF.size];exact hi);obtain⟨y,ey,_,my⟩:=ZaJ (a:=arrOf st) (i:=j) (by rw[hF.size];exact hj);have pm:=Yel.mp hF.perm;rw[ltAt'_eq];refine wpS_bind (wpS_get ?_);refine wpS_bind (Zat ex (wpS_bind (Zat ey ?_)));refine ZeT hA hF.kind (h0 x (pm.mem_iff.mp mx)) (h0 y (pm.mem_iff.mp my)) ?_;unfold ka at h;rw[ex,ey] at h;exact h
theorem Zbz {i j:Nat}{Q:Unit->SortSt->Prop} (h:Q () (setArr st (mirror (arrOf st) i j ((j - i) / 2)))):wpS (model prog w) A E s (reverseSlice' i j) Q st:=by
 rw[reverseSlice'_eq];exact wpS_modify h
def ascL (lo a nrem:Nat):StateT SortSt Sem (Option (Option Nat) × Nat) :=
 forIn [a:nrem] ((none,a):Option (Option Nat) × Nat) fun _ c=>ltAt' (lo+c.2) (lo+c.2 - 1) >>= fun x=>match x with
  | some sm=>if sm=true then pure (Yco (none,c.2)) else pure (Ybh (none,c.2+1))
  | _=>pure (Yco (some none,c.2))
theorem Zch {a nrem:Nat}{Q:Option (Option Nat) × Nat->SortSt->Prop} (hA:Asks prog w A s O knd ok) (h0:∀ x∈b₀.toList,ok x) (hF:FB knd b₀ p₀ lo st) (hn:lo+nrem<=b₀.size) (ha:1<=a) (hl:a<=nrem) (hu:Up O lo a (arrOf st))
  (h:∀ n,a<=n->n<=nrem->Up O lo n (arrOf st)->(n=nrem∨O.klt (ka O (arrOf st) (lo+n)) (ka O (arrOf st) (lo+n - 1)))->Q (none,n) st):wpS (model prog w) A E s (ascL lo a nrem) Q st:=by
 unfold ascL;refine wpS_forRange (I:=fun n c τ=>τ=st/\c=((none:Option (Option Nat)),n)/\Up O lo n (arrOf st)) ?go ?out ⟨rfl,rfl,hu⟩
 case out=>
  rintro c τ ⟨rfl,rfl,u⟩;rw[Yd5 hl] at u ⊢;exact h nrem hl (Yag _) u (.inl rfl)
 case go=>
  rintro n c τ h1 h2 ⟨rfl,rfl,u⟩;refine wpS_bind (ZcW hA h0 hF (by dsimp only;omega) (by dsimp only;omega) ?_);dsimp only
  cases e:O.blt (ka O (arrOf τ) (lo+n)) (ka O (arrOf τ) (lo+n - 1)) with
  | true=>
   simp only[if_true];exact wpS_pure (h n h1 (by omega) u (.inr e))
  | false=>
   simp only[YaD,if_false];refine wpS_pure ⟨rfl,rfl,fun i j hij hj=>?_⟩;rcases Ybl j n with z | z
   ·exact u i j hij z
   ·obtain rfl:j=n:=by omega
    rcases Ybl i j with y | y
    ·exact YcN (u i (j - 1) (by omega) (by omega)) (by rw[show lo+(j - 1)=lo+j - 1 by omega];exact e)
    ·obtain rfl:i=j:=by omega
     exact Ycf _
theorem ZgA {n:Nat}{xs:Array Keyed} (hd:Dn O lo n xs) (hsz:lo+n<=xs.size):Up O lo n (mirror xs lo (lo+n) ((lo+n - lo) / 2)):=by
 intro i j hij hj;rw[ZjK hsz,ZjK hsz,if_pos (by omega),if_pos (by omega)];have q:=hd (n - 1 - j) (n - 1 - i) (by omega) (by omega);rw[show lo+(n - 1 - j)=lo+(lo+n) - 1 - (lo+j) by omega,show lo+(n - 1 - i)=lo+(lo+n) - 1 - (lo+i) by omega] at q;exact q
def dscL (lo n nrem:Nat):StateT SortSt Sem (Option (Option Nat) × Nat × Nat) :=
 forIn [n:nrem] ((none,n,0):Option (Option Nat) × Nat × Nat) fun _ c=>ltAt' (lo+c.2.1) (lo+c.2.1 - 1) >>= fun x=>match x with
  | some sm=>if sm=true then (if c.2.2 > 0 then reverseSlice' (lo+c.2.1 - (c.2.2+1)) (lo+c.2.1) >>= fun _=>pure (Ybh (none,c.2.1+1,0)) else pure (Ybh (none,c.2.1+1,0)))
   else ltAt' (lo+c.2.1 - 1) (lo+c.2.1) >>= fun y=>match y with
    | some lg=>if lg=true then pure (Yco (none,c.2.1,c.2.2)) else pure (Ybh (none,c.2.1+1,c.2.2+1))
    | _=>pure (Yco (some none,c.2.1,c.2.2))
  | _=>pure (Yco (some none,c.2.1,c.2.2))
theorem Zgx {n nrem:Nat}{Q:Option (Option Nat) × Nat × Nat->SortSt->Prop} (hA:Asks prog w A s O knd ok) (h0:∀ x∈b₀.toList,ok x) (hF:FB knd b₀ p₀ lo st) (hn:lo+nrem<=b₀.size) (h1:1<=n) (hl:n<=nrem) (hd:Dn O lo n (arrOf st))
  (h:∀ m e τ,FB knd b₀ p₀ lo τ->n<=m->m<=nrem->Dn O lo m (arrOf τ)->e+1<=m->(∀ i,m - (e+1)<=i->i<m->ka O (arrOf τ) (lo+i)=ka O (arrOf τ) (lo+m - 1))->Q (none,m,e) τ):wpS (model prog w) A E s (dscL lo n nrem) Q st:=by
 unfold dscL;refine wpS_forRange (I:=fun m c τ=>∃ e,c=((none:Option (Option Nat)),m,e)/\FB knd b₀ p₀ lo τ/\Dn O lo m (arrOf τ)/\e+1<=m/\∀ i,m - (e+1)<=i->i<m->ka O (arrOf τ) (lo+i)=ka O (arrOf τ) (lo+m - 1)) ?go ?out
  ⟨0,rfl,hF,hd,by omega,fun i h2 h3=>by congr 1;omega⟩
 case out=>
  rintro c τ ⟨e,rfl,hT,d,q,he⟩;rw[Yd5 hl] at d q he ⊢;exact h nrem e τ hT hl (Yag _) d q he
 case go=>
  rintro m c τ h2 h3 ⟨e,rfl,hT,d,q,he⟩;have hsz:lo+m<=(arrOf τ).size:=by rw[hT.size];omega
  have more:∀ xs:Array Keyed,(∀ k,ka O xs k=ka O (arrOf τ) k)->O.kle (ka O (arrOf τ) (lo+m)) (ka O (arrOf τ) (lo+m - 1))->Dn O lo (m+1) xs:=by
   intro xs hk hle i j hij hj;rw[hk,hk];rcases Ybl j m with z | z
   ·exact d i j hij z
   ·obtain rfl:j=m:=by omega
    rcases Ybl i j with y | y
    ·exact YcN hle (by rw[show lo+j - 1=lo+(j - 1) by omega];exact d i (j - 1) (by omega) (by omega))
    ·obtain rfl:i=j:=by omega
     exact Ycf _
  have eq1:∀ k,lo+m - (e+1)<=k->k<lo+m->ka O (arrOf τ) k=ka O (arrOf τ) (lo+m - 1):=fun k k1 k2=>by
   have:=he (k - lo) (by omega) (by omega)
   rwa [show lo+(k - lo)=k by omega] at this
  refine wpS_bind (ZcW hA h0 hT (by dsimp only;omega) (by dsimp only;omega) ?_);dsimp only
  cases ew:O.blt (ka O (arrOf τ) (lo+m)) (ka O (arrOf τ) (lo+m - 1)) with
  | true=>
   simp only[if_true];refine ZaE (fun _=>?_) (fun _=>?_)
   ·exact wpS_bind (Zbz (wpS_pure ⟨0,rfl,hT.mir (by omega) (by omega),more _ (Zcd hsz eq1) (Ycj ew),by omega,fun i h2 h3=>by congr 1;omega⟩))
   ·exact wpS_pure ⟨0,rfl,hT,more _ (fun _=>rfl) (Ycj ew),by omega,fun i h2 h3=>by congr 1;omega⟩
  | false=>
   simp only[YaD,if_false];refine wpS_bind (ZcW hA h0 hT (by omega) (by omega) ?_);dsimp only
   cases eg:O.blt (ka O (arrOf τ) (lo+m - 1)) (ka O (arrOf τ) (lo+m)) with
   | true=>
    simp only[if_true];exact wpS_pure (h m e τ hT h2 (by omega) d q he)
   | false=>
    simp only[YaD,if_false];have hx:ka O (arrOf τ) (lo+m)=ka O (arrOf τ) (lo+m - 1):=Ye1 (O:=O.toKeyOrd) eg ew;refine wpS_pure ⟨e+1,rfl,hT,more _ (fun _=>rfl) eg,by omega,fun i i1 i2=>?_⟩;rw[show lo+(m+1) - 1=lo+m by omega];rcases Ybl i m with z | z
    ·rw[hx];exact he i (by omega) z
    ·obtain rfl:i=m:=by omega
     rfl
theorem Zmq {nrem:Nat}{Q:Option Nat->SortSt->Prop} (hA:Asks prog w A s O knd ok) (h0:∀ x∈b₀.toList,ok x) (hF:FB knd b₀ p₀ lo st) (hn:lo+nrem<=b₀.size) (h1:1<=nrem)
  (h:∀ m τ,FB knd b₀ p₀ lo τ->1<=m->m<=nrem->Up O lo m (arrOf τ)->Q (some m) τ):wpS (model prog w) A E s (countRun' lo nrem) Q st:=by
 refine wpS_bind (Zch (a:=1) hA h0 hF hn (Yag 1) h1 (fun i j hij hj=>?_) fun n n1 n2 u hor=>?_)
 ·obtain rfl:i=j:=by omega
  exact Ycf _
 dsimp only;by_cases c:n=nrem
 ·rw[if_pos (by simpa using c)];exact wpS_pure (h n st hF n1 n2 u)
 rw[if_neg (by simpa using c)];have hlt:=hor.resolve_left c;have hsz:lo+n<=(arrOf st).size:=by rw[hF.size];omega
 by_cases cg:n > 1
 ·rw[if_pos cg];refine wpS_bind (ZcW hA h0 hF (by omega) (by omega) ?_)
  cases e:O.blt (ka O (arrOf st) lo) (ka O (arrOf st) (lo+n - 1)) with
  | true=>
   simp only[if_true];exact wpS_pure (h n st hF n1 n2 u)
  | false=>
   simp only[YaD,if_false];have all:∀ k,lo<=k->k<lo+n->ka O (arrOf st) k=ka O (arrOf st) (lo+n - 1):=by
    intro k k1 k2;have a1:=u 0 (k - lo) (by omega) (by omega);have a2:=u (k - lo) (n - 1) (by omega) (by omega);rw[show lo+(k - lo)=k by omega] at a1 a2;rw[show lo+(n - 1)=lo+n - 1 by omega] at a2;exact Ye1 a2 (YcN (O:=O.toKeyOrd) e a1)
   refine wpS_bind (Zbz ?_);have hF7:=FB.mir hF (i:=lo) (j:=lo+n) (Yag _) (by omega);have d7:Dn O lo (n+1) (arrOf (setArr st (mirror (arrOf st) lo (lo+n) ((lo+n - lo) / 2)))):=by
    intro i j hij hj;show O.kle (ka O (mirror (arrOf st) _ _ _) _) (ka O (mirror (arrOf st) _ _ _) _);rw[Zcd hsz all,Zcd hsz all];rcases Ybl j n with z | z
    ·rw[all _ (by omega) (show lo+j<lo+n by omega),all _ (by omega) (show lo+i<lo+n by omega)];exact Ycf _
    ·obtain rfl:j=n:=by omega
     rcases Ybl i j with y | y
     ·rw[all _ (by omega) (show lo+i<lo+j by omega)];exact Ycj hlt
     ·obtain rfl:i=j:=by omega
      exact Ycf _
   refine wpS_bind (wpS_lift (wpAny_rule ⟨rfl,?_⟩));refine wpS_bind (Zgx hA h0 hF7 hn (by omega) (by omega) d7 fun m e τ hT m1 m2 d q he=>?_);dsimp only;have hsz:lo+m<=(arrOf τ).size:=by rw[hT.size];omega
   have eq1:∀ k,lo+m - (e+1)<=k->k<lo+m->ka O (arrOf τ) k=ka O (arrOf τ) (lo+m - 1):=fun k k1 k2=>by
    have:=he (k - lo) (by omega) (by omega)
    rwa [show lo+(k - lo)=k by omega] at this
   refine ZaE (fun _=>?_) (fun _=>?_)
   ·refine wpS_bind (Zbz ?_);have hF8:=FB.mir hT (i:=lo+m - (e+1)) (j:=lo+m) (by omega) (by omega);have d8:Dn O lo m (arrOf (setArr τ (mirror (arrOf τ) (lo+m - (e+1)) (lo+m) ((lo+m - (lo+m - (e+1))) / 2)))):=by
     intro i j hij hj;show O.kle (ka O (mirror (arrOf τ) _ _ _) _) (ka O (mirror (arrOf τ) _ _ _) _);rw[Zcd hsz eq1,Zcd hsz eq1];exact d i j hij hj
    refine wpS_bind (Zbz ?_);have hF9:=FB.mir hF8 (i:=lo) (j:=lo+m) (Yag _) (by omega);refine wpS_bind (Zch hA h0 hF9 hn (by omega) m2 (ZgA d8 (by rw[FB.size hF8];omega)) fun m' m1' m2' u' _=>wpS_pure (h m' _ hF9 (by omega) m2' u'))
   ·
    refine wpS_bind (Zbz ?_);have hF9:=FB.mir hT (i:=lo) (j:=lo+m) (Yag _) (by omega);refine wpS_bind (Zch hA h0 hF9 hn (by omega) m2 (ZgA d (by rw[FB.size hT];omega)) fun m' m1' m2' u' _=>wpS_pure (h m' _ hF9 (by omega) m2' u'))
 ·rw[if_neg cg];obtain rfl:n=1:=by omega
  have d7:Dn O lo (1+1) (arrOf st):=by
   intro i j hij hj;rcases Ybl i j with y | y
   ·obtain rfl:i=0:=by omega
    obtain rfl:j=1:=by omega
    exact Ycj hlt
   ·obtain rfl:i=j:=by omega
    exact Ycf _
  refine wpS_bind (wpS_lift (wpAny_rule ⟨rfl,?_⟩));refine wpS_bind (Zgx hA h0 hF hn (by omega) (by omega) d7 fun m e τ hT m1 m2 d q he=>?_);dsimp only;have hsz:lo+m<=(arrOf τ).size:=by rw[hT.size];omega
  have eq1:∀ k,lo+m - (e+1)<=k->k<lo+m->ka O (arrOf τ) k=ka O (arrOf τ) (lo+m - 1):=fun k k1 k2=>by
   have:=he (k - lo) (by omega) (by omega)
   rwa [show lo+(k - lo)=k by omega] at this
  refine ZaE (fun _=>?_) (fun _=>?_)
  ·refine wpS_bind (Zbz ?_);have hF8:=FB.mir hT (i:=lo+m - (e+1)) (j:=lo+m) (by omega) (by omega);have d8:Dn O lo m (arrOf (setArr τ (mirror (arrOf τ) (lo+m - (e+1)) (lo+m) ((lo+m - (lo+m - (e+1))) / 2)))):=by
    intro i j hij hj;show O.kle (ka O (mirror (arrOf τ) _ _ _) _) (ka O (mirror (arrOf τ) _ _ _) _);rw[Zcd hsz eq1,Zcd hsz eq1];exact d i j hij hj
   refine wpS_bind (Zbz ?_);have hF9:=FB.mir hF8 (i:=lo) (j:=lo+m) (Yag _) (by omega);refine wpS_bind (Zch hA h0 hF9 hn (by omega) m2 (ZgA d8 (by rw[FB.size hF8];omega)) fun m' m1' m2' u' _=>wpS_pure (h m' _ hF9 (by omega) m2' u'))
  ·
   refine wpS_bind (Zbz ?_);have hF9:=FB.mir hT (i:=lo) (j:=lo+m) (Yag _) (by omega);refine wpS_bind (Zch hA h0 hF9 hn (by omega) m2 (ZgA d (by rw[FB.size hT];omega)) fun m' m1' m2' u' _=>wpS_pure (h m' _ hF9 (by omega) m2' u'))
end
end
end L2
namespace L2
open PySem PyProof.Rows
section
variable {prog:Program}{w:World}{A:Around}{E:Value->Shared->Prop}{s:Shared}{O:KO}{knd:SortKind}{ok:Keyed->Prop}{st:SortSt}{b₀:Array Keyed}{p₀:Array (Nat × Nat × Nat)}{lo:Nat}
theorem Zoh {l r:Nat} (h:l<r):l<=(l+r) / 2/\(l+r) / 2<r:=by omega
theorem Zo2 {l r k x N:Nat} (m1:l<=(l+r) / 2) (m2:(l+r) / 2<r) (hx:x<N) (e2:r<=k) (e3:r - l<=k - x):(l+r) / 2 - l<=k - (x+1):=by omega
theorem Zo1 {l r k x N:Nat} (m1:l<=(l+r) / 2) (m2:(l+r) / 2<r) (hx:x<N) (e2:r<=k) (e3:r - l<=k - x):r - ((l+r) / 2+1)<=k - (x+1):=by omega
theorem Zmr {n m:Nat}{Q:Bool->SortSt->Prop} (hA:Asks prog w A s O knd ok) (h0:∀ x∈b₀.toList,ok x) (hF:FB knd b₀ p₀ lo st) (hn:lo+n<=b₀.size) (h1:1<=m) (hm:m<=n) (hu:Up O lo m (arrOf st))
  (h:∀ τ,FB knd b₀ p₀ lo τ->Up O lo n (arrOf τ)->Q true τ):wpS (model prog w) A E s (binarySort' lo n m) Q st:=by
 rw[binarySort'_eq,Nat.max_eq_left h1];refine wpS_bind (wpS_mono (wpS_forRange (I:=fun k c τ=>c=(none,())/\FB knd b₀ p₀ lo τ/\Up O lo k (arrOf τ))
  (Q:=fun c τ=>c=(none,())/\FB knd b₀ p₀ lo τ/\Up O lo n (arrOf τ)) ?go ?out ⟨rfl,hF,hu⟩) ?fin)
 case fin=>
  rintro c τ ⟨rfl,hT,u⟩;exact wpS_pure (h τ hT u)
 case out=>
  rintro c τ ⟨hc,hT,u⟩;rw[Yd5 hm] at u;exact⟨hc,hT,u⟩
 case go=>
  rintro k c τ k1 k2 ⟨rfl,hT,u⟩;refine wpS_bind (wpS_mono (wpS_forRange (I:=fun x c τ'=>τ'=τ/\∃ l r,c=(none,l,r)/\l<=r/\r<=k/\r - l<=k - x /\
    (∀ i,i<l->O.kle (ka O (arrOf τ) (lo+i)) (ka O (arrOf τ) (lo+k)))/\∀ i,r<=i->i<k->O.klt (ka O (arrOf τ) (lo+k)) (ka O (arrOf τ) (lo+i)))
   (Q:=fun c τ'=>τ'=τ/\∃ l,c=(none,l,l)/\l<=k/\(∀ i,i<l->O.kle (ka O (arrOf τ) (lo+i)) (ka O (arrOf τ) (lo+k)))/\∀ i,l<=i->i<k->O.klt (ka O (arrOf τ) (lo+k)) (ka O (arrOf τ) (lo+i))) ?go2 ?out2
   ⟨rfl,0,k,rfl,YaW _,Yag _,Yag _,fun i hi=>absurd hi (YbC _),fun i i1 i2=>absurd i2 (Nat.not_lt.mpr i1)⟩) ?fin2)
  case out2=>
   rintro c τ' ⟨rfl,l,r,rfl,e1,e2,e3,e4,e5⟩;obtain rfl:l=r:=by omega
   exact⟨rfl,l,rfl,e2,e4,e5⟩
  case go2=>
   rintro x c τ' _ hx ⟨rfl,l,r,rfl,e1,e2,e3,e4,e5⟩;dsimp only;by_cases hge:l ≥ r
   ·rw[if_pos hge];obtain rfl:l=r:=by omega
    exact wpS_pure ⟨rfl,l,rfl,e2,e4,e5⟩
   rw[if_neg hge];obtain⟨m1,m2⟩:=Zoh (Nat.lt_of_not_le hge);have mk:(l+r) / 2<k:=Yal m2 e2;have kn:lo+k<b₀.size:=Yal (Yfq k2 lo) hn;refine wpS_bind (ZcW hA h0 hT kn (Ye9 (Yfq mk lo) kn) ?_)
   cases e:O.blt (ka O (arrOf τ') (lo+k)) (ka O (arrOf τ') (lo+(l+r) / 2)) with
   | true=>
    simp only[if_true];exact wpS_pure ⟨rfl,l,(l+r) / 2,rfl,m1,Ya2 mk,Zo2 m1 m2 hx e2 e3,e4,fun i i1 i2=>KeyOrd.klt_of_klt_of_kle e (u _ _ i1 i2)⟩
   | false=>
    simp only[YaD,if_false];exact wpS_pure ⟨rfl,(l+r) / 2+1,r,rfl,m2,e2,Zo1 m1 m2 hx e2 e3,fun i i1=>YcN (u i ((l+r) / 2) (Nat.le_of_lt_succ i1) mk) e,e5⟩
  case fin2=>
   rintro c τ' ⟨rfl,l,rfl,e2,e4,e5⟩;dsimp only;rw[moveDown'_eq];have hks:lo+k<(arrOf τ').size:=by rw[hT.size];omega
   refine wpS_bind (wpS_modify (wpS_pure ⟨rfl,hT.put (bubble_perm _ _ _) (fun i hi=>?_),?_⟩))
   ·rw[getElem?_bubble hks _ (by omega),if_neg (by omega),if_neg (by omega)]
   ·intro i j hij hj;show O.kle (ka O (bubble (arrOf τ') (lo+k) (lo+k - (lo+l))) _) (ka O (bubble (arrOf τ') (lo+k) (lo+k - (lo+l))) _);rw[Zmc hks (by omega),Zmc hks (by omega),show lo+k - (lo+k - (lo+l))=lo+l by omega]
    repeat' split
    all_goals first
     | (exfalso;omega)
     | exact Ycf _
     | exact e4 _ (by omega)
     | (rw[show lo+j - 1=lo+(j - 1) by omega];exact Ycj (e5 _ (by omega) (by omega)))
     | exact Ycj (e5 _ (by omega) (by omega))
     | (rw[show lo+i - 1=lo+(i - 1) by omega,show lo+j - 1=lo+(j - 1) by omega];exact u _ _ (by omega) (by omega))
     | (rw[show lo+j - 1=lo+(j - 1) by omega];exact u _ _ (by omega) (by omega))
     | exact u _ _ (by omega) (by omega)
def pos:Nat->List (List Keyed)->List (Nat × Nat)
 | _,[]=>[]
 | o,r::rs=>(o,r.length)::pos (o+r.length) rs
theorem ZbQ:∀ (o:Nat) (xs ys:List (List Keyed)),pos o (xs++ys)=pos o xs++pos (o+xs.flatten.length) ys
 | o,[],ys=>by simp[pos]
 | o,r::rs,ys=>by
  simp only[YcR,pos,ZbQ,Ya9,Yak];rw[Nat.add_assoc]
theorem ZcI:∀ (o:Nat) (xs:List (List Keyed)),(pos o xs).length=xs.length
 | _,[]=>rfl
 | o,r::rs=>by simp only[pos,YaU,ZcI]
def pr (p:Nat × Nat × Nat):Nat × Nat:=(p.1,p.2.1)
structure RI (O:KO) (knd:SortKind) (a₀:List Keyed) (runs:List (List Keyed)) (rest:List Keyed) (st:SortSt):Prop where
 arr:(arrOf st).toList=runs.flatten++rest
 perm:(arrOf st).toList.Perm a₀
 srt:∀ r∈runs,O.Srt r
 ne:∀ r∈runs,1<=r.length
 kind:kindOf st=knd
 failed:failedOf st=none
 pend:(pendingOf st).toList.map pr=pos 0 runs
theorem ZdC:∀ (l:List Keyed) (n sa:Nat) (xs:Array Keyed) (P M S:List Keyed),xs.toList=P++M++S->M.length=l.length->P.length=sa+n ->
  ((l.zipIdx n).foldl (fun a (q:Keyed × Nat)=>a.setIfInBounds (sa+q.2) q.1) xs).toList=P++l++S
 | [],n,sa,xs,P,M,S,e,h1,h2=>by
  have:M=[]:=Ydj.mp h1;subst this;simpa using e
 | x::l,n,sa,xs,P,[],S,e,h1,h2=>by cases h1
 | x::l,n,sa,xs,P,y::M,S,e,h1,h2=>by
  rw[YdX,Yeg];have q:=ZdC l (n+1) sa (xs.setIfInBounds (sa+n) x) (P++[x]) M S ?_ (by simpa using h1) (by simp;omega)
  ·rw[q];simp
  ·rw[Yek,e,<- h2];simp
theorem Zjs {α β:Type}{f:α->β}{l:List α}{X Z:List β}{x y:β} (h:l.map f=X++x::y::Z):∃ P p q S,l=P++p::q::S/\P.map f=X/\f p=x/\f q=y/\S.map f=Z:=by
 obtain⟨P,l2,e1,e2,e3⟩:=List.map_eq_append_iff.mp h;obtain⟨p,l3,e4,e5,e6⟩:=Yfc.mp e3;obtain⟨q,S,e7,e8,e9⟩:=Yfc.mp e6;exact⟨P,p,q,S,by rw[e1,e4,e7],e2,e5,e8,e9⟩
theorem ZcP {α:Type}{pre m post:List α}{l:List α}{i:Nat} (e:l=pre++m++post) (hi:i<m.length):l[pre.length+i]?=m[i]?:=by
 rw[e,YaN,YaI (by omega),Ydn,YaL hi]
theorem ZlY {xs:Array Keyed}{pre m post:List Keyed} (e:xs.toList=pre++m++post) (sm:O.Srt m):∀ p q x y,pre.length<=p->p<=q->q<pre.length+m.length->xs[p]?=some x->xs[q]?=some y->O.le x y:=by
 intro p q x y h1 h2 h3 e1 e2;have f1:=ZcP (i:=p - pre.length) e (by omega);have f2:=ZcP (i:=q - pre.length) e (by omega);rw[show pre.length+(p - pre.length)=p by omega,Yaf,e1] at f1;rw[show pre.length+(q - pre.length)=q by omega,Yaf,e2] at f2;exact Zcl sm (by omega) f1.symm f2.symm
theorem Zj2 {xs:Array Keyed}{P M S:List Keyed}{i j:Nat} (e:xs.toList=P++M++S) (hi:i=P.length) (hj:j=P.length+M.length):(xs.extract i j).toList=M:=by
 rw[ZeH,e,hi,hj,YaN,List.drop_left,Ydn,YeE]
theorem srt3 {x y z:List Keyed} (hx:O.Srt x) (hy:O.Srt y) (hz:O.Srt z) (xy:∀ p∈x,∀ q∈y,O.le p q) (yz:∀ p∈y,∀ q∈z,O.le p q) (xz:∀ p∈x,∀ q∈z,O.le p q):O.Srt (x++y++z):=by
 refine YaR.mpr ⟨YaR.mpr ⟨hx,hy,xy⟩,hz,fun p hp q hq=>?_⟩;rcases Yaj.mp hp with hp | hp
 ·exact xz p hp q hq
 ·exact yz p hp q hq
theorem Zmp {M:Model}{σ:Type}{x y:σ}{Q:PUnit->σ->Prop} (h:Q ⟨⟩ x):wpS M A E s (set x:StateT σ Sem PUnit) Q y:=by
 unfold wpS;rw[StateT.run_set];exact wpAny_pure ⟨rfl,h⟩
theorem Zb4 {a₀ rest:List Keyed}{R1 R2:List (List Keyed)}{a b:List Keyed}{i:Nat}{Q:Bool->SortSt->Prop} (hA:Asks prog w A s O knd ok) (h0:∀ x∈a₀,ok x) (hR:RI O knd a₀ (R1++a::b::R2) rest st) (hi:R1.length=i)
  (h:∀ m τ,m.Perm (a++b)->RI O knd a₀ (R1++m::R2) rest τ->Q true τ):wpS (model prog w) A E s (mergeAt' i) Q st:=by
 have hp:=hR.pend;rw[ZbQ] at hp;obtain⟨P,p,q,S,ep,e1,e2,e3,e4⟩:=Zjs hp;obtain⟨p1,p2,w1⟩:=p;obtain⟨q1,q2,w2⟩:=q;simp only[pr,Prod.mk.injEq,YbF] at e2 e3;obtain⟨rfl,rfl⟩:=e2;obtain⟨rfl,rfl⟩:=e3;have hP:P.length=i:=by rw[<- hi,<- ZcI 0 R1,<- e1,Yac]
 have g1:(pendingOf st)[i]?=some (R1.flatten.length,a.length,w1):=by
  rw[<- Yaf,ep,YaI (by omega),hP,Nat.sub_self];rfl
 have g2:(pendingOf st)[i+1]?=some (R1.flatten.length+a.length,b.length,w2):=by
  rw[<- Yaf,ep,YaI (by omega),hP,Ydn];rfl
 have ea:(arrOf st).toList=R1.flatten++a++(b++(R2.flatten++rest)):=by
  rw[hR.arr];simp
 have eb:(arrOf st).toList=(R1.flatten++a)++b++(R2.flatten++rest):=by
  rw[hR.arr];simp
 have sa:O.Srt a:=hR.srt a (by simp);have sb:O.Srt b:=hR.srt b (by simp);have la:1<=a.length:=hR.ne a (by simp);have lb:1<=b.length:=hR.ne b (by simp);have oks:∀ x∈(arrOf st).toList,ok x:=fun x hx=>h0 x (hR.perm.mem_iff.mp hx);have oka:∀ x∈a,ok x:=fun x hx=>oks x (by rw[ea];simp[hx]);have okb:∀ x∈b,ok x:=fun x hx=>oks x (by rw[eb];simp[hx]);have fin:∀ (τ:SortSt) (m:List Keyed),m.Perm (a++b)->O.Srt m->(arrOf τ).toList=R1.flatten++m++(R2.flatten++rest)->kindOf τ=knd->failedOf τ=none->(pendingOf τ).toList=P++(R1.flatten.length,a.length+b.length,w1)::S->Q true τ:=by
  intro τ m pm sm em k1 k2 k3;have lm:m.length=a.length+b.length:=by rw[pm.length_eq,Yak]
  refine h m τ pm ⟨by rw[em];simp,?_,?_,?_,k1,k2,?_⟩
  ·refine YdO ?_ hR.perm;rw[em,ea];have:=Ycc R1.flatten (Ydc (R2.flatten++rest) pm);simpa using this
  ·intro r hr;rcases Yaj.mp hr with hr | hr
   ·exact hR.srt r (Ya0 _ hr)
   ·rcases Yao.mp hr with hr | hr
    ·rw[hr];exact sm
    ·exact hR.srt r (by simp[hr])
  ·intro r hr;rcases Yaj.mp hr with hr | hr
   ·exact hR.ne r (Ya0 _ hr)
   ·rcases Yao.mp hr with hr | hr
    ·rw[hr];omega
    ·exact hR.ne r (by simp[hr])
  ·rw[k3,ZbQ,Yay,e1,YaH,e4,YbF];simp only[pos,pr,lm,Nat.add_assoc]
 have new:(((pendingOf st).setIfInBounds i (R1.flatten.length,a.length+b.length,w1)).eraseIdxIfInBounds (i+1)).toList=P++(R1.flatten.length,a.length+b.length,w1)::S:=by
  rw[Array.toList_eraseIdxIfInBounds,Yek,ep,<- hP];simp[List.eraseIdx_append_of_length_le]
 refine wpS_bind (wpS_get ?_);rw[show (pendingOf st)[i]?=_ from g1,show (pendingOf st)[i+1]?=_ from g2];dsimp only;refine wpS_bind (Zmp ?_);have eb0:(arrOf st).toList[(R1.flatten++a).length+0]?=b[0]?:=ZcP eb (by omega);have hb0:b[0]?=some b[0]:=Yaa lb;have eb1:(arrOf st)[R1.flatten.length+a.length]?=some b[0]:=by
  rw[<- Yaf,<- hb0,<- eb0,Yak,Ydz]
 have mb0:b[0]∈b:=Ybw _;refine wpS_bind (Zat eb1 ?_);have hlen:(arrOf st).size=R1.flatten.length+a.length+b.length+(R2.flatten++rest).length:=by
  rw[<- Yax,eb];simp only[Yak]
 refine wpS_bind (Zb5 hA hR.kind (okb _ mb0) oks (show R1.flatten.length+a.length<=(arrOf st).size by omega) (ZlY ea sa) (by omega) fun k hk1 u1 u2=>?_);have ka1:∀ z∈a.take k,O.le z b[0]:=by
  intro z hz;obtain⟨j,hj,e⟩:=ZaY hz;refine u1 j z hj ?_;rw[<- Yaf,ZcP ea (by omega)];exact e
 have ka2:∀ z∈a.drop k,O.blt (O.ky b[0]) (O.ky z)=true:=by
  intro z hz;obtain⟨j,hj,e⟩:=ZaZ hz;have hj2:j<a.length:=(Yad.mp e).1
  refine u2 j z hj hj2 ?_;rw[<- Yaf,ZcP ea hj2];exact e
 have bb:∀ z∈b,O.le b[0] z:=fun z hz=>ZcK sb hb0 z (by simpa using hz);dsimp only;by_cases ck:a.length - k=0
 ·rw[if_pos (by simpa using ck)];have ek:a.take k=a:=Ybn (by omega);rw[ek] at ka1;refine wpS_pure (fin _ (a++b) (Ycn _) (YaR.mpr ⟨sa,sb,fun x hx y hy=>KO.le_trans (ka1 x hx) (bb y hy)⟩) ?_ hR.kind hR.failed new);show (arrOf st).toList=_;rw[ea];simp
 rw[if_neg (by simpa using ck)];have hla:a[a.length - 1]?=some a[a.length - 1]:=Yaa (by omega);have mla:a[a.length - 1]∈a:=Ybw _;have mla2:a[a.length - 1]∈a.drop k:=by
  refine Yb0.mpr ⟨a.length - 1 - k,?_⟩;rw[Yc6,show k+(a.length - 1 - k)=a.length - 1 by omega];exact hla
 have ela:(arrOf st)[R1.flatten.length+k+(a.length - k) - 1]?=some a[a.length - 1]:=by
  rw[<- Yaf,show R1.flatten.length+k+(a.length - k) - 1=R1.flatten.length+(a.length - 1) by omega,ZcP ea (by omega)];exact hla
 refine wpS_bind (Zat ela ?_);refine wpS_bind (Zbj hA hR.kind (oka _ mla) oks (show R1.flatten.length+a.length+b.length<=(arrOf st).size by omega) (by rw[<- Yak];exact ZlY eb sb) (by omega) fun n hn1 v1 v2=>?_);have kb1:∀ z∈b.take n,O.blt (O.ky z) (O.ky a[a.length - 1])=true:=by
  intro z hz;obtain⟨j,hj,e⟩:=ZaY hz;refine v1 j z hj ?_;rw[<- Yaf,<- Yak,ZcP eb (by omega)];exact e
 have kb2:∀ z∈b.drop n,O.le a[a.length - 1] z:=by
  intro z hz;obtain⟨j,hj,e⟩:=ZaZ hz;have hj2:j<b.length:=(Yad.mp e).1
  refine v2 j z hj hj2 ?_;rw[<- Yaf,<- Yak,ZcP eb hj2];exact e
 have hn0:1<=n:=by
  rcases YdN n with z | z
  ·subst z;have q1:=ka2 _ mla2;rw[show O.blt (O.ky b[0]) (O.ky a[a.length - 1])=false from kb2 b[0] (by simpa using mb0)] at q1;cases q1
  ·exact z
 have aa:∀ z∈a,O.le z a[a.length - 1]:=fun z hz=>ZjD sa hla z (by rw[show a.length - 1+1=a.length by omega,YaO];exact hz);dsimp only;rw[if_neg (by simp;omega)];have exx:((arrOf st).extract (R1.flatten.length+k) (R1.flatten.length+a.length)).toList=a.drop k :=
  Zj2 (P:=R1.flatten++a.take k) (S:=b++(R2.flatten++rest)) (by rw[ea];simp[<- YaN];simp[YaN,YaM]) (by simp;omega) (by simp;omega)
 have exy:((arrOf st).extract (R1.flatten.length+a.length) (R1.flatten.length+a.length+n)).toList=b.take n :=
  Zj2 (P:=R1.flatten++a) (S:=b.drop n++(R2.flatten++rest)) (by rw[eb];simp only[YaN];rw[<- YaN (b.take n),YaM]) (by simp) (by simp;omega)
 have sx:O.Srt (a.drop k):=sa.drop;have sy:O.Srt (b.take n):=sb.take;have after:∀ (r:Array Keyed) (τ:SortSt),Gal (YdJ (kindOf st) (arrOf st) (((pendingOf st).setIfInBounds i (R1.flatten.length,a.length+b.length,w1)).eraseIdxIfInBounds (i+1)) (gallopOf st) (failedOf st)) τ->Mg O (a.drop k) (b.take n) r.toList ->
   Q true (YdJ (kindOf τ) (r.toList.zipIdx.foldl (fun a (q:Keyed × Nat)=>a.setIfInBounds (R1.flatten.length+k+q.2) q.1) (arrOf τ)) (pendingOf τ) (gallopOf τ) (failedOf τ)):=by
  intro r τ hG hM;have mem:∀ z∈r.toList,z∈a.drop k∨z∈b.take n:=fun z hz=>Yaj.mp (hM.1.mem_iff.mp hz);refine fin _ (a.take k++r.toList++b.drop n) ?_ (srt3 sa.take hM.2 sb.drop (fun p hp q hq=>?_) (fun p hp q hq=>?_) fun p hp q hq=>?_) ?_ (hG.1.trans hR.kind) (hG.2.2.2.trans hR.failed) (by rw[show pendingOf τ=_ from hG.2.2.1];exact new)
  ·have p1:(a.take k++r.toList++b.drop n).Perm (a.take k++(a.drop k++b.take n)++b.drop n):=Ydc _ (Ycc _ hM.1);refine p1.trans (YdP ?_);rw[<- YaN,YaM,YaN,YaM]
  ·rcases mem q hq with m | m
   ·refine (YaR.mp (show O.Srt (a.take k++a.drop k) from by rw[YaM];exact sa)).2.2 p hp q m
   ·exact KO.le_trans (ka1 p hp) (bb q (Ybt m))
  ·rcases mem p hp with m | m
   ·exact KO.le_trans (aa p (Ybz m)) (kb2 q hq)
   ·refine (YaR.mp (show O.Srt (b.take n++b.drop n) from by rw[YaM];exact sb)).2.2 p m q hq
  ·exact KO.le_trans (ka1 p hp) (bb q (Ybz hq))
  ·show (YeL _ (arrOf τ) _).toList=_;rw[show arrOf τ=arrOf st from hG.2.1];have:=ZdC r.toList 0 (R1.flatten.length+k) (arrOf st) (R1.flatten++a.take k) (a.drop k++b.take n) (b.drop n++(R2.flatten++rest)) ?_ (by rw[hM.1.length_eq]) (by simp;omega)
   ·rw[this];simp
   ·rw[eb];simp only[YaN];rw[<- YaN (a.take k),YaM,<- YaN (b.take n),YaM]
 have xsz:((arrOf st).extract (R1.flatten.length+k) (R1.flatten.length+a.length)).size=a.length - k:=by
  rw[<- Yax,exx,Ybp]
 have ysz:((arrOf st).extract (R1.flatten.length+a.length) (R1.flatten.length+a.length+n)).size=n:=by
  rw[<- Yax,exy,Yaz];omega
 have y0:∀ y,((arrOf st).extract (R1.flatten.length+a.length) (R1.flatten.length+a.length+n))[0]?=some y->y=b[0]:=by
  intro y e;rw[<- Yaf,exy,Yb8 (by omega),hb0] at e;exact (YaE e).symm
 have xl:∀ z,((arrOf st).extract (R1.flatten.length+k) (R1.flatten.length+a.length))[((arrOf st).extract (R1.flatten.length+k) (R1.flatten.length+a.length)).size - 1]?=some z->z=a[a.length - 1]:=by
  intro z e;rw[xsz,<- Yaf,exx,Yc6,show k+(a.length - k - 1)=a.length - 1 by omega,hla] at e;exact (YaE e).symm
 have hx1:1<=((arrOf st).extract (R1.flatten.length+k) (R1.flatten.length+a.length)).size:=by rw[xsz];omega
 have hy1:1<=((arrOf st).extract (R1.flatten.length+a.length) (R1.flatten.length+a.length+n)).size:=by rw[ysz];omega
 refine ZaE (fun _=>?_) (fun _=>?_)
 ·refine wpS_bind (ZfO hA hR.kind (by rw[exx];exact fun x hx=>oka x (Ybz hx)) (by rw[exy];exact fun x hx=>okb x (Ybt hx)) (by rw[exx];exact sx) (by rw[exy];exact sy) hx1 hy1 ?_ ?_ ?_)
  ·intro y e x hx;rw[y0 y e];rw[exx] at hx;exact KO.le_of_lt (ka2 x hx)
  ·intro z e y hy;rw[xl z e];rw[exy] at hy;exact kb1 y hy
  ·intro r τ hG hM;rw[exx,exy] at hM;refine wpS_bind (wpS_modify (wpS_bind (wpS_get ?_)));have e9:failedOf τ=none:=hG.2.2.2.trans hR.failed;refine wpS_pure ?_;show Q (failedOf τ).isNone _;rw[e9];exact after r τ hG hM
 ·refine wpS_bind (ZfP hA hR.kind (by rw[exx];exact fun x hx=>oka x (Ybz hx)) (by rw[exy];exact fun x hx=>okb x (Ybt hx)) (by rw[exx];exact sx) (by rw[exy];exact sy) hx1 hy1 ?_ ?_ ?_)
  ·intro y e x hx;rw[y0 y e];rw[exx] at hx;exact ka2 x hx
  ·intro z e y hy;rw[xl z e];rw[exy] at hy;exact KO.le_of_lt (kb1 y hy)
  ·intro r τ hG hM;rw[exx,exy] at hM;refine wpS_bind (wpS_modify (wpS_bind (wpS_get ?_)));have e9:failedOf τ=none:=hG.2.2.2.trans hR.failed;refine wpS_pure ?_;show Q (failedOf τ).isNone _;rw[e9];exact after r τ hG hM
end
end L2
namespace L2
open PySem PyProof.Rows
section
variable {prog:Program}{w:World}{A:Around}{E:Value->Shared->Prop}{s:Shared}{O:KO}{knd:SortKind}{ok:Keyed->Prop}{st τ:SortSt}
theorem Znl {c:Prop} [Decidable c] {a b n:Nat} (h1:a<=n) (h2:b<=n):(if c then a else b)<=n:=by split <;> assumption
theorem Zcj {α:Type}:∀ {l:List α}{i:Nat},i+1<l.length->∃ R1 a b R2,l=R1++a::b::R2/\R1.length=i
 | [],_,h=>by simp at h
 | [_],_,h=>by simp at h
 | a::b::l,0,_=>⟨[],a,b,l,rfl,rfl⟩
 | a::b::l,i+1,h=>by
  obtain⟨R1,x,y,R2,e,q⟩:=Zcj (l:=b::l) (i:=i) (by simpa using h);exact⟨a::R1,x,y,R2,by rw[e];rfl,by simp[q]⟩
theorem RI.len {a₀ rest:List Keyed}{runs:List (List Keyed)} (h:RI O knd a₀ runs rest st):(pendingOf st).size=runs.length:=by
 rw[<- Yax,<- ZcI 0 runs,<- h.pend,Yac]
theorem RI.size {a₀ rest:List Keyed}{runs:List (List Keyed)} (h:RI O knd a₀ runs rest st):(arrOf st).size=runs.flatten.length+rest.length:=by
 rw[<- Yax,h.arr,Yak]
theorem RI.size0 {a₀ rest:List Keyed}{runs:List (List Keyed)} (h:RI O knd a₀ runs rest st):(arrOf st).size=a₀.length:=by
 rw[<- Yax,h.perm.length_eq]
theorem ZiI:∀ {runs:List (List Keyed)},(∀ r∈runs,1<=r.length)->runs.length<=runs.flatten.length
 | [],_=>by simp
 | r::rs,h=>by
  have q:=ZiI (runs:=rs) fun x hx=>h x (by simp[hx]);have:=h r (by simp);simp only[YaU,Ya9,Yak];omega
theorem Zov {a₀ rest:List Keyed}{runs:List (List Keyed)}{n:Nat} (h:RI O knd a₀ runs rest st) (hF:FB knd (arrOf st) (pendingOf st) runs.flatten.length τ) (hu:Up O runs.flatten.length n (arrOf τ)) (hn:n<=rest.length) :
  ∃ r rest',r.length=n/\O.Srt r/\rest.length=n+rest'.length/\RI O knd a₀ runs (r++rest') τ:=by
 have hpm:=Yel.mp hF.perm;have hsz:(arrOf τ).size=runs.flatten.length+rest.length:=by rw[hF.size,h.size]
 have e1:(arrOf τ).toList.take runs.flatten.length=runs.flatten:=by
  have:(arrOf τ).toList.take runs.flatten.length=(arrOf st).toList.take runs.flatten.length:=by
   apply Ydg;intro i;rcases Ybl i runs.flatten.length with hi | hi
   ·rw[Yb8 hi,Yb8 hi,Yaf,Yaf];exact hF.keep i hi
   ·rw[Yb1 (by rw[Yaz];omega),Yb1 (by rw[Yaz];omega)]
  rw[this,h.arr,YeE]
 have e2:(arrOf τ).toList=runs.flatten++(arrOf τ).toList.drop runs.flatten.length:=by
  conv=>lhs;rw[<- YaM runs.flatten.length (arrOf τ).toList,e1]
 have lr:((arrOf τ).toList.drop runs.flatten.length).length=rest.length:=by
  rw[Ybp,Yax];omega
 refine⟨((arrOf τ).toList.drop runs.flatten.length).take n,((arrOf τ).toList.drop runs.flatten.length).drop n,by rw[Yaz];omega,?_,by rw[Ybp];omega,⟨by rw[YaM];exact e2,hpm.trans h.perm,h.srt,h.ne,hF.kind,hF.failed,by rw[hF.pend];exact h.pend⟩⟩;refine Yc9.mpr fun i j hi hj hij=>?_;rw[Yaz] at hi hj;have q:=hu i j (by omega) (by omega);rw[YcL,YcL,Yde,Yde];have g:∀ k (hk:runs.flatten.length+k<(arrOf τ).toList.length),ka O (arrOf τ) (runs.flatten.length+k)=O.ky ((arrOf τ).toList[runs.flatten.length+k]):=by
  intro k hk;unfold ka;rw[<- Yaf,Yaa hk];rfl
 have hlt:(arrOf τ).toList.length=runs.flatten.length+rest.length:=by rw[Yax];exact hsz
 rw[g i (by omega),g j (by omega)] at q;exact q
theorem RI.push {a₀ rest r:List Keyed}{runs:List (List Keyed)}{lo n:Nat} (h:RI O knd a₀ runs (r++rest) st) (hs:O.Srt r) (hr:r.length=n) (hn:1<=n) (hl:lo=runs.flatten.length):RI O knd a₀ (runs++[r]) rest (setPending st ((pendingOf st).push (lo,n,0))):=by
 refine⟨?_,h.perm,?_,?_,h.kind,h.failed,?_⟩
 ·show (arrOf st).toList=_;rw[h.arr];simp
 ·intro x hx;rcases Yaj.mp hx with hx | hx
  ·exact h.srt x hx
  ·rw[YaF.mp hx];exact hs
 ·intro x hx;rcases Yaj.mp hx with hx | hx
  ·exact h.ne x hx
  ·rw[YaF.mp hx];omega
 ·show ((pendingOf st).push (lo,n,0)).toList.map pr=_;rw[YcJ,Yay,h.pend,ZbQ,hl,<- hr];simp[pos,pr]
theorem RI.pow {a₀ rest:List Keyed}{runs:List (List Keyed)}{pw:Nat} (h:RI O knd a₀ runs rest st):RI O knd a₀ runs rest (setPending st ((pendingOf st).modify ((pendingOf st).size - 1) fun x=>(x.1,x.2.1,pw))):=by
 refine⟨h.arr,h.perm,h.srt,h.ne,h.kind,h.failed,?_⟩;show ((pendingOf st).modify _ _).toList.map pr=_;rw[<- h.pend];apply Ydg;intro i;rw[Yam,Yam,Yaf,Yaf,Array.getElem?_modify];split
 ·cases (pendingOf st)[i]? <;> rfl
 ·rfl
theorem ZfN {a₀:Array Keyed}{Q:Unit->SortSt->Prop} (hA:Asks prog w A s O knd ok) (h0:∀ x∈a₀.toList,ok x) (ha:arrOf st=a₀) (hk:kindOf st=knd) (hf:failedOf st=none) (hp:pendingOf st=#[])
  (h:∀ τ,(arrOf τ).toList.Perm a₀.toList->failedOf τ=none->O.Srt (arrOf τ).toList->Q () τ):wpS (model prog w) A E s sortRuns' Q st:=by
 refine wpS_bind (wpS_get ?_);dsimp only;have hN:(arrOf st).size=a₀.size:=by rw[ha]
 have hN2:a₀.toList.length=a₀.size:=Yax;rw[hN];refine wpS_bind (wpS_mono (wpS_forRange
  (I:=fun x c τ=>∃ lo runs rest,c=((none:Option Unit),lo)/\RI O knd a₀.toList runs rest τ/\lo=runs.flatten.length/\(x<=lo))
  (Q:=fun c τ=>∃ lo runs,c=((none:Option Unit),lo)/\RI O knd a₀.toList runs [] τ) ?go ?out ⟨0,[],a₀.toList,rfl,⟨by rw[ha];simp,by rw[ha],(fun r hr=>nomatch hr),(fun r hr=>nomatch hr),hk,hf,by rw[hp];rfl⟩,rfl,Yag 0⟩) ?fin)
 case out=>
  rintro c τ ⟨lo,runs,rest,rfl,hR,e1,e2⟩;have q1:=hR.size;have q2:=hR.size0;have q3:=hN2;have:rest=[]:=Ydj.mp (by
   have q4:max 0 a₀.size<=lo:=e2;omega)
  subst this;exact⟨lo,runs,rfl,hR⟩
 case fin=>
  rintro c τ ⟨lo,runs,rfl,hR⟩;dsimp only;have q1:=hR.size;have q2:=ZiI hR.ne;have q3:=hN2;have q4:=hR.size0;refine wpS_bind (wpS_mono (wpS_forRange (I:=fun x c τ'=>c=((none:Option Unit),())/\∃ runs',RI O knd a₀.toList runs' [] τ'/\runs'.length+x<=a₀.size)
   (Q:=fun c τ'=>c=((none:Option Unit),())/\∃ runs',RI O knd a₀.toList runs' [] τ'/\runs'.length<=1) ?g2 ?o2 ⟨rfl,runs,hR,by simp only[Ydw] at q1;omega⟩) ?f2)
  case o2=>
   rintro c τ' ⟨hc,runs',hR',e⟩;have e:runs'.length+max 0 a₀.size<=a₀.size:=e;exact⟨hc,runs',hR',by omega⟩
  case f2=>
   rintro c τ' ⟨rfl,runs',hR',e⟩;refine wpS_pure (h τ' hR'.perm hR'.failed ?_);rw[hR'.arr,YbI]
   match runs',e,hR' with
   | [],_,_=>exact YbM
   | [r],_,hR'=>simpa using hR'.srt r (by simp)
  case g2=>
   rintro x c τ' _ _ ⟨rfl,runs',hR',e⟩;refine wpS_bind (wpS_get ?_);by_cases c1:(pendingOf τ').size<=1
   ·rw[if_pos c1];exact wpS_pure ⟨rfl,runs',hR',by rw[<- hR'.len];exact c1⟩
   rw[if_neg c1];have key:∀ j,j<=(pendingOf τ').size - 2->wpS (model prog w) A E s (mergeAt' j) (fun b τ3=>b=true/\∃ runs',RI O knd a₀.toList runs' [] τ3/\runs'.length+(x+1)<=a₀.size) τ':=by
    intro j hj;obtain⟨R1,a,b,R2,e3,e4⟩:=Zcj (l:=runs') (i:=j) (by rw[<- hR'.len];omega);subst e3;refine Zb4 hA h0 hR' e4 fun m τ3 pm hR3=>⟨rfl,_,hR3,?_⟩
    simp only[Yak,YaU] at e ⊢;omega
   refine wpS_bind (wpS_mono (key _ ?_) ?_)
   ·have:=hR'.len;rw[show (pendingOf τ').size=runs'.length from this];exact Znl (by omega) (by omega)
   ·rintro b τ3 ⟨rfl,runs3,hR3,e3⟩;simp only[Yb2,YaD,if_false];exact wpS_pure ⟨rfl,runs3,hR3,e3⟩
 case go=>
  rintro x c τ _ hx ⟨lo,runs,rest,rfl,hR,e1,e2⟩;have q1:=hR.size;have q2:=hR.size0;have q3:=hN2;dsimp only;by_cases c0:lo ≥ a₀.size
  ·rw[if_pos c0];have:rest=[]:=Ydj.mp (by omega);subst this;exact wpS_pure ⟨lo,runs,rfl,hR⟩
  rw[if_neg c0];have oks:∀ x∈(arrOf τ).toList,ok x:=fun x hx=>h0 x (hR.perm.mem_iff.mp hx);refine wpS_bind (Zmq (b₀:=arrOf τ) (p₀:=pendingOf τ) (lo:=lo) hA oks ⟨Array.Perm.refl _,fun _ _=>rfl,hR.kind,hR.failed,rfl⟩ (by omega) (by omega) fun m τ1 hF m1 m2 u=>?_);dsimp only;refine ZaE (fun cm=>?_) (fun cm=>?_)
  ·refine wpS_bind (wpS_lift (wpAny_rule ⟨rfl,?_⟩));refine wpS_bind (Zmr hA oks hF (by omega) m1 (by omega) u fun τ2 hF2 u2=>?_);simp only[Yb2,YaD,if_false];rw[e1] at hF2 u2;obtain⟨r,rest',hr,hs,hl,hR2⟩:=Zov hR hF2 u2 (by omega);rw[<- e1] at hr;have h1n:1<=r.length:=by omega
   rw[hr] at h1n;refine wpS_bind (wpS_get ?_)
   cases eb:(pendingOf τ2).back? with
   | none=>
    dsimp only;exact wpS_bind (wpS_modify (wpS_pure ⟨_,runs++[r],rest',rfl,hR2.push hs hr h1n e1,by simp[hr,e1],by omega⟩))
   | some p=>
    obtain⟨s1,n1,w1⟩:=p;dsimp only;refine wpS_bind (wpS_mono (wpS_forRange (I:=fun _ c τ'=>c=((none:Option Unit),())/\∃ runs',RI O knd a₀.toList runs' (r++rest') τ'/\runs'.flatten.length=lo)
     (Q:=fun c τ'=>c=((none:Option Unit),())/\∃ runs',RI O knd a₀.toList runs' (r++rest') τ'/\runs'.flatten.length=lo) ?g2 (fun _ _ z=>z) ⟨rfl,runs,hR2,e1.symm⟩) ?f2)
    case f2=>
     rintro c τ' ⟨rfl,runs',hR',e⟩;exact wpS_bind (wpS_modify (wpS_bind (wpS_modify (wpS_pure ⟨_,runs'++[r],rest',rfl,hR'.pow.push hs hr h1n e.symm,by simp[hr,e],by omega⟩))))
    case g2=>
     rintro y c τ' _ _ ⟨rfl,runs',hR',e⟩;refine wpS_bind (wpS_get ?_);by_cases c1:(pendingOf τ').size > 1
     ·rw[if_pos c1]
      cases ep:(pendingOf τ')[(pendingOf τ').size - 2]? with
      | none=>exact wpS_pure ⟨rfl,runs',hR',e⟩
      | some p=>
       obtain⟨s3,n3,w3⟩:=p;dsimp only;refine ZaE (fun _=>wpS_pure ⟨rfl,runs',hR',e⟩) (fun _=>?_);obtain⟨R1,a,b,R2,e3,e4⟩:=Zcj (l:=runs') (i:=(pendingOf τ').size - 2) (by rw[<- hR'.len];omega);subst e3;refine wpS_bind (Zb4 hA h0 hR' e4 fun m τ3 pm hR3=>?_);simp only[Yb2,YaD,if_false];refine wpS_pure ⟨rfl,_,hR3,?_⟩;rw[<- e];have:=pm.length_eq;simp only[Ycz,Ya9,Yak] at this ⊢;omega
     ·rw[if_neg c1];exact wpS_pure ⟨rfl,runs',hR',e⟩
  ·rw[e1] at hF u;obtain⟨r,rest',hr,hs,hl,hR2⟩:=Zov hR hF u (by omega);have h1n:1<=m:=m1;refine wpS_bind (wpS_get ?_)
   cases eb:(pendingOf τ1).back? with
   | none=>
    dsimp only;exact wpS_bind (wpS_modify (wpS_pure ⟨_,runs++[r],rest',rfl,hR2.push hs hr h1n e1,by simp[hr,e1],by omega⟩))
   | some p=>
    obtain⟨s1,n1,w1⟩:=p;dsimp only;refine wpS_bind (wpS_mono (wpS_forRange (I:=fun _ c τ'=>c=((none:Option Unit),())/\∃ runs',RI O knd a₀.toList runs' (r++rest') τ'/\runs'.flatten.length=lo)
     (Q:=fun c τ'=>c=((none:Option Unit),())/\∃ runs',RI O knd a₀.toList runs' (r++rest') τ'/\runs'.flatten.length=lo) ?g2 (fun _ _ z=>z) ⟨rfl,runs,hR2,e1.symm⟩) ?f2)
    case f2=>
     rintro c τ' ⟨rfl,runs',hR',e⟩;exact wpS_bind (wpS_modify (wpS_bind (wpS_modify (wpS_pure ⟨_,runs'++[r],rest',rfl,hR'.pow.push hs hr h1n e.symm,by simp[hr,e],by omega⟩))))
    case g2=>
     rintro y c τ' _ _ ⟨rfl,runs',hR',e⟩;refine wpS_bind (wpS_get ?_);by_cases c1:(pendingOf τ').size > 1
     ·rw[if_pos c1]
      cases ep:(pendingOf τ')[(pendingOf τ').size - 2]? with
      | none=>exact wpS_pure ⟨rfl,runs',hR',e⟩
      | some p=>
       obtain⟨s3,n3,w3⟩:=p;dsimp only;refine ZaE (fun _=>wpS_pure ⟨rfl,runs',hR',e⟩) (fun _=>?_);obtain⟨R1,a,b,R2,e3,e4⟩:=Zcj (l:=runs') (i:=(pendingOf τ').size - 2) (by rw[<- hR'.len];omega);subst e3;refine wpS_bind (Zb4 hA h0 hR' e4 fun m τ3 pm hR3=>?_);simp only[Yb2,YaD,if_false];refine wpS_pure ⟨rfl,_,hR3,?_⟩;rw[<- e];have:=pm.length_eq;simp only[Ycz,Ya9,Yak] at this ⊢;omega
     ·rw[if_neg c1];exact wpS_pure ⟨rfl,runs',hR',e⟩
end
end L2
namespace L2
open PySem PySem.Spec PyProof.Rows PySem.SeqAt
section
variable {prog:Program}{w:World}{A:Around}{E:Value->Shared->Prop}{s:Shared}
end
section
variable {X:Cx}
end
theorem Zh8 {b:Bool}{K:Yae}{own:List Str}{js:List Nat}{g:TG}{tt:TT}{te:TE}{σ:St}{H1:Hp}{Q:VK}{a:Addr}{xs:List V} (Pv:Addr->Nat->Hp->Prop) (h0:∀ acc,H1 acc=none->Pv acc 0 (upd H1 acc (.lst []))) (hl:∀ acc i H,H1 acc=none->i<=xs.length->Pv acc i H->SqB b K H a xs)
  (hs:∀ acc i x p H,H1 acc=none->xs[i]?=some x->Pv acc i H->H p=none->g (.ref p) (blkσ own js σ) (upd H p (.tup [.int i,x])) fun τ H4=>tt τ H4 fun c H5=>
   if c=true then te τ H5 fun y H6=>∃ ys,H6 acc=some (.lst ys)/\ys.length<sizeLine/\(i+1<=xs.length/\Pv acc (i+1) (upd H6 acc (.lst (ys++[y])))) else (i+1<=xs.length/\Pv acc (i+1) H5))
  (hd:∀ acc H,H1 acc=none->Pv acc xs.length H->Q (.ref acc) H):Zbp own js g tt te σ (IteB b K a) H1 Q:=by
 intro acc hacc;refine⟨fun i H=>i<=xs.length/\Pv acc i H,xs.length,⟨YaW _,h0 acc hacc⟩,?_⟩;rintro i H ⟨hi,p⟩;have q:=hl acc i H hacc hi p;by_cases hlt:i<xs.length
 ·refine .inr ⟨hlt,by cases b <;> exact⟨xs,xs[i],q,by simp[hlt]⟩,fun x H' y=>?_⟩;have y:∃ pa z,H pa=none/\x=.ref pa/\H'=upd H pa (.tup [.int i,z])/\xs[i]?=some z:=by
   cases b with
   | true=>obtain⟨pa,z,hp,e1,e2,y⟩:=y;exact⟨pa,z,hp,e1,e2,y xs q⟩
   | false=>obtain⟨pa,z,hp,e1,e2,y⟩:=y;exact⟨pa,z,hp,e1,e2,y xs q⟩
  obtain⟨pa,z,hp,e1,e2,y'⟩:=y;subst e1 e2;exact hs acc i z pa H hacc y' p hp
 ·have e:i=xs.length:=by omega
  subst e;exact .inl ⟨by cases b <;> exact⟨xs,q,Yag _⟩,hd acc H hacc p⟩
end L2
namespace L2
open PySem PyProof.Rows
section
variable {prog:Program}{w:World}{A:Around}{E:Value->Shared->Prop}{s:Shared}{O:KO}{knd:SortKind}{ok:Keyed->Prop}
def Ord2 (O:KO) (b:Bool) (us:List Value):Prop:=us.Pairwise fun u v=>if b=true then O.le (v,v) (u,u) else O.le (u,u) (v,v)
theorem Zoc {vs:List Value}{out:List Keyed} (hp:out.Perm (vs.zip vs)) (hs:O.Srt out) (b:Bool):∃ us:List Value,(if b=true then (out.map (·.2)).reverse else out.map (·.2))=us/\us.Perm vs/\Ord2 O b us:=by
 have hm:∀ p∈out,p=(p.2,p.2):=fun p hp'=>by
  have:=(mem_zip_self (hp.mem_iff.mp hp')).1
  exact Prod.ext this rfl
 have p1:(out.map (·.2)).Perm vs:=by
  have:=hp.map (·.2)
  rwa [List.map_snd_zip (Yag _)] at this
 have s1:(out.map (·.2)).Pairwise fun u v=>O.le (u,u) (v,v):=by
  rw[Ya1];refine hs.imp_of_mem fun {x y} hx hy q=>?_;rw[hm x hx,hm y hy] at q;exact q
 cases b with
 | false=>exact⟨_,rfl,p1,by simpa[Ord2] using s1⟩
 | true=>exact⟨_,rfl,(YcK _).trans p1,by simp only[Ord2,if_true,Ydu];exact s1⟩
theorem ZiF {a:Addr}{vs:List Value}{n:Nat}{h:Heap} (ho:h.get? a=some (seqObj "list" vs.toArray n)) {b:Addr}{o:Obj} (hb:h.get? b=some o) (hne:b≠a):(((h.update a (YbY fun _=>#[])).push (seqObj "tuple" vs.toArray 0)).push (seqObj "list" #[] 0)).get? b=some o :=
 Yab _ (Yab _ (by rw[Yfk _ _ _ _ hne];exact hb))
theorem ZgJ {a:Addr}{vs:List Value}{n:Nat}{P:PySem.Fin->Shared->Prop} (ho:s.heap.get? a=some (seqObj "list" vs.toArray n)) (hz:vs.length<=sizeLine)
  (hkk:∀ h',(∀ b o,s.heap.get? b=some o->b≠a->h'.get? b=some o)->2<=vs.length->∀ Q:SortKind->Shared->Prop,Q knd { s with heap:=h' }->wpAny (model prog w) A (keyKind' vs.toArray) Q E { s with heap:=h' })
  (hA:∀ h',(∀ b o,s.heap.get? b=some o->b≠a->h'.get? b=some o)->Asks prog w A { s with heap:=h' } O knd ok) (hok:∀ v∈vs,ok (v,v))
  (h:∀ us:List Value,us.Perm vs->Ord2 O false us->P (.done (.ret .none)) { s with heap:=sortedHeap s.heap a vs us.toArray }):wpAny (model prog w) A (Builtin.«list.sort» ⟨[.ref a],[]⟩) P E s:=by
 have ha:a<s.heap.objs.size:=Yah ho;have keep:=fun (b:Addr) (o:Obj) (hb:s.heap.get? b=some o) (hne:b≠a)=>ZiF ho hb hne;obtain⟨e1,ho1⟩:∃ c,(s.heap.update a (YbY fun _=>#[])).get? a=some (seqObj "list" #[] c):=⟨_,get?_update_seq ho (fun _=>#[])⟩
 have ho6:=Yab (seqObj "list" #[] 0) (Yab (seqObj "tuple" vs.toArray 0) ho1);have hsv:vs.toArray.size=vs.length:=YaC;have hz1:vs.toArray.size<=sizeLine:=by rw[hsv];exact hz
 have fin:∀ (τ:SortSt),(arrOf τ).toList.Perm (vs.zip vs)->O.Srt (arrOf τ).toList->P (.done (.ret .none)) { s with heap:=sortedHeap s.heap a vs ((arrOf τ).map (·.2)) }:=by
  intro τ hp hs;obtain⟨us,e,p1,p2⟩:=Zoc hp hs false;have e2:(arrOf τ).map (·.2)=us.toArray:=by rw[<- e];apply Array.toList_inj.mp;simp
  rw[e2];exact h us p1 p2
 have osz:∀ τ:SortSt,(arrOf τ).toList.Perm (vs.zip vs)->((arrOf τ).map (·.2)).size<=sizeLine+1:=by
  intro τ hp;rw[Array.size_map,<- Yax,hp.length_eq,List.length_zip];omega
 rw[list_sort_plain];refine wpAny_bind (listItems_at ho rfl (wpAny_bind (listUpdate_at ho rfl ?_ hz1 (YaW _))));refine wpAny_bind (seqEpoch_at ho1 rfl (wpAny_bind (wpAny_newTuple ?_ hz)));refine wpAny_bind (wpAny_newList ?_ (YaW _));refine wpAny_holding ?_;show wpAny (model prog w) A _ P E ({ s with heap:=((s.heap.update a (YbY fun _=>#[])).push (seqObj "tuple" vs.toArray 0)).push (seqObj "list" #[] 0) }:Shared);dsimp only;by_cases h2:vs.toArray.size<2
 ·rw[if_pos h2,if_pos h2];refine wpAny_bind (wpAny_pure ?_);rw[StateT.run_pure];have hp0:(vs.toArray.zip vs.toArray).toList.Perm (vs.zip vs):=by simp
  refine wpAny_bind (wpAny_pure (wpAny_bind (seqEpoch_at ho6 rfl (wpAny_bind (listUpdate_at ho6 rfl ?_ (YaW _) (osz (YdJ general' (vs.toArray.zip vs.toArray) #[] 7 none) hp0))))));simp only[bne_self_eq_false,YaD,if_false];refine wpAny_pure (fin (YdJ general' (vs.toArray.zip vs.toArray) #[] 7 none) hp0 ?_);show O.Srt (vs.toArray.zip vs.toArray).toList;rw[show (vs.toArray.zip vs.toArray).toList=vs.zip vs by simp]
  match vs,h2 with
  | [],_=>exact YbM
  | [v],_=>exact YeN _ _
 ·rw[if_neg h2,if_neg h2];refine wpAny_bind (hkk _ keep (by omega) _ ?_);refine wpAny_bind (wpAny_mono (ZfN (a₀:=vs.toArray.zip vs.toArray) (st:=YdJ knd (vs.toArray.zip vs.toArray) #[] 7 none) (Q:=fun _ τ=>(arrOf τ).toList.Perm (vs.zip vs)/\failedOf τ=none/\O.Srt (arrOf τ).toList)
   (hA _ keep) (fun x hx=>?_) rfl rfl rfl rfl fun τ a1 a2 a3=>⟨by simpa using a1,a2,a3⟩) ?_ fun _ _ z=>z)
  ·have hx:x∈vs.zip vs:=by simpa using hx
   have q:=mem_zip_self hx;rw[show x=(x.1,x.1) from Prod.ext rfl q.1.symm];exact hok _ q.2
  ·rintro⟨⟨⟩,τ⟩ s' ⟨rfl,hp,hf,hs⟩;refine wpAny_bind (seqEpoch_at ho6 rfl (wpAny_bind (listUpdate_at ho6 rfl ?_ (YaW _) (osz τ hp))));dsimp only;rw[hf];simp only[bne_self_eq_false,YaD,if_false];exact wpAny_pure (fin τ hp hs)
theorem Zhz {l:Addr}{vs:List Value} (h:Heap):∀ b o,h.get? b=some o->(((h.push (seqObj "list" #[] 0)).update h.objs.size (YbY (·++vs.toArray))).push (seqObj "list" vs.toArray 0)).get? b=some o:=by
 intro b o q;have hlt:b<h.objs.size:=Yah q;refine Yab _ ?_;rw[Yfk _ _ _ _ (Yaw hlt)];exact Yab _ q
structure Sortable (prog:Program) (w:World) (s:Shared) (O:KO) (vs:List Value):Prop where
 ex:∃ (knd:SortKind) (ok:Keyed->Prop),(∀ v∈vs,ok (v,v))/\(∀ A h',(∀ b o,s.heap.get? b=some o->h'.get? b=some o)->Asks prog w A { s with heap:=h' } O knd ok) /\
  ∀ (A:Around) (E:Value->Shared->Prop) h',(∀ b o,s.heap.get? b=some o->h'.get? b=some o)->2<=vs.length->∀ Q:SortKind->Shared->Prop,Q knd { s with heap:=h' }->wpAny (model prog w) A (keyKind' vs.toArray) Q E { s with heap:=h' }
theorem Zf5 {l:Addr}{vs:List Value}{Q:Value->Shared->Prop} (hl:s.heap.IsList l vs.toArray) (hz:vs.length<=sizeLine) (hS:Sortable prog w s O vs)
  (h:∀ us:List Value,us.Perm vs->Ord2 O false us->Q (.ref (s.heap.objs.size+1)) { s with heap:=sortedAll s.heap vs us.toArray }):wpAny (model prog w) A (call (.builtin "sorted") [.ref l]) Q E s:=by
 obtain⟨knd,ok,h1,h2,h3⟩:=hS.ex;have zz:((s.heap.push (seqObj "list" #[] 0)).update s.heap.objs.size (YbY (·++vs.toArray))).objs.size=s.heap.objs.size+1:=by rw[Heap.size_update,size_push']
 have at1:(((s.heap.push (seqObj "list" #[] 0)).update s.heap.objs.size (YbY (·++vs.toArray))).push (seqObj "list" vs.toArray 0)).get? (s.heap.objs.size+1)=some (seqObj "list" vs.toArray 0):=by
  have:=Yas ((s.heap.push (seqObj "list" #[] 0)).update s.heap.objs.size (YbY (·++vs.toArray))) (o:=seqObj "list" vs.toArray 0) rfl
  rwa [zz] at this
 refine Yex kind_sorted plain_sorted entry_sorted (args_sorted1 _) ?_;unfold Builtin.«sorted»;refine wpAny_bind (m:=checkCount "sorted" 1 1 _) (wpAny_pure (wpAny_bind (collect_list hl (wpAny_bind (wpAny_newList ?_ hz)) hz)));show wpAny _ _ _ _ _ { s with heap:=((s.heap.push (seqObj "list" #[] 0)).update s.heap.objs.size (YbY (·++vs.toArray))).push (seqObj "list" vs.toArray 0) };rw[zz];have up:∀ h':Heap,(∀ b o,(((s.heap.push (seqObj "list" #[] 0)).update s.heap.objs.size (YbY (·++vs.toArray))).push (seqObj "list" vs.toArray 0)).get? b=some o->b≠s.heap.objs.size+1->h'.get? b=some o)->∀ b o,s.heap.get? b=some o->h'.get? b=some o:=fun h' k b o q=>
  k b o (Zhz (l:=l) s.heap b o q) (Yaw (Yby (Yah q)))
 exact wpAny_bind (wpAny_holding (wpAny_call_entry slot_list_sort ⟨_,at1,rfl⟩ entry_list_sort (ZgJ at1 hz (fun h' k hl2 Q' q=>h3 _ _ h' (up h' k) hl2 Q' q) (fun h' k=>h2 _ h' (up h' k)) h1 fun us p1 p2=>⟨_,rfl,wpAny_pure ⟨_,rfl,h us p1 p2⟩⟩) (args_list_sort _)))
def lxB:List Int->List Int->Bool
 | _,[]=>false
 | [],_::_=>true
 | a::as,b::bs=>if a=b then lxB as bs else decide (a<b)
theorem Zd3:∀ a,lxB a a=false
 | []=>rfl
 | a::as=>by rw[lxB,if_pos rfl];exact Zd3 as
theorem Zdd:∀ a b c,lxB a b=true->lxB b c=true->lxB a c=true
 | _,[],_,h,_=>by rw[lxB] at h;cases h
 | _,_::_,[],_,h=>by rw[lxB] at h;cases h
 | [],_::_,_::_,_,_=>rfl
 | a::as,b::bs,c::cs,h1,h2=>by
  rw[lxB] at h1 h2 ⊢;by_cases e1:a=b
  ·subst e1;rw[if_pos rfl] at h1;by_cases e2:a=c
   ·subst e2;rw[if_pos rfl] at h2 ⊢;exact Zdd as bs cs h1 h2
   ·rw[if_neg e2] at h2 ⊢;exact h2
  ·rw[if_neg e1] at h1;have h1:=of_decide_eq_true h1;by_cases e2:b=c
   ·subst e2;rw[if_neg e1];exact decide_eq_true h1
   ·rw[if_neg e2] at h2;have h2:=of_decide_eq_true h2;rw[if_neg (by omega)];exact decide_eq_true (by omega)
theorem Zde:∀ a b,lxB a b=false->lxB b a=false->a=b
 | [],[],_,_=>rfl
 | _::_,[],_,h=>by rw[lxB] at h;cases h
 | [],_::_,h,_=>by rw[lxB] at h;cases h
 | a::as,b::bs,h1,h2=>by
  rw[lxB] at h1 h2;by_cases e:a=b
  ·subst e;rw[if_pos rfl] at h1 h2;rw[Zde as bs h1 h2]
  ·rw[if_neg e] at h1;rw[if_neg (fun z=>e z.symm)] at h2;have h1:=of_decide_eq_false h1;have h2:=of_decide_eq_false h2;omega
theorem Zng (a b c:List Int) (h:lxB a c=true):lxB a b=true∨lxB b c=true:=by
 cases e1:lxB a b with
 | true=>exact .inl rfl
 | false=>
  right
  cases e2:lxB b a with
  | true=>exact Zdd b a c e2 h
  | false=>rw[<- Zde a b e1 e2];exact h
def KOt (ks:Addr->List Int):KO where
 α:=List Int
 blt:=lxB
 irrefl:=Zd3
 trans:=Zdd
 negTrans:=Zng
 total:=Zde
 ky p:=match p.1 with
  | .ref a=>ks a
  | _=>[]
theorem Zjz {b:Bool}{Q:Bool->Shared->Prop}{τ:Shared}{fin:Bool}:∀ {xs ys:List Int}{us vs:List Value}{i:Nat},IntsAre us xs->IntsAre vs ys->(Q (lxB xs ys) τ)->(fin=decide (xs.length<ys.length)) ->
  PySem.W.KatLex prog w A b fin Q (us.zip vs) i τ
 | [],[],_,_,i,.nil,.nil,q,e=>by
  rw[e];exact YdT q
 | [],y::ys,_,_,i,.nil,.cons _ _ _,q,e=>by
  rw[e];exact YdT (by simpa[lxB] using q)
 | x::xs,[],_,_,i,.cons _ _ _,.nil,q,e=>by
  rw[e];exact YdT (by simpa[lxB] using q)
 | x::xs,y::ys,_,_,i,.cons _ t h1,.cons _ u h2,q,e=>by
  rw[YdK];refine PySem.W.kat_cons (wpAny_eqBool_int ?_);rw[lxB] at q;by_cases c:x=y
  ·subst c;rw[if_pos rfl] at q;rw[show (x == x)=true by simp];exact PySem.W.kat_yes (Zjz h1 h2 q (by rw[e];simp))
  ·rw[if_neg c] at q;rw[show (x == y)=false by simpa using c];refine PySem.W.kat_no ?_
   cases b && i == 0 with
   | true=>exact oneLt_int q
   | false=>exact PySem.W.kat_one _ _ (PySem.P.lt_int q)
def TupI (h:Heap) (ks:Addr->List Int) (v:Value):Prop:=∃ a o its n,v=.ref a/\h.get? a=some o/\o.cls=.type "tuple"/\o.data=.seq its n/\IntsAre its.toList (ks a)/\ks a≠[]
theorem Zd5 {h:Heap}{ks:Addr->List Int}:∀ {vs:List Value},(∀ v∈vs,TupI h ks v)->∃ fs:List Value,fs.length=vs.length/\PySem.W.KatTups h vs fs/\∀ f∈fs,∃ n t,f=.int n t
 | [],_=>⟨[],rfl,PySem.W.KatTups.nil,fun f hf=>nomatch hf⟩
 | v::vs,hv=>by
  obtain⟨fs,e,k,q⟩:=Zd5 (vs:=vs) fun u hu=>hv u (Yar _ hu);obtain⟨a,o,its,n,rfl,ho,hc,hd,hI,hne⟩:=hv v (Yaq ..);obtain⟨l⟩:=its;have hI:IntsAre l (ks a):=hI
  revert hI hd
  generalize ks a=z at hne ⊢;intro hd hI
  cases hI with
  | nil=>exact absurd rfl hne
  | cons m t hI=>exact⟨.int m t::fs,by simp[e],PySem.W.KatTups.cons ho hc hd rfl k,fun f hf=>by
    rcases Yao.mp hf with z | z
    ·exact⟨m,t,z⟩
    ·exact q f z⟩
theorem Zcm {vs:List Value}{ks:Addr->List Int} (hT:∀ v∈vs,TupI s.heap ks v):Sortable prog w s (KOt ks) vs:=by
 refine⟨tuples' (YbV "int" != YbV "tuple"),(fun p=>TupI s.heap ks p.1),hT,fun A h' kp x y hx hy E Q q=>?_,fun A E h' kp h2 Q q=>?_⟩
 ·obtain⟨a,o,its,n,e1,ho,hc,hd,hI,hne⟩:=hx;obtain⟨b,o',its',n',e2,ho',hc',hd',hI',hne'⟩:=hy;have q:Q (lxB ((KOt ks).ky x) ((KOt ks).ky y)) { s with heap:=h' }:=q;have k1:(KOt ks).ky x=ks a:=by show (match x.1 with | .ref a=>ks a | _=>[])=_;rw[e1]
  have k2:(KOt ks).ky y=ks b:=by show (match y.1 with | .ref a=>ks a | _=>[])=_;rw[e2]
  rw[k1,k2] at q;rw[e1,e2];refine PySem.W.kat_lt (kp _ _ ho) hd (kp _ _ ho') hd' (Zjz hI hI' q ?_);rw[<- hI.nums,<- hI'.nums,Yac,Yac,Yax,Yax]
 ·obtain⟨fs,e,k,hi⟩:=Zd5 (h:=h') (ks:=ks) (vs:=vs) fun v hv=>by
   obtain⟨a,o,its,n,e1,ho,r⟩:=hT v hv;exact⟨a,o,its,n,e1,kp _ _ ho,r⟩
  refine PySem.W.kat_kind (T:=YbV "int") k (by omega) (fun v hv=>?_) rfl q;obtain⟨n,t,rfl⟩:=hi v hv;exact PySem.W.Looks.now
end
end L2
namespace L2
open PySem PySem.Spec PyProof.Rows PySem.SeqAt
section
variable {X:Cx}
theorem ZeW:∀ {ps:List Addr}{us:List Value},Vals (ps.map V.ref) us->us=ps.map YaK
 | [],_,.nil=>rfl
 | p::ps,_,.cons r t=>by
  have e:_=YaK p:=r;rw[ZeW t,e];rfl
theorem Zc8:∀ (ps:List Addr),Vals (ps.map V.ref) (ps.map YaK)
 | []=>.nil
 | p::ps=>.cons rfl (Zc8 ps)
def adr:Value->Addr
 | .ref a=>a
 | _=>0
theorem Zfa {ps:List Addr}{us:List Value} (h:us.Perm (ps.map YaK)):∃ qs:List Addr,us=qs.map YaK/\qs.Perm ps:=by
 refine⟨us.map adr,?_,?_⟩
 ·rw[Ych];refine (Yee us).symm.trans (YbR fun v hv=>?_);obtain⟨p,_,e⟩:=YaG.mp (h.mem_iff.mp hv);rw[<- e];rfl
 ·have:=h.map adr
  rwa [Ych,show (adr ∘ YaK)=id from rfl,Yee] at this
theorem Zdq:ZbK X (.builtin "sorted") (fun xs H Q=>∃ (a:Addr) (ps:List Addr) (ks:Addr->List Int),xs=[.ref a]/\SqL X.K H a (ps.map V.ref)/\(∀ p∈ps,ks p≠[]/\H p=some (.tup ((ks p).map V.int)))/\∀ (l:Addr) (qs:List Addr),H l=none->qs.Perm ps->qs.Pairwise (fun p q=>lxB (ks q) (ks p)=false)->Q (.ref l) (upd H l (.lst (qs.map V.ref)))):=by
 intro pins s σ H xs us Q I r h;obtain⟨a,ps,ks,rfl,hq,ht,q⟩:=h;obtain⟨u,rfl,r1⟩:=ZcR r;cases r1;obtain⟨its,rv,p,hz⟩:=I.list hq;have ei:=ZeW rv;rw[Yac] at hz;have hl:its.length=ps.length:=by rw[ei,Yac]
 have hT:∀ v∈its,TupI s.heap ks v:=by
  intro v hv;rw[ei] at hv;obtain⟨b,hb,e⟩:=YaG.mp hv;obtain⟨h1,h2⟩:=ht b hb;obtain⟨_,ii,rr,o,g1,g2,_,n,g3⟩:=(show ObjOk X.prog X.w H s.heap b (.tup ((ks b).map V.int)) from I.hok b _ h2)
  exact⟨b,o,ii.toArray,n,e.symm,g1,g2,g3,by simpa using Zh1 rr,h1⟩
 refine Zf5 p.isList (by rw[hl];exact hz) (Zcm hT) fun us p1 p2=>?_;have p1':=p1;rw[ei] at p1';obtain⟨qs,e1,pm⟩:=Zfa p1';obtain⟨e,he⟩:=sortedAll_at s.heap its us.toArray;have hle:s.heap.objs.size<=s.heap.objs.size+1:=Ydm _;refine⟨.ref (s.heap.objs.size+1),_,I.laid (a:=s.heap.objs.size+1) (o:=.lst (qs.map V.ref)) (t':=s.toks) (fun b o q=>sortedAll_old q) hle ⟨?_,us,e,?_,he⟩,rfl,q _ qs (I.hok.fresh hle) pm ?_⟩
 ·rw[Yac,pm.length_eq];exact hz
 ·rw[e1];exact Zc8 qs
 ·rw[e1] at p2;simp only[Ord2,YaD,if_false] at p2;exact Ya1.mp p2
end
end L2
namespace L2
open PySem PySem.Spec PyProof.Rows PySem.SeqAt
section
variable {prog:Program}{w:World}{A:Around}{E:Value->Shared->Prop}{s:Shared}{O:KO}
theorem ZmB {x:Value}{Pv:List Value->Shared->Prop}{Q:Value->Shared->Prop} (hcol:∀ (R:List Value->Shared->Prop) (E':Value->Shared->Prop),(∀ vs s1,Pv vs s1->R vs s1)->wpAny (model prog w) A.in1 (collect x) R E' s)
  (hz:∀ vs s1,Pv vs s1->vs.length<=sizeLine) (hS:∀ vs s1,Pv vs s1->∃ O,Sortable prog w s1 O vs /\
   ∀ us:List Value,us.Perm vs->Ord2 O false us->Q (.ref s1.heap.objs.size) { s1 with heap:=sortedHeap (s1.heap.push (seqObj "list" vs.toArray 0)) s1.heap.objs.size vs us.toArray }):wpAny (model prog w) A (call (.builtin "sorted") [x]) Q E s:=by
 refine Yex kind_sorted plain_sorted entry_sorted (args_sorted1 _) ?_;unfold Builtin.«sorted»;refine wpAny_bind (m:=checkCount "sorted" 1 1 _) (wpAny_pure (wpAny_bind (hcol _ _ fun vs s1 hp=>wpAny_bind (wpAny_newList ?_ (hz vs s1 hp)))));obtain⟨O,hS1,h⟩:=hS vs s1 hp;obtain⟨knd,ok,h1,h2,h3⟩:=hS1.ex;show wpAny _ _ _ _ _ { s1 with heap:=s1.heap.push (seqObj "list" vs.toArray 0) };have at1:(s1.heap.push (seqObj "list" vs.toArray 0)).get? s1.heap.objs.size=some (seqObj "list" vs.toArray 0):=Yas _ rfl;have up:∀ h':Heap,(∀ b o,(s1.heap.push (seqObj "list" vs.toArray 0)).get? b=some o->b≠s1.heap.objs.size->h'.get? b=some o)->∀ b o,s1.heap.get? b=some o->h'.get? b=some o:=fun h' k b o q=>
  k b o (Yab _ q) (Yaw (Yah q))
 exact wpAny_bind (wpAny_holding (wpAny_call_entry slot_list_sort ⟨_,at1,rfl⟩ entry_list_sort (ZgJ (s:={ s1 with heap:=s1.heap.push (seqObj "list" vs.toArray 0) }) at1 (hz vs s1 hp) (fun h' k hl2 Q' q=>h3 _ _ h' (up h' k) hl2 Q' q) (fun h' k=>h2 _ h' (up h' k)) h1 fun us p1 p2=>⟨_,rfl,wpAny_pure ⟨_,rfl,h us p1 p2⟩⟩) (args_list_sort _)))
end
section
variable {X:Cx}{pins:List (Addr × Obj)}{σ:St}{H:Hp}{s:Shared}{h':Heap}
def ZcY (H:Hp) (as:List Addr) (f:Addr->HO):Hp:=fun b=>if b∈as then some (f b) else H b
theorem ZcX {as:List Addr}{f:Addr->HO}{b:Addr} (h:b∈as):ZcY H as f b=some (f b):=if_pos h
theorem Zbh {as:List Addr}{f:Addr->HO}{b:Addr} (h:b ∉ as):ZcY H as f b=H b:=if_neg h
theorem Inv.laidAll {as:List Addr}{f:Addr->HO}{t':Nat} (I:Inv X pins σ H s) (k:∀ b u,s.heap.get? b=some u->h'.get? b=some u) (hp:∀ a∈as,s.heap.objs.size<=a)
  (new:∀ a∈as,ObjOk X.prog X.w (ZcY H as f) h' a (f a)):Inv X pins σ (ZcY H as f) { s with heap:=h',toks:=t' }:=by
 have nn:∀ b o,H b=some o->b ∉ as:=fun b o q z=>absurd (Yal (I.hok.lt q) (hp b z)) (Ya7 _);have kk:∀ b o,H b=some o->ZcY H as f b=some o:=fun b o q=>by rw[Zbh (nn b o q)];exact q
 refine I.un ⟨fun b u q _ _ _=>k b u q,fun b u q _ _ _=>⟨u.slots,k b u q⟩,fun b u q n _=>?_,fun b u q _=>⟨u,k b u q⟩,fun b xs q=>kk b _ q,fun b u xs q=>kk b _ q,fun b ps q=>⟨#[],by rw[kk b _ q];simp⟩⟩ fun b u q=>?_
 ·rw[Zbh fun z=>absurd (Yal (Yah q) (hp b z)) (Ya7 _)];exact n
 ·by_cases hb:b∈as
  ·rw[ZcX hb] at q;cases q;exact new b hb
  ·rw[Zbh hb] at q;exact (I.hok b u q).stay (fun c v _ r=>k c v r) (fun c r=>kk c _ r) fun c xs r=>kk c _ r
end
theorem ZdB {β:Type}{q:β}:∀ {as:List Addr}{ps:List β}{j:Nat}{a:Addr},as.Pairwise (·<·)->as[j]?=some a->ps[j]?=some q->(as.zip ps).lookup a=some q
 | [],_,_,_,_,h,_=>by simp at h
 | _::_,[],_,_,_,_,h=>by simp at h
 | x::as,y::ps,0,a,hp,h1,h2=>by
  simp at h1 h2;subst h1 h2;simp
 | x::as,y::ps,j+1,a,hp,h1,h2=>by
  have hp:=YaZ.mp hp;have h1:as[j]?=some a:=by simpa using h1
  have h2:ps[j]?=some q:=by simpa using h2
  have hne:(a == x)=false:=by
   have:=hp.1 a (Yau h1);simpa using (YbA this)
  rw[YdK,YbJ,hne];exact ZdB hp.2 h1 h2
def ZlV (tk tv:TE):TE:=fun σ H Q=>∀ p,H p=none->tk σ (upd H p (.dK [])) fun x H1=>tv σ H1 fun y H2=>H2 p=some (.dK [])/\∃ kvs:List (Key × V),[(x,y)]=kvs.map (fun kv=>(kV kv.1,kv.2))/\kvs.length<=15/\Q (.ref p) (upd H2 p (.dK (ZcO [] kvs)))
theorem Zk4 {X:Cx}{pos:Pos}{k v:Expr}{tk tv:TE} (hk:PE X k tk) (hv:PE X v tv):PE X (.Dict [some k] [v] pos) (ZlV tk tv):=by
 intro pins s σ H Q I q;exact ZmY (Zk0 hk hv ZmV) rfl rfl (by intro z;cases z) (by show 1<=15;decide) pins s σ H Q I q
abbrev dI (ps:List (Int × Int)):HO:=.dK (ps.map fun q=>(YbE q.1,V.int q.2))
section
variable {X:Cx}
theorem Zh9 (hc:X.calm=true):ZbK X (.builtin "sorted") (fun xs H Q=>∃ (v a:Addr) (ps:List (Int × Int)),xs=[.ref v]/\H v=some (VwI v a)/\Rd H a (dI ps) /\
  ∀ l qs (ms:List (Int × Int)) H',H l=none->(∀ q∈qs,H q=none)->ms.Perm ps->ms.Pairwise (fun p q=>lxB [q.1,q.2] [p.1,p.2]=false)->H' l=some (.lst (qs.map V.ref))->TTs H' qs (ms.map fun q=>[q.1,q.2])->Same H H'->Q (.ref l) H'):=by
 intro pins s σ H xs us Q I r h;obtain⟨v,a,ps,rfl,hv,hd,q⟩:=h;obtain⟨u,rfl,r1⟩:=ZcR r;cases r1;obtain⟨hz,hsm,vs,rel,dd⟩:=Zh7 I.hok hd;obtain⟨ep,da⟩:=dd.dictAt;have hl:vs.length=ps.length:=by rw[<- rel.length,Yac]
 rw[Yac] at hz;refine ZmB (Pv:=fun us s1=>∃ h' tk as,us=as.map YaK/\s1={ s with heap:=h',toks:=tk }/\(∀ b o,s.heap.get? b=some o->h'.get? b=some o)/\as.length=vs.length/\PySem.W.KdxG (ZaD X.prog X.w) vs s.heap.objs.size h' as)
  (fun R E' hR=>PySem.W.kdx_collect (A:=X.A.in1) (I.ok.hd hc) (ZlT I hv) da (by rw[hl];exact hz) fun h' tk as hk hn hG=>hR _ _ ⟨h',tk,as,rfl,rfl,hk,hn,hG⟩) ?_ ?_
 ·rintro us s1 ⟨h',tk,as,rfl,rfl,hk,hn,hG⟩;rw[Yac,hn,hl];exact hz
 ·rintro us s1 ⟨h',tk,as,rfl,rfl,hk,hn,hG⟩;have pr:∀ (j:Nat) (b:Addr),as[j]?=some b->∃ m c t t',ps[j]?=some (m,c)/\h'.get? b=some { cls:=.type "tuple",data:=.seq #[.int m t,.int c t'] }:=fun j b hj=>by
   obtain⟨key,k,x,e1,e2,e3⟩:=hG.pairs j b hj;have hj':j<ps.length:=by rw[<- hl,<- hn];exact (Yad.mp hj).1
   obtain⟨⟨m,c⟩,hm⟩:∃ q,ps[j]?=some q:=⟨ps[j],Yaa hj'⟩
   obtain⟨u,hu,ru⟩:=rel.get (i:=j) (k:=YbE m) (v:=V.int c) (by rw[Yam,hm];rfl);rw[e1] at hu;cases hu;obtain⟨t,rfl⟩:=Zop e2;obtain⟨t',rfl⟩:=ru;exact⟨m,c,t,t',hm,e3⟩
  let pq:Addr->Int × Int:=fun b=>((as.zip ps).lookup b).getD (0,0)
  have pqj:∀ (j:Nat) (b:Addr) q,as[j]?=some b->ps[j]?=some q->pq b=q:=fun j b q h1 h2=>by
   show ((as.zip ps).lookup b).getD (0,0)=q;rw[ZdB hG.rise h1 h2];rfl
  let ks:Addr->List Int:=fun b=>[(pq b).1,(pq b).2]
  have at_:∀ b∈as,∃ t t',h'.get? b=some { cls:=.type "tuple",data:=.seq #[.int (pq b).1 t,.int (pq b).2 t'] }:=fun b hb=>by
   obtain⟨j,hj⟩:=Yfd hb;obtain⟨m,c,t,t',e1,e2⟩:=pr j b hj;exact⟨t,t',by rw[pqj j b _ hj e1];exact e2⟩
  have hT:∀ v∈as.map YaK,TupI h' ks v:=fun v hv=>by
   obtain⟨b,hb,rfl⟩:=YaG.mp hv;obtain⟨t,t',e⟩:=at_ b hb;exact⟨b,_,_,_,rfl,e,rfl,rfl,.cons _ _ (.cons _ _ .nil),by show [_,_]≠[];exact fun z=>nomatch z⟩
  refine⟨KOt ks,Zcm (s:={ s with heap:=h',toks:=tk }) hT,fun us p1 p2=>?_⟩;obtain⟨qs,rfl,pm⟩:=Zfa p1;have I1:Inv X pins σ (ZcY H as fun b=>.tup ((ks b).map V.int)) { s with heap:=h',toks:=tk }:=by
   refine I.laidAll hk (fun b hb=>Ya2 (hG.above b hb)) fun b hb=>?_;obtain⟨t,t',e⟩:=at_ b hb;refine⟨?_,[.int (pq b).1 t,.int (pq b).2 t'],.cons ⟨_,rfl⟩ (.cons ⟨_,rfl⟩ .nil),⟨_,e,rfl,rfl,0,rfl⟩⟩;show 2<=sizeLine
   decide
  have nas:∀ b∈as,H b=none:=fun b hb=>I.hok.fresh (Ya2 (hG.above b hb));obtain⟨e,he⟩:=sortedHeap_at (h:=h'.push (seqObj "list" (as.map YaK).toArray 0)) (a:=h'.objs.size) (vs:=as.map YaK) (out:=(qs.map YaK).toArray) (Yas _ rfl);have keep:∀ b o,h'.get? b=some o->(sortedHeap (h'.push (seqObj "list" (as.map YaK).toArray 0)) h'.objs.size (as.map YaK) (qs.map YaK).toArray).get? b=some o:=fun b o q=>by
   rw[sortedHeap_old (Yaw (Yah q)) (by rw[YaY];exact Yby (Yah q))];exact Yab _ q
  have fl:ZcY H as (fun b=>.tup ((ks b).map V.int)) h'.objs.size=none:=I1.hok.fresh (Yag _);have hna:h'.objs.size ∉ as:=fun z=>by rw[ZcX z] at fl;cases fl
  have I2:=I1.laid (a:=h'.objs.size) (o:=.lst (qs.map V.ref)) (t':=tk) keep (Yag _) ⟨by rw[Yac,pm.length_eq,hn,hl];exact hz,qs.map YaK,e,Zc8 qs,he⟩;refine⟨.ref h'.objs.size,_,I2,rfl,q _ qs (qs.map pq) _ ?_ (fun b hb=>nas b (pm.mem_iff.mp hb)) ?_ ?_ Zab ?_ ?_⟩
  ·rw[Zbh hna] at fl;exact fl
  ·have e1:as.map pq=ps:=by
    refine Ydg fun j=>?_;rw[Yam]
    cases ej:as[j]? with
    | none=>
     have:as.length<=j:=Yct.mp ej;exact (Yct.mpr (by omega)).symm
    | some b=>
     obtain⟨m,c,t,t',e1,e2⟩:=pr j b ej;rw[e1];show some (pq b)=_;rw[pqj j b _ ej e1]
   rw[<- e1];exact pm.map pq
  ·simp only[Ord2,YaD,if_false] at p2;exact Ya1.mpr (Ya1.mp p2)
  ·refine⟨by simp,fun j b xs h1 h2=>?_⟩;rw[Yam,Yam,h1] at h2;cases h2;have hb:b∈as:=pm.mem_iff.mp (Yau h1);rw[Zaf (fun z=>hna (by rw[<- z];exact hb)),ZcX hb]
  ·intro b o hb;have nb:b ∉ as:=fun z=>by rw[nas b z] at hb;cases hb
   have nb2:b≠h'.objs.size:=Yaw (I1.hok.lt (a:=b) (o:=o) (by rw[Zbh nb];exact hb));rw[Zaf nb2,Zbh nb];exact hb
end
end L2
namespace L2
open PySem PySem.Spec PyProof.Rows
structure WE (X:Cx) (e:Expr) (t:TE):Prop where
 out:PE X e t
section
variable {X:Cx}{a b e k v:Expr}{ta tb te tk tv:TE}{pos:Pos}{es:List Expr}{t:TA}
theorem we (h:PE X e te):WE X e te:=⟨h⟩
theorem ZnE {op:Operator}{r:R2} (ho:OpR X (binaryOp op) r) (ha:WE X a ta) (hb:WE X b tb):WE X (.BinOp a op b pos) (tOp r ta tb):=⟨Zal ho ha.out hb.out⟩
theorem ZnF {r:R2} (hr:IxR X r) (ha:WE X a ta) (hb:WE X b tb) (hs:Zky b):WE X (.Subscript a b pos) (tOp r ta tb):=⟨ZaK hr ha.out hb.out hs⟩
theorem ZkD (h1:WE X k tk) (h2:WE X v tv):WE X (.Dict [some k] [v] pos) (ZlV tk tv):=⟨Zk4 h1.out h2.out⟩
theorem ZlS {i:Int}{j}:WE X (.Constant (.int i) j pos) (tC (.int i)):=⟨Zae⟩
theorem ZeU (h:WA X es t):WE X (.List es pos) (tLst t):=⟨ZaI h.out⟩
theorem Zgy (hn:ZeA e=true) (ha:WE X e te) (hr:WA X es t):WA X (e::es) (Zmw te t):=⟨Zaa ha.out hr.out (ZdG hn)⟩
theorem Zih (he:WE X e te):WS X (.Return (some e) pos) (tRet te):=⟨Zav he.out⟩
theorem Zgw {i:Nat}{x:Str}{pos':Pos} (hN:X.N.Nodup) (hi:X.N[i]?=some x) (hx:Loc X.env.scope x) (he:WE X e te) (hs:swapsWith e (some (.Name x pos')) pos.line X.env=pure false:=by rfl) (hf:X.fn x=true∨X.env.scope.names.lookup x=some .local:=by first | exact .inl rfl | exact .inr rfl | assumption) :
  WS X (.Assign [.Name x pos'] e pos) (tAsg te (Zbw i)):=⟨Zaq hN hi hx he.out hs hf⟩
theorem ZnG {te:TE} (h:WE X e te):WE X e (tFrz te):=⟨Zoa h.out⟩
end
end L2
namespace Lv
open PySem L2
def oz (c:Int):Option V:=if c=0 then none else some (.int c)
theorem oz1 {c:Int} (h:c≠0):oz c=some (.int c):=if_neg h
def Rep (kvs:List (Key × V)) (f:Int->Int):Prop:=(∀ p∈kvs,∃ m c:Int,p=(YbE m,V.int c))/\(kvs.map (·.1)).Nodup/\∀ m:Int,valV kvs (YbE m)=oz (f m)
theorem Rep.nil:Rep [] (fun _=>0):=⟨(fun p h=>absurd h Ybm),Yda,(fun m=>rfl)⟩
theorem Rep.congr {kvs:List (Key × V)}{f g:Int->Int} (h:Rep kvs f) (e:∀ m,f m=g m):Rep kvs g:=by
 have:f=g:=funext e;rw[<- this];exact h
theorem Zlz {kvs:List (Key × V)}{k:Key}{v:V}:(putK kvs k v).map (·.1)=kvs.map (·.1)∨(k ∉ kvs.map (·.1)/\(putK kvs k v).map (·.1)=kvs.map (·.1)++[k]):=by
 unfold putK;by_cases h:(kvs.any fun kv=>decide (kv.1=k))=true
 ·rw[if_pos h];left;rw[Ych];refine YbR fun p _=>?_;show (if p.1=k then (p.1,v) else p).1=p.1;split <;> rfl
 ·rw[if_neg h];right;refine⟨fun hm=>h ?_,by simp⟩;obtain⟨p,hp,e⟩:=YaG.mp hm;exact YdY.mpr ⟨p,hp,decide_eq_true e⟩
theorem Znf {kvs:List (Key × V)}{k:Key}{v:V}{p:Key × V} (h:p∈putK kvs k v):p∈kvs∨p=(k,v):=by
 unfold putK at h;split at h
 ·obtain⟨q,hq,e⟩:=YaG.mp h;split at e
  ·rename_i e2;right;rw[<- e,e2]
  ·left;rw[<- e];exact hq
 ·rcases Yaj.mp h with h | h
  ·exact .inl h
  ·exact .inr (YaF.mp h)
theorem Rep.put {kvs:List (Key × V)}{f:Int->Int}{m c:Int} (h:Rep kvs f) (hc:c≠0):Rep (putK kvs (YbE m) (.int c)) (fun j=>if j=m then c else f j):=by
 obtain⟨h1,h2,h3⟩:=h;refine⟨fun p hp=>?_,?_,fun j=>?_⟩
 ·rcases Znf hp with hp | rfl
  ·exact h1 p hp
  ·exact⟨m,c,rfl⟩
 ·rcases Zlz (kvs:=kvs) (k:=YbE m) (v:=.int c) with e | ⟨hn,e⟩
  ·rw[e];exact h2
  ·rw[e];exact Zjp h2 hn
 ·rw[ZkF];by_cases e:j=m
  ·subst e;rw[if_pos rfl];show _=oz (if j=j then c else f j);rw[if_pos rfl,oz1 hc]
  ·rw[if_neg (by intro z;exact e (YdS z))];show _=oz (if j=m then c else f j);rw[if_neg e];exact h3 j
theorem ZkH {kvs:List (Key × V)}{k:Key}{v:V} (hn:(kvs.map (·.1)).Nodup) (h:(k,v)∈kvs):valV kvs k=some v:=by
 induction kvs with
 | nil=>cases h
 | cons p r ih=>
  rw[YaH,YbL] at hn;rcases Yao.mp h with rfl | h
  ·exact ZaV rfl
  ·rw[ZaW (fun e=>hn.1 (by rw[e];exact YaG.mpr ⟨_,h,rfl⟩))];exact ih hn.2 h
theorem Rep.at {kvs:List (Key × V)}{f:Int->Int}{k:Key}{v:V} (h:Rep kvs f) (hm:(k,v)∈kvs):∃ m:Int,k=YbE m/\v=.int (f m)/\f m≠0:=by
 obtain⟨m,c,e⟩:=h.1 _ hm;cases e;have e2:=ZkH h.2.1 hm;rw[h.2.2 m] at e2;by_cases hz:f m=0
 ·rw[hz] at e2;cases e2
 ·rw[oz1 hz] at e2;exact⟨m,rfl,(YaE e2).symm,hz⟩
theorem Rep.key {kvs:List (Key × V)}{f:Int->Int}{m:Int} (h:Rep kvs f) (hm:f m≠0):(YbE m:Key)∈kvs.map (·.1):=by
 have:=h.2.2 m;rw[oz1 hm] at this;exact Zms this
theorem Rep.nkey {kvs:List (Key × V)}{f:Int->Int}{m:Int} (h:Rep kvs f) (hm:f m=0):(YbE m:Key) ∉ kvs.map (·.1):=by
 have:=h.2.2 m;rw[hm] at this;exact ZkG this
theorem Rep.get {kvs:List (Key × V)}{f:Int->Int} (h:Rep kvs f) (m:Int):(valV kvs (YbE m)).getD (.int 0)=.int (f m):=by
 rw[h.2.2 m];by_cases hz:f m=0
 ·rw[hz];rfl
 ·rw[oz1 hz];rfl
def dec (p:Key × V):Int × Int:=(match p.1 with | .inl m=>m | .inr _=>0,match p.2 with | .int c=>c | _=>0)
def enc (q:Int × Int):Key × V:=(YbE q.1,V.int q.2)
theorem Rep.dec {kvs:List (Key × V)}{f:Int->Int} (h:Rep kvs f):kvs=(kvs.map Lv.dec).map enc:=by
 rw[Ych];refine (Yee kvs).symm.trans (YbR fun p hp=>?_);obtain⟨m,c,rfl⟩:=h.1 p hp;rfl
theorem Rep.nd {kvs:List (Key × V)}{f:Int->Int} (h:Rep kvs f):((kvs.map Lv.dec).map (·.1)).Nodup:=by
 have h2:=h.2.1;rw[h.dec,Ych] at h2;have h3:((kvs.map Lv.dec).map fun q=>(YbE q.1:Key)).Nodup:=h2;unfold YfC at h3 ⊢;rw[Ya1] at h3 ⊢;exact h3.imp fun {a b} z e=>z (by rw[e])
theorem Zof {l:List Int}{B:Nat} (hn:l.Nodup) (hb:∀ x∈l,0<=x/\x<=(B:Int)):l.length<=B+1:=by
 have:∀ (B:Nat) (l:List Int),l.Nodup->(∀ x∈l,0<=x/\x<(B:Int))->l.length<=B:=by
  intro B
  induction B with
  | zero=>
   intro l _ hb
   cases l with
   | nil=>exact YaW _
   | cons x r=>have:=hb x (by simp);omega
  | succ B ih=>
   intro l hn hb;by_cases h:(B:Int)∈l
   ·have h1:=ih (l.erase B) (hn.erase _) fun x hx=>by
     have h2:=(List.Nodup.mem_erase_iff hn).mp hx;have:=hb x h2.2;have:=h2.1;omega
    rw[List.length_erase_of_mem h] at h1;omega
   ·have:=ih l hn fun x hx=>by
     have h2:=hb x hx;have:x≠B:=by rintro rfl;exact h hx
     omega
    omega
 exact this (B+1) l hn fun x hx=>by have:=hb x hx;omega
theorem Rep.len {kvs:List (Key × V)}{f:Int->Int}{B:Nat} (h:Rep kvs f) (hb:∀ m,f m≠0->0<=m/\m<=(B:Int)):kvs.length<=B+1:=by
 have:=Zof (B:=B) h.nd fun x hx=>by
  rw[Ych] at hx;obtain⟨⟨k,v⟩,hp,rfl⟩:=YaG.mp hx;obtain⟨m,rfl,rfl,hz⟩:=h.at hp;exact hb m hz
 simpa using this
open Classical in
noncomputable def tkn (g:Int->Int) (ks:List Key) (m:Int):Int:=if (YbE m:Key)∈ks then g m else 0
theorem Zir (g:Int->Int) (m:Int):tkn g [] m=0:=if_neg Ybm
theorem Zea {g:Int->Int}{ks:List Key}{m:Int} (h:(YbE m:Key) ∉ ks):tkn g ks m=0:=if_neg h
theorem ZgF {g:Int->Int}{ks:List Key}{m:Int} (h:(YbE m:Key)∈ks):tkn g ks m=g m:=if_pos h
theorem Zis {g:Int->Int}{kvs:List (Key × V)} (h:Rep kvs g) (m:Int):tkn g (kvs.map (·.1)) m=g m:=by
 by_cases e:g m=0
 ·rw[Zea (h.nkey e),e]
 ·exact ZgF (h.key e)
theorem ZgD {g:Int->Int}{ks:List Key}{m:Int} (h:g m=0):tkn g ks m=0:=by
 unfold tkn;split
 ·exact h
 ·rfl
theorem ZgE {g:Int->Int}{ks:List Key}{m j:Int} (h:(YbE m:Key) ∉ ks):tkn g (ks++[YbE m]) j=if j=m then g m else tkn g ks j:=by
 by_cases e:j=m
 ·subst e;rw[if_pos rfl,ZgF (by simp)]
 ·rw[if_neg e];by_cases h2:(YbE j:Key)∈ks
  ·rw[ZgF h2,ZgF (Ya0 _ h2)]
  ·rw[Zea h2,Zea fun z=>?_];rcases Yaj.mp z with z | z
   ·exact h2 z
   ·have z:(YbE j:Key)=YbE m:=by simpa using z
    exact e (YdS z)
theorem Zfp {kvs:List (Key × V)}{i:Nat}{k:Key}{v:V} (h:kvs[i]?=some (k,v)):(kvs.take (i+1)).map (·.1)=(kvs.take i).map (·.1)++[k]:=by
 rw[Ybe,h];simp
theorem ZjH {kvs:List (Key × V)}{i:Nat}{k:Key}{v:V} (nd:(kvs.map (·.1)).Nodup) (hi:kvs[i]?=some (k,v)):k ∉ (kvs.take i).map (·.1):=fun hm=>by
 obtain⟨q,hq,e⟩:=YaG.mp hm;obtain⟨j,hj⟩:=Yfd hq;have hji:j<i:=by
  have:=(Yad.mp hj).1
  rw[Yaz] at this;omega
 rw[Yb8 hji] at hj;have a1:(kvs.map (·.1))[j]?=some k:=by rw[Yam,hj,<- e];rfl
 have a2:(kvs.map (·.1))[i]?=some k:=by rw[Yam,hi];rfl
 have hj2:=(Yad.mp a1).1
 have:=(List.getElem?_inj hj2 nd).mp (a1.trans a2.symm);omega
def SprL (L:List (Int × Int)) (f:Int->Int):Prop:=L.Pairwise (fun p q=>p.1<q.1)/\∀ m c,(m,c)∈L↔(c=f m/\c≠0)
theorem ZnW {kvs:List (Key × V)}{f:Int->Int}{ms:List (Int × Int)} (h:Rep kvs f) (hp:ms.Perm (kvs.map Lv.dec)) (hs:ms.Pairwise (fun p q=>lxB [q.1,q.2] [p.1,p.2]=false)):SprL ms f:=by
 have nd:(ms.map (·.1)).Nodup:=(hp.map (·.1)).nodup_iff.mpr h.nd;unfold YfC at nd;rw[Ya1] at nd;refine⟨(hs.and nd).imp ?_,fun m c=>?_⟩
 ·rintro p q ⟨a,b⟩;have a:(if q.1=p.1 then lxB [q.2] [p.2] else decide (q.1<p.1))=false:=a;rw[if_neg (Ybq b)] at a;have:=of_decide_eq_false a;omega
 ·rw[hp.mem_iff];constructor
  ·intro hm;obtain⟨⟨k,v⟩,hp,e⟩:=YaG.mp hm;obtain⟨m',rfl,rfl,hz⟩:=h.at hp;have e1:m'=m:=congrArg Prod.fst e;have e2:f m'=c:=congrArg Prod.snd e;subst e1 e2;exact⟨rfl,hz⟩
  ·rintro⟨rfl,hz⟩;have hk:=h.key hz;obtain⟨⟨k,v⟩,hp,e⟩:=YaG.mp hk;obtain⟨m',rfl,rfl,_⟩:=h.at hp;have e1:m'=m:=YdS e;subst e1;exact YaG.mpr ⟨_,hp,rfl⟩
theorem Ziz:∀ {L M:List (Int × Int)},L.Pairwise (fun p q=>p.1<q.1)->M.Pairwise (fun p q=>p.1<q.1)->(∀ x,x∈L↔x∈M)->L=M
 | [],[],_,_,_=>rfl
 | [],b::M,_,_,h=>absurd ((h b).mpr Yaq) (by simp)
 | a::L,[],_,_,h=>absurd ((h a).mp Yaq) (by simp)
 | a::L,b::M,h1,h2,h=>by
  obtain⟨a1,a2⟩:=YaZ.mp h1;obtain⟨b1,b2⟩:=YaZ.mp h2;have e:a=b:=by
   rcases Yao.mp ((h a).mp Yaq) with e | z
   ·exact e
   ·rcases Yao.mp ((h b).mpr Yaq) with e | y
    ·exact e.symm
    ·have:=b1 a z;have:=a1 b y;omega
  subst e;congr 1;refine Ziz a2 b2 fun x=>?_;constructor
  ·intro hx;rcases Yao.mp ((h x).mp (Yar _ hx)) with e | z
   ·subst e;have:=a1 x hx;omega
   ·exact z
  ·intro hx;rcases Yao.mp ((h x).mpr (Yar _ hx)) with e | z
   ·subst e;have:=b1 x hx;omega
   ·exact z
theorem SprL.uniq {L M:List (Int × Int)}{f:Int->Int} (h:SprL L f) (g:SprL M f):L=M:=Ziz h.1 g.1 fun ⟨m,c⟩=>by rw[h.2,g.2]
def cn (xs:List Int) (m:Int):Int:=(xs.count m:Int)
theorem Zkk (m:Int):cn [] m=0:=by simp[cn]
theorem ZfE (xs:List Int) (m:Int):0<=cn xs m:=by unfold cn;omega
theorem Zmi (xs ys:List Int) (m:Int):cn (xs++ys) m=cn xs m+cn ys m:=by unfold cn;rw[YfB];omega
theorem Zgr {xs:List Int}{m:Int}:cn xs m=0↔m ∉ xs:=by unfold cn;rw[<- List.count_eq_zero];omega
theorem cn_ne {xs:List Int}{m:Int}:cn xs m≠0↔m∈xs:=by
 rw[Ne,Zgr,Classical.not_not]
theorem Zgs (x:Int) (xs:List Int) (m:Int):cn (x::xs) m=(if m=x then 1 else 0)+cn xs m:=by
 unfold cn;rw[YcY];by_cases h:m=x
 ·subst h;simp;omega
 ·have:¬ x=m:=fun z=>h z.symm;simp[h,this]
theorem Zhm (xs:List Int) (m:Int):cn (xs.map (·+1)) m=cn xs (m - 1):=by
 induction xs with
 | nil=>simp[cn]
 | cons x xs ih=>
  rw[YaH,Zgs,Zgs,ih];by_cases h:m=x+1
  ·rw[if_pos h,if_pos (by omega)]
  ·rw[if_neg h,if_neg (by omega)]
def DDs (H:Hp) (rs:List Addr) (N:List (List Int)):Prop:=rs.length=N.length/\∀ (j:Nat) r xs,rs[j]?=some r->N[j]?=some xs->∃ kvs,H r=some (.dK kvs)/\Rep kvs (cn xs)
theorem DDs.same {H H':Hp}{rs:List Addr}{N:List (List Int)} (h:DDs H rs N) (s:Same H H'):DDs H' rs N:=⟨h.1,fun j r xs a b=>let ⟨kvs,e,q⟩:=h.2 j r xs a b;⟨kvs,s _ _ e,q⟩⟩
theorem DDs.nil {H:Hp}:DDs H [] []:=⟨rfl,fun j r xs a=>by simp at a⟩
theorem DDs.snoc {H:Hp}{rs:List Addr}{N:List (List Int)}{r:Addr}{x:List Int}{kvs:List (Key × V)} (h:DDs H rs N) (e:H r=some (.dK kvs)) (q:Rep kvs (cn x)):DDs H (rs++[r]) (N++[x]):=⟨by simp[h.1],fun j r' xs a b=>by
 rcases Ydh j rs.length with z | z | z
 ·rw[YaL z] at a;rw[YaL (by rw[<- h.1];exact z)] at b;exact h.2 j r' xs a b
 ·subst z;rw[YaI (Yag _)] at a;rw[h.1,YaI (Yag _)] at b;simp at a b;subst a b;exact⟨kvs,e,q⟩
 ·rw[Yb1 (by simp;omega)] at a;cases a⟩
theorem DDs.cons {H:Hp}{rs:List Addr}{N:List (List Int)}{r:Addr}{x:List Int}{kvs:List (Key × V)} (h:DDs H rs N) (e:H r=some (.dK kvs)) (q:Rep kvs (cn x)):DDs H (r::rs) (x::N):=⟨by simp[h.1],fun j r' xs a b=>by
 cases j with
 | zero=>simp at a b;subst a b;exact⟨kvs,e,q⟩
 | succ j=>exact h.2 j r' xs (by simpa using a) (by simpa using b)⟩
theorem DDs.tail {H:Hp}{rs:List Addr}{N:List (List Int)}{r:Addr}{x:List Int} (h:DDs H (r::rs) (x::N)):DDs H rs N:=⟨by simpa using h.1,fun j r' xs a b=>h.2 (j+1) r' xs (by simpa using a) (by simpa using b)⟩
theorem DDs.at {H:Hp}{rs:List Addr}{N:List (List Int)}{j:Nat}{r:Addr} (h:DDs H rs N) (e:rs[j]?=some r):∃ xs kvs,N[j]?=some xs/\H r=some (.dK kvs)/\Rep kvs (cn xs):=by
 have hj:=(Yad.mp e).1
 rw[h.1] at hj;have e2:N[j]?=some N[j]:=Yaa hj;obtain⟨kvs,a,b⟩:=h.2 j r _ e e2;exact⟨_,kvs,e2,a,b⟩
def Bd (B:Int) (N:List (List Int)):Prop:=∀ xs∈N,∀ m∈xs,0<=m/\m<=B
theorem Bd.mono {B B':Int}{N:List (List Int)} (h:Bd B N) (hb:B<=B'):Bd B' N:=fun xs a m b=>by have:=h xs a m b;omega
theorem Zdt (p:Nat):∀ n:Nat,Bd n (num p n)
 | 0=>fun xs a m b=>by
  rcases Yao.mp (show xs∈[0]::Yai (p - 1) [] from a) with rfl | h
  ·have:m=0:=by simpa using b
   omega
  ·rw[(YbZ.mp h).2] at b;cases b
 | n+1=>fun xs a m b=>by
  have ih:=Zdt p n;have hf:∀ m∈fstN (num p n),0<=m/\m<=((n+1:Nat):Int):=fun m hm=>by
   unfold fstN at hm;obtain⟨y,hy,rfl⟩:=YaG.mp hm
   cases e:num p n with
   | nil=>rw[e] at hy;cases hy
   | cons c r=>
    rw[e] at hy;have:=ih c (by rw[e];exact Yaq) y hy;omega
  rcases Yaj.mp (show xs∈((num p n).tail.map (fstN (num p n)++·))++[fstN (num p n)] from a) with h | h
  ·obtain⟨y,hy,rfl⟩:=YaG.mp h;rcases Yaj.mp b with b | b
   ·exact hf m b
   ·have:=ih y (List.mem_of_mem_tail hy) m b;omega
  ·rw[YaF.mp h] at b;exact hf m b
theorem ZnA {B:Int}{N:List (List Int)} (h:Bd B N):∀ m,cn N.flatten m≠0->0<=m/\m<=B:=fun m hm=>by
 obtain⟨xs,a,b⟩:=Ydp.mp (cn_ne.mp hm);exact h xs a m b
def pr2 (q:Int × Int):List Int:=[q.1,q.2]
def Zen:Sp:=fun vs H Q _=>∃ p:Nat,vs=[.int p]/\2<=p/\p<=7/\∀ l qs H',H l=none->H' l=some (.lst (qs.map V.ref))->DDs H' qs (num0 p)->Same H H'->Q (.ref l) H'
def Zeq:Sp:=fun vs H Q _=>∃ (a b:Addr) (k1 k2:List (Key × V)) (f g:Int->Int),vs=[.ref a,.ref b]/\H a=some (.dK k1)/\H b=some (.dK k2)/\Rep k1 f/\Rep k2 g/\(∀ m,0<=f m)/\(∀ m,0<=g m)/\(∀ m,f m≠0->0<=m/\m<=400)/\(∀ m,g m≠0->0<=m/\m<=400) /\
 ∀ l kvs H',H l=none->H' l=some (.dK kvs)->Rep kvs (fun m=>f m+g m)->Same H H'->Q (.ref l) H'
def Zeh (nx:List (List Int)->List (List Int)):Sp:=fun vs H Q _=>∃ (a:Addr) (rs:List Addr) (N:List (List Int)),vs=[.ref a]/\H a=some (.lst (rs.map V.ref))/\DDs H rs N/\2<=N.length/\N.length<=7/\Bd 399 N /\
 ∀ l qs H',H l=none->H' l=some (.lst (qs.map V.ref))->DDs H' qs (nx N)->Same H H'->Q (.ref l) H'
def ZfZ:Sp:=fun vs H Q _=>∃ (a:Addr) (rs:List Addr) (N:List (List Int)),vs=[.ref a]/\H a=some (.lst (rs.map V.ref))/\DDs H rs N/\N.length<=7/\Bd 400 N /\
 ∀ l qs L H',H l=none->H' l=some (.tup (qs.map V.ref))->TTs H' qs (L.map pr2)->SprL L (cn N.flatten)->Same H H'->Q (.ref l) H'
def Zer (fn:Addr) (S:Nat->Nat->List (List Int)):Sp:=fun vs H Q _=>∃ p n:Nat,vs=[.int p,.int n,.ref fn]/\2<=p/\p<=7/\n<=300/\∀ l qs L H',H l=none->H' l=some (.tup (qs.map V.ref))->TTs H' qs (L.map pr2)->SprL L (cn (S p n).flatten)->Same H H'->Q (.ref l) H'
def ZiA (S:Nat->Nat->List (List Int)) (top:Nat):Sp:=fun vs H Q _=>∃ p n:Nat,vs=[.int p,.int n]/\2<=p/\p<=7/\n<=top/\∀ l qs L H',H l=none->H' l=some (.tup (qs.map V.ref))->TTs H' qs (L.map pr2)->SprL L (cn (S p n).flatten)->Same H H'->Q (.ref l) H'
end Lv
namespace L2
open PySem PySem.Spec PyProof.Rows
mutual
inductive RdN (H:Hp):V->PyData->Prop
 | non:RdN H .non .none
 | bl (b:Bool):RdN H (.bl b) (.bool b)
 | int (i:Int):RdN H (.int i) (.int i)
 | str (x:Str):RdN H (.str x) (.str x)
 | lst {a:Addr}{xs:List V}{ds:List PyData}:H a=some (.lst xs)->RdL H xs ds->RdN H (.ref a) (.list ds)
 | tup {a:Addr}{xs:List V}{ds:List PyData}:H a=some (.tup xs)->RdL H xs ds->RdN H (.ref a) (.tuple ds)
inductive RdL (H:Hp):List V->List PyData->Prop
 | nil:RdL H [] []
 | cons {x:V}{xs:List V}{d:PyData}{ds:List PyData}:RdN H x d->RdL H xs ds->RdL H (x::xs) (d::ds)
end
section
variable {P:Program}{w:World}{H:Hp}{h:Heap}
end
section
variable {X:Cx}
theorem Zi6:OpR X (compareOp .IsNot) (fun x y H Q=>∃ b c:Bool,x=.bl b/\y=.bl c/\Q (.bl (b != c)) H):=by
 intro pins s σ H x y v u Q I rx ry h;obtain⟨b,c,rfl,rfl,q⟩:=h;cases rx;cases ry;exact isnot_bool ⟨.bl _,H,I,rfl,q⟩
end
end L2
namespace L2
open PySem PySem.Spec PyProof.Rows PySem.SeqAt
section
variable {P:Program}{w:World}{H:Hp}{s:Shared}
end
section
variable {X:Cx}
end
end L2
namespace L2
open PySem PySem.Spec PyProof.Rows
section
variable {X:Cx}
end
end L2
namespace Lv
open PySem L2
def rl (p n i:Nat):List Int:=(num p n).getD i []
theorem Zec {L:List (Int × Int)}{xs:List Int} (h:SprL L (cn xs)) (m:Int):m∈L.map (·.1)↔m∈xs:=by
 rw[YaG];constructor
 ·rintro⟨⟨a,c⟩,hx,rfl⟩;have:=(h.2 a c).mp hx;exact cn_ne.mp (by rw[<- this.1];exact this.2)
 ·intro hm;exact⟨(m,cn xs m),(h.2 _ _).mpr ⟨rfl,cn_ne.mpr hm⟩,rfl⟩
theorem ZnY {L:List (Int × Int)}{f:Int->Int} (h:SprL L f):(L.map (·.1)).Pairwise (·<·):=by
 rw[Ya1];exact h.1
theorem ZnX {L:List (Int × Int)}{f:Int->Int} (h:SprL L f):(L.map (·.1)).Nodup:=by
 unfold YfC;exact (ZnY h).imp fun {a b} z=>Int.ne_of_lt z
theorem ZfU:∀ {L:List (Int × Int)}{xs:List Int},SprL L (cn xs)->(L.map (·.2)).sum=xs.length
 | [],xs,h=>by
  cases xs with
  | nil=>rfl
  | cons x r=>have:=(Zec h x).mpr Yaq;cases this
 | (m,c)::L,xs,h=>by
  obtain⟨h1,h2⟩:=YaZ.mp h.1;have hc:=(h.2 m c).mp Yaq;have hL:SprL L (cn (xs.filter fun x=>decide (x≠m))):=by
   refine⟨h2,fun a b=>?_⟩;have e:a≠m->cn (xs.filter fun x=>decide (x≠m)) a=cn xs a:=fun z=>by
    unfold cn;rw[YfA (by simpa using z)]
   constructor
   ·intro hx;have z:a≠m:=by have:=h1 _ hx;intro y;simp at this;omega
    rw[e z];exact (h.2 a b).mp (Yar _ hx)
   ·rintro⟨y1,y2⟩;have z:a≠m:=by
     rintro rfl;refine y2 ?_;rw[y1,Zgr];simp
    rw[e z] at y1;rcases Yao.mp ((h.2 a b).mpr ⟨y1,y2⟩) with q | q
    ·cases q;exact absurd rfl z
    ·exact q
  rw[YaH,YaS,ZfU hL,hc.1];unfold cn;have:∀ ys:List Int,((ys.count m:Nat):Int)+((ys.filter fun x=>decide (x≠m)).length:Nat)=(ys.length:Nat):=by
   intro ys
   induction ys with
   | nil=>rfl
   | cons y r ih=>
    rw[YcY,YfH];by_cases z:y=m
    ·subst z;rw[if_pos (by simp),if_neg (by simp),YaU];omega
    ·rw[if_neg (by simpa using z),if_pos (by simpa using z),YaU,YaU];omega
  exact this xs
theorem Zj0 {p:Nat} (n:Nat):(((num p n).flatten.length:Nat):Int)=(cnt p n).sum:=by
 rw[<- ZbR p n];have:∀ N:List (List Int),((N.flatten.length:Nat):Int)=(lens N).sum:=by
  intro N
  induction N with
  | nil=>rfl
  | cons a r ih=>
   rw[Ya9,Yak,lens,YaH,YaS];rw[lens] at ih;rw[<- ih];omega
 exact this _
end Lv
namespace Lv
open PySem L2
theorem Zjm {p:Nat} (hp:2<=p) (n:Nat):∃ x r,num p n=x::r/\r.length+1=p:=by
 have hl:=ZbG (p:=p) (by omega) n
 cases h:num p n with
 | nil=>rw[h] at hl;simp at hl;omega
 | cons x r=>exact⟨x,r,rfl,by rw[h] at hl;simpa using hl⟩
end Lv
namespace L2
open PySem
end L2
namespace Lv
open PySem L2
def sm (g:Nat->Int):Nat->Int
 | 0=>0
 | k+1=>sm g k+g (k+1)
def trs (h:Nat->Int):Nat->Int
 | 0=>0
 | k+1=>trs h k+h k
def sq (p n:Nat):List (List Int):=(YaT (n+1)).map fun j=>rl p j 0
end Lv
namespace L2
open PySem PySem.Spec PyProof.Rows PySem.SeqAt
inductive TyS (H:Hp):V->Value->Prop
 | int (i:Int):TyS H (.int i) (.type "int")
 | bl (b:Bool):TyS H (.bl b) (.type "bool")
 | lst {a:Addr}{xs:List V} (e:H a=some (.lst xs)):TyS H (.ref a) (.type "list")
 | tup {a:Addr}{xs:List V} (e:H a=some (.tup xs)):TyS H (.ref a) (.type "tuple")
theorem ZgB:∀ {Ts:List String}{its:List Value},Vals (Ts.map V.ty) its->its=Ts.map YbV
 | [],_,r=>by cases r;rfl
 | T::Ts,_,r=>by
  cases r with
  | cons r1 r2=>
   rw[ZgB r2];cases (show _=YbV T from r1);rfl
section
variable {X:Cx}
theorem ZfG:ZbK X (.builtin "isinstance") (fun xs H Q=>∃ (x:V) (tp:Addr) (Ts:List String) (t:Value) (b:Bool),xs=[x,.ref tp]/\H tp=some (.tup (Ts.map V.ty))/\TyS H x t/\Yd3 X.K t (Ts.map YbV)=some b/\Q (.bl b) H):=by
 intro pins s σ H xs us Q I r h;obtain⟨x,tp,Ts,t,b,rfl,htp,ty,e,q⟩:=h;obtain⟨u,u2,rfl,r1,r2⟩:=ZkE r;cases r2;obtain⟨_,its,rv,⟨oc,od,oa,osl⟩,h1,h2,h3,n,h4⟩:=(show ObjOk X.prog X.w H s.heap tp (.tup (Ts.map V.ty)) from I.hok tp _ htp)
 dsimp only at h2 h3 h4;subst h2;subst h3;subst h4;rw[ZgB rv] at h1;have fin:∀ tk,EP X pins σ Q (.bool b) { s with toks:=tk }:=fun tk=>⟨.bl b,H,I.tok _,rfl,q⟩
 cases ty with
 | int i=>obtain⟨t,z⟩:=(show ∃ t,u=Yd1 i t from r1);cases z;exact Ydk Yfi I.kIn YbX h1 e (fun z=>nomatch z) fin
 | bl y=>cases (show u=Yez y from r1);exact Ydk Ye7 I.kIn YbX h1 e (fun z=>nomatch z) fin
 | @lst a xs ea=>
  cases (show u=YaK a from r1);obtain⟨_,_,n,_,g1⟩:=(show ObjOk X.prog X.w H s.heap a (.lst xs) from I.hok a _ ea)
  exact Ydk YdH I.kIn ⟨_,g1,rfl⟩ h1 e (fun z=>nomatch z) fin
 | @tup a xs ea=>
  cases (show u=YaK a from r1);obtain⟨_,_,_,o,g1,g2,_⟩:=(show ObjOk X.prog X.w H s.heap a (.tup xs) from I.hok a _ ea)
  exact Ydk YeW I.kIn ⟨o,g1,g2⟩ h1 e (fun z=>nomatch z) fin
end
end L2
namespace HT
open PySem PySem.Spec PyProof.Rows
section
variable {prog:Program}{w:World}{A:Around}{E:Value->Shared->Prop}{s:Shared}
end
end HT
namespace L2
open PySem PySem.Spec PyProof.Rows PySem.SeqAt
inductive TyA (H:Hp):V->String->Prop
 | non:TyA H .non "NoneType"
 | int (i:Int):TyA H (.int i) "int"
 | bl (b:Bool):TyA H (.bl b) "bool"
 | str (x:Str):TyA H (.str x) "str"
 | lst {a:Addr}{xs:List V} (e:H a=some (.lst xs)):TyA H (.ref a) "list"
 | tup {a:Addr}{xs:List V} (e:H a=some (.tup xs)):TyA H (.ref a) "tuple"
 | dK {a:Addr}{kvs:List (Key × V)} (e:H a=some (.dK kvs)):TyA H (.ref a) "dict"
section
variable {X:Cx}
end
end L2
namespace Lv
open PySem L2 PySem.W
structure ExcTab (K:Frag) (reel C:Addr) (all:List Addr):Prop where
 ok:Zox K C=true
 exm:exmOne K (.ref C) (.ref reel)=some true
 isR:kitOne K (.ref C) (.ref reel)=some true
 isV:kitOne K (.ref C) (.type "ValueError")=some true
 one:∀ D∈all,kitOne K (.ref C) (.ref D)=some (D == C)
structure Excs (K:Frag) (mg:Str->Option Value) where
 reel:Addr
 nWays:Addr
 nRoom:Addr
 nLevel:Addr
 nStand:Addr
 tMany:Addr
 tFew:Addr
 nPlace:Addr
 nText:Addr
 nLine:Addr
 nBack:Addr
 nPhase:Addr
 clash:Addr
 mReel:mg "ReelError"=some (.ref reel)
 mWays:mg "NoWays"=some (.ref nWays)
 mRoom:mg "NoRoom"=some (.ref nRoom)
 mLevel:mg "NoLevel"=some (.ref nLevel)
 mStand:mg "NoStanding"=some (.ref nStand)
 mMany:mg "TooMany"=some (.ref tMany)
 mFew:mg "TooFew"=some (.ref tFew)
 mPlace:mg "NoPlace"=some (.ref nPlace)
 mText:mg "NoText"=some (.ref nText)
 mLine:mg "NoLine"=some (.ref nLine)
 mBack:mg "NoBack"=some (.ref nBack)
 mPhase:mg "NoPhase"=some (.ref nPhase)
 mClash:mg "Clash"=some (.ref clash)
 nd:([nWays,nRoom,nLevel,nStand,tMany,tFew,nPlace,nText,nLine,nBack,nPhase,clash]:List Addr).Nodup
def Excs.all {K:Frag}{mg:Str->Option Value} (X:Excs K mg):List Addr:=[X.nWays,X.nRoom,X.nLevel,X.nStand,X.tMany,X.tFew,X.nPlace,X.nText,X.nLine,X.nBack,X.nPhase,X.clash]
def anT:List String:=["NoneType","bool","int","str","list","tuple","dict"]
structure Thing (K:Frag) (H:Hp) (v:V) (T:String):Prop where
 ty:TyOf K H v (.type T)
 mem:T∈anT
def NotIn (lo hi:Int) (v:V) (T:String):Prop:=T≠"int"∨∃ i,v=.int i/\¬ (lo<=i/\i<=hi)
end Lv
namespace Lv
open PySem L2 PySem.W
end Lv
namespace Lv
open PySem L2 PySem.W
end Lv
namespace Lv
open PySem L2 PySem.W
end Lv
namespace L2
open PySem PySem.Spec PyProof.Rows PySem.W
end L2
namespace Lv
open PySem L2 PySem.W
end Lv
namespace Lv
open PySem L2 PySem.Spec PyProof.Rows
end Lv
namespace L2
open PySem PySem.Spec PyProof.Rows PySem.SeqAt
section
variable {X:Cx}
theorem ZoF {b:Bool}{pins:List (Addr × Obj)}{σ:St}{H:Hp}{s:Shared}{a:Addr}{ns:List Int}{Q:Value->Shared->Prop}{A:Around}{E:Value->Shared->Prop} (I:Inv X pins σ H s) (hh:A.handled=none) (h:SqB b X.K H a (ns.map V.int))
  (k:∀ (I0:Addr) (fp wr:List Addr) (P:Nat->Value->Prop) (St:Nat->Heap->Prop) (s2:Shared),Walks X.prog X.w A I0 fp wr ns.length P St->St 0 s2.heap->(∀ c∈fp,c<s2.heap.objs.size)->(∀ i v,P i v->i<ns.length/\∃ t,v=.int (ns.getD i 0) t) ->
   (∀ h' tk,(∀ c o,c ∉ wr->s2.heap.get? c=some o->h'.get? c=some o)->Inv X pins σ H { s2 with heap:=h',toks:=tk })->Q (.ref I0) s2):wpAny (model X.prog X.w) A (pyIter (.ref a)) Q E s:=by
 have fin:∀ (its:List Value) (rv:Vals (ns.map V.int) its) (ob:Obj),a<s.heap.objs.size->(∀ h' tk,(∀ c o,c ∉ [s.heap.objs.size]->(s.heap.push ob).get? c=some o->h'.get? c=some o)->Inv X pins σ H { s with heap:=h',toks:=tk })/\its.toArray.size=ns.length /\
   (∀ i v,its.toArray[i]?=some v->i<ns.length/\∃ t,v=.int (ns.getD i 0) t)/\∀ c∈[s.heap.objs.size,a],c<(s.heap.push ob).objs.size:=fun its rv ob hlt=>by
  have hlen:its.toArray.size=ns.length:=by rw[YaC,<- rv.length,Yac]
  refine⟨fun h' tk hk=>I.kept (h':=h') (t':=tk) fun c o e=>hk c o ?_ (Yab _ e),hlen,fun i v e=>?_,fun c hc=>?_⟩
  ·intro hm;have:c=s.heap.objs.size:=by simpa using hm
   rw[this] at e;exact absurd (Yah e) (Ya7 _)
  ·have hi:i<its.toArray.size:=(Ya6.mp e).1
   obtain⟨t,q⟩:=Zdk rv hi;rw[YaP hi] at e;have e':=YaE e;rw[q] at e';exact⟨by rw[<- hlen];exact hi,t,e'.symm⟩
  ·rcases Yao.mp hc with z | z
   ·rw[z,YaY];exact Ybs _
   ·have z:c=a:=by simpa using z
    rw[z,YaY];exact Yby hlt
 cases b with
 | true=>
  obtain⟨its,rv,p,hz⟩:=I.list h;have hlt:a<s.heap.objs.size:=by obtain⟨o,n,e,_⟩:=p;exact Yah e
  have hne:a≠s.heap.objs.size:=Yaw hlt;refine wpAny_pyIter_list p.isList ?_;obtain⟨f1,f2,f3,f4⟩:=fin its rv _ hlt;have W:=Yey (prog:=X.prog) (w:=X.w) (A:=A) hh s.heap.objs.size a hne its.toArray;rw[f2] at W;refine k _ _ _ _ _ _ W ⟨⟨_,Yas _ rfl,rfl,rfl⟩,?_⟩ f4 f3 f1;obtain⟨o,n,e,c,_,d⟩:=p;exact⟨o,Yab _ e,c,n,d⟩
 | false=>
  obtain⟨its,rv,p0,hz⟩:=I.tuple h;have p:s.heap.IsTuple a its.toArray:=p0;have hlt:a<s.heap.objs.size:=by obtain⟨o,e,_⟩:=p;exact Yah e
  have hne:a≠s.heap.objs.size:=Yaw hlt;refine wpAny_pyIter_tuple p ?_;obtain⟨f1,f2,f3,f4⟩:=fin its rv _ hlt;have W:=Ye3 (prog:=X.prog) (w:=X.w) (A:=A) hh s.heap.objs.size a hne its.toArray;rw[f2] at W;refine k _ _ _ _ _ _ W ⟨⟨_,Yas _ rfl,rfl,rfl⟩,?_⟩ f4 f3 f1;obtain⟨o,e,c,d⟩:=p;exact⟨o,Yab _ e,c,d⟩
theorem ZlD {ns:List Int}{i:Nat} (h:i<ns.length):ns.getD i 0∈ns:=by
 rw[Yat,Yaa h];exact Ybw h
theorem Zkr (hc:X.calm=true):ZbK X (.builtin "min") (fun xs H Q=>∃ (b:Bool) (a:Addr) (ns:List Int),xs=[.ref a]/\SqB b X.K H a (ns.map V.int)/\ns≠[]/\∀ m,m∈ns->(∀ x∈ns,m<=x)->Q (.int m) H):=by
 intro pins s σ H xs us Q I r h;obtain⟨b,a,ns,rfl,hq,hn,q⟩:=h;obtain⟨u,rfl,r1⟩:=ZcR r;cases r1;have hpos:0<ns.length:=List.length_pos_iff.mpr hn;refine call_min_walk (ZoF I (I.ok.hd hc) hq fun I0 fp wr P St s2 W st hfp hP hk=>?_);refine⟨I0,fp,wr,ns.length,P,St,fun i j=>decide (ns.getD i 0<ns.getD j 0),rfl,W,st,hfp,hpos,?_,?_⟩
 ·intro i j vi vj s' Q' E' hi hj hQ;obtain⟨_,t,rfl⟩:=hP i vi hi;obtain⟨_,t',rfl⟩:=hP j vj hj;exact lt_int hQ
 ·intro v h' tk hPv hkk;obtain⟨hi,t,rfl⟩:=hP _ v hPv;refine⟨.int _,H,hk h' tk hkk,⟨t,rfl⟩,q _ (ZlD hi) fun x hx=>?_⟩;obtain⟨i,hi',e⟩:=Ybu hx;have:=Zcg (fun i=>ns.getD i 0) (ns.length - 1) i (by omega);have e2:ns.getD i 0=ns[i]:=by rw[Yat,Yaa hi'];rfl
  rw[<- e,<- e2];exact this
end
end L2
namespace L2
open PySem PySem.Spec PyProof.Rows PySem.SeqAt
section
variable {X:Cx}
end
end L2
namespace L2
open PySem PySem.Spec PyProof.Rows PySem.SeqAt
theorem ZdX {α:Type}:∀ ys:List α,(YaT ys.length).filterMap (ys[·]?)=ys
 | []=>rfl
 | y::ys=>by
  rw[YaU,List.range_succ_eq_map,YbS];show y::(List.map Nat.succ (YaT ys.length)).filterMap ((y::ys)[·]?)=_;rw[Yc7];exact congrArg (y::·) (ZdX ys)
theorem Zhf {α β:Type}{f g:α->Option β}:∀ {l:List α},(∀ x∈l,f x=g x)->l.filterMap f=l.filterMap g
 | [],_=>rfl
 | x::l,h=>by rw[YbS,YbS,h x (by simp),Zhf fun y hy=>h y (by simp[hy])]
theorem Zdx (its:List Value):slicePick its.toArray none none (some (-1))=its.reverse.toArray:=by
 unfold slicePick;have e1:sliceBounds none none (some (-1)) its.toArray.size=((its.length:Int) - 1,-1,-1):=by
  simp[sliceBounds]
 rw[e1];have e2:sliceRange ((its.length:Int) - 1) (-1) (-1)=(YaT its.length).map fun k=>its.length - 1 - k:=by
  unfold sliceRange;have:(if (its.length:Int) - 1 > -1 then ((its.length:Int) - 1 - (-1) - (-1) - 1) / (-(-1)) else 0).toNat=its.length:=by
   by_cases h:(its.length:Int) - 1 > -1
   ·rw[if_pos h,show (-(-1):Int)=1 by decide,Int.ediv_one];omega
   ·rw[if_neg h];omega
  dsimp only;rw[if_neg (by decide),this];apply YbR;intro k hk;have:=Ybg.mp hk;omega
 show (List.filterMap _ (sliceRange ((its.length:Int) - 1) (-1) (-1))).toArray=_;rw[e2,Yc7];congr 1;have e3:=ZdX its.reverse;rw[Yca] at e3;rw[<- e3];apply Zhf;intro k hk;have:=Ybg.mp hk;show its.toArray[its.length - 1 - k]?=_;rw[List.getElem?_toArray,List.getElem?_reverse this]
def ZoW (K:Yae):V->Hp->VK->Prop:=fun x H Q=>∃ a xs,x=.ref a/\SqL K H a xs/\∀ p,H p=none->Q (.ref p) (upd H p (.lst xs.reverse))
def ZoJ (K:Yae) (te:TE) (ts:TO):TE:=fun σ H Q=>te σ H fun x H1=>ts σ H1 fun k H2=>k=some (-1)/\ZoW K x H2 Q
section
variable {X:Cx}{e st:Expr}{te:TE}{ts:TO}{pos p2:Pos}
theorem Zn8 (he:PE X e te) (hst:PO X (some st) ts):PE X (.Subscript e (.Slice none none (some st) p2) pos) (ZoJ X.K te ts):=by
 intro pins s σ H Q I h;refine Subscript_ (thn (he pins s σ H _ I h) fun v s1 ⟨x,H1,I1,r1,q1⟩=>?_);refine wpAny_Slice ?_;rw[evalPart_none];refine wpAny_pure ?_;refine wpAny_pure ?_;refine thn (hst pins s1 σ H1 _ I1 q1) fun vu s3 ⟨u,H3,I3,pu,ek,q3⟩=>?_;subst ek;obtain⟨a,xs,rfl,hx,q⟩:=q3;cases r1;have I4:Inv X pins σ H3 { s3 with heap:=s3.heap.push { cls:=.type "slice",data:=.fields #[.none,.none,vu] } }:=I3.kept (t':=s3.toks) fun b ob q=>Yab _ q;obtain⟨its,r,ht,hz⟩:=I4.list hx;have hlen:=r.length;show wpAny (model X.prog X.w) X.A (subscriptTail e (.Slice none none (some st) p2) (.ref a) (.ref s3.heap.objs.size)) (EP X pins σ Q) X.xe { s3 with heap:=s3.heap.push { cls:=.type "slice",data:=.fields #[.none,.none,vu] } };refine tail_any (ops:=[.ref a,.ref s3.heap.objs.size]) ht.isList.typeIs slot_list_getitem.lookup ?_ (by with_unfolding_all rfl);refine wpAny_getItem_list_slice ht.isList (Yd8 ..) .none .none pu (by simp) ?_ (by rw[YaC] <;> omega);rw[Zdx];refine⟨.ref (s3.heap.push { cls:=.type "slice",data:=.fields #[.none,.none,vu] }).objs.size,_,I4.laid (t':=s3.toks) (o:=.lst xs.reverse) (fun b ob q=>Yab _ q) (Yag _) ?_,rfl,q _ (I4.hok.fresh (Yag _))⟩;exact⟨by rw[Yca];omega,_,0,Vals.reverse r,Yas _ rfl⟩
end
end L2
namespace Lv
open PySem L2
def mxAt:List Int->Nat
 | []=>0
 | x::r=>if r.all (·<=x) then 0 else mxAt r+1
structure IsTop (d:List Int) (r:Nat):Prop where
 lt:r<d.length
 ge:∀ j (h:j<d.length),d[j]<=d[r]
 fst:∀ j (h:j<r),d[j]<d[r]
def Zo5 (c v:List Int):List Int:=Ycg (· - ·) c v
def came (p:Nat):Nat->Nat × List Int
 | 0=>(0,Yai p 0)
 | n+1=>
  let L:=if (came p n).2=cnt p (came p n).1 then (came p n).1+1 else (came p n).1
  let r:=mxAt (Zo5 (cnt p L) (came p n).2)
  (L,(came p n).2.set r ((came p n).2.getD r 0+1))
end Lv
namespace L2
open PySem PySem.Spec PyProof.Rows PySem.SeqAt
section
variable {X:Cx}
end
end L2
namespace Lv
open PySem L2
end Lv
namespace Lv
open PySem L2
end Lv
namespace L2
open PySem PySem.Spec PyProof.Rows PySem.SeqAt
section
variable {X:Cx}
end
end L2
namespace L2
open PySem PySem.Spec PyProof.Rows PySem.SeqAt
section
variable {X:Cx}
end
end L2
namespace L2
open PySem PySem.Spec PyProof.Rows PySem.SeqAt
end L2
namespace L2
open PySem PySem.Spec PyProof.Rows PySem.W
structure RoomS (k:Nat) (A:Around):Prop where
 dp:A.depth+3*k+5<recursionLimit
 un:A.units+16*k+200<cLine
 gd:A.guards=some []
structure FnOkS (P:Program) (w:World) (K:Yae) (mg:Str->Option Value) (base:Heap) (CX:CXT) (k:Nat) (f:Addr) (fd:FuncData) (ps:List Str) (sp:Sp):Prop where
 len:∀ vs H Q E,sp vs H Q E->vs.length=ps.length
 run:∀ (A:Around) (outer:List Env) (s:Shared) (H:Hp) (args:Args) (us:List Value) (vs:List V) (Q:VK) (E:XK),RoomS k A->Env0 P w K mg base A outer s H->BindsTo s fd args (ps.zip us)->Vals vs us->sp vs H Q E ->
  codeAny (model P w) A (.call (.ref f) args) (CR CX outer P w H s Q E) s
section
variable {P:Program}{w:World}{K:Yae}{mg:Str->Option Value}{base:Heap}
end
structure CalS (P:Program) (w:World) (K:Yae) (mg:Str->Option Value) (base:Heap) (k:Nat) (x:Str) (ps:List Str) (sp:Sp) (f:Addr) (fd:FuncData):Prop where
 ok:FnOkS P w K mg base CX0 k f fd ps sp
 mg:mg x=some (.ref f)
 kp:Yan K (.ref f)=true
 bd:Binds K fd ps []
section
variable {X:Cx}
end
end L2
namespace Lv
open PySem L2
def stp (a q:Int × Int):Int × Int:=(a.1+q.1*(if a.2<q.2 then a.2 else q.2),a.2 - (if a.2<q.2 then a.2 else q.2))
def lsF:List (Int × Int)->Int × Int->Int × Int
 | [],a=>a
 | q::M,a=>lsF M (stp a q)
theorem Zg5:∀ (M:List (Int × Int)) (q a:Int × Int),lsF (M++[q]) a=stp (lsF M a) q
 | [],_,_=>rfl
 | x::M,q,a=>by rw[YcR,lsF,lsF,Zg5 M]
theorem Zlx {M:List (Int × Int)}{i:Nat}{q:Int × Int} (h:M[i]?=some q) (a:Int × Int):lsF (M.take (i+1)) a=stp (lsF (M.take i) a) q:=by
 rw[Ybe,h];exact Zg5 _ _ _
theorem ZkM (a q:Int × Int):(stp a q).2=if a.2<q.2 then 0 else a.2 - q.2:=by
 show a.2 - (if a.2<q.2 then a.2 else q.2)=_;split <;> omega
theorem ZlX {l:List Int} (h:∀ x∈l,0<=x):0<=l.sum:=by
 induction l with
 | nil=>exact Ybx _
 | cons x r ih=>
  rw[YaS];have:=h x Yaq;have:=ih fun y hy=>h y (Yar _ hy);omega
theorem ZeB:∀ (M:List (Int × Int)) (a:Int × Int),0<=a.2->(∀ q∈M,0<=q.2)->(lsF M a).2=if a.2<=(M.map (·.2)).sum then 0 else a.2 - (M.map (·.2)).sum
 | [],a,h,_=>by
  show a.2=_;simp;omega
 | q::M,a,h,hq=>by
  have h1:=hq q Yaq;have h2:∀ x∈M,0<=x.2:=fun x hx=>hq x (Yar _ hx);have h3:0<=(M.map (·.2)).sum:=ZlX fun x hx=>by
   obtain⟨y,hy,rfl⟩:=YaG.mp hx;exact h2 y hy
  have e:=ZkM a q;rw[lsF,ZeB M (stp a q) (by rw[e];split <;> omega) h2,e,YaH,YaS];by_cases c1:a.2<q.2
  ·rw[if_pos c1,if_pos (by omega),if_pos (by omega)]
  ·rw[if_neg c1];by_cases c2:a.2 - q.2<=(M.map (·.2)).sum
   ·rw[if_pos c2,if_pos (by omega)]
   ·rw[if_neg c2,if_neg (by omega)];omega
theorem ZdH {M:List (Int × Int)}{xs:List Int} (h:SprL M (cn xs)):∀ q∈M,0<=q.2:=fun q hq=>by
 have:=(h.2 q.1 q.2).mp hq;rw[this.1];exact ZfE _ _
def Zej:Sp:=fun vs H Q _=>∃ (l:Addr) (qs:List Addr) (M:List (Int × Int)) (r:Int),vs=[.ref l,.int r]/\H l=some (.tup (qs.map V.ref))/\TTs H qs (M.map pr2)/\(∀ q∈M,0<=q.1/\q.1<=1000)/\∀ H',Same H H'->Q (if (lsF M (0,r)).2 > 0 then .non else .int (lsF M (0,r)).1) H'
end Lv
namespace Lv
open PySem L2
def sprC (xs:List Int):List (Int × Int):=((YaT 401).map fun (m:Nat)=>((m:Int),cn xs m)).filter fun q=>decide (q.2≠0)
theorem ZfV {xs:List Int} (hb:∀ m∈xs,0<=m/\m<=400):SprL (sprC xs) (cn xs):=by
 refine⟨?_,fun m c=>?_⟩
 ·refine List.Pairwise.filter _ ?_;rw[Ya1];exact YeT.imp fun h=>by
   show ((_:Nat):Int)<((_:Nat):Int);omega
 ·unfold sprC;rw[Yed,YaG];constructor
  ·rintro⟨⟨j,_,e⟩,h⟩;cases e;exact⟨rfl,of_decide_eq_true h⟩
  ·rintro⟨rfl,h⟩;obtain⟨h0,h1⟩:=hb m (cn_ne.mp h);refine⟨⟨m.toNat,Ybg.mpr (by omega),?_⟩,decide_eq_true h⟩;rw[Int.toNat_of_nonneg h0]
theorem Zmz {xs:List Int}{L:List (Int × Int)} (hb:∀ m∈xs,0<=m/\m<=400) (h:SprL L (cn xs)):L=sprC xs:=h.uniq (ZfV hb)
def Zfm (xs:List Int) (rows:Int):Option Int:=if (lsF (sprC xs) (0,rows)).2 > 0 then none else some (lsF (sprC xs) (0,rows)).1
end Lv
namespace Lv
open PySem L2
def pz (x:Int):Int:=if x<0 then 0 else x
theorem ZoX (x:Int):0<=pz x:=by unfold pz;split <;> omega
def svM (M:List (Int × Int)) (t:Int):Int:=(M.map fun q=>q.2*pz (t - q.1)).sum
def sv (xs:List Int) (t:Int):Int:=(xs.map fun x=>pz (t - x)).sum
theorem Zdf:∀ (M:List (Int × Int)) (a b r:Int),lsF M (a+b,r)=(a+(lsF M (b,r)).1,(lsF M (b,r)).2)
 | [],a,b,r=>rfl
 | q::M,a,b,r=>by
  show lsF M (stp (a+b,r) q)=(a+(lsF M (stp (b,r) q)).1,(lsF M (stp (b,r) q)).2);have e:stp (a+b,r) q=(a+(stp (b,r) q).1,(stp (b,r) q).2):=by
   unfold stp;dsimp only;rw[Int.add_assoc]
  rw[e,Zdf M]
theorem Zd4:∀ (M:List (Int × Int)) (a:Int),(∀ q∈M,0<=q.2)->lsF M (a,0)=(a,0)
 | [],a,_=>rfl
 | q::M,a,h=>by
  have h1:=h q Yaq;have e:stp (a,0) q=(a,0):=by
   unfold stp;dsimp only;by_cases z:(0:Int)<q.2
   ·rw[if_pos z];simp
   ·rw[if_neg z,show q.2=0 by omega];simp
  show lsF M (stp (a,0) q)=_;rw[e];exact Zd4 M a fun x hx=>h x (Yar _ hx)
theorem Zj4 (t:Int):∀ (M:List (Int × Int)) (r:Int),0<=r->(∀ q∈M,0<=q.2)->(lsF M (0,r)).2=0->r*t - svM M t<=(lsF M (0,r)).1
 | [],r,_,_,h=>by
  have h:r=0:=h;subst h;simp[svM,lsF]
 | q::M,r,h0,hq,h=>by
  have h1:=hq q Yaq;obtain⟨k,ek,k0,kr,kq⟩:∃ k,(if r<q.2 then r else q.2)=k/\0<=k/\k<=r/\k<=q.2:=⟨_,rfl,by split <;> omega,by split <;> omega,by split <;> omega⟩
  have e:stp (0,r) q=(q.1*k+0,r - k):=by unfold stp;dsimp only;rw[ek,Yff,YdZ]
  have hl:lsF (q::M) (0,r)=(q.1*k+(lsF M (0,r - k)).1,(lsF M (0,r - k)).2):=by
   show lsF M (stp (0,r) q)=_;rw[e,Zdf]
  rw[hl] at h ⊢;have ih:=Zj4 t M (r - k) (by omega) (fun x hx=>hq x (Yar _ hx)) h;have es:svM (q::M) t=q.2*pz (t - q.1)+svM M t:=rfl;rw[es];show r*t - (q.2*pz (t - q.1)+svM M t)<=q.1*k+(lsF M (0,r - k)).1;have e1:(r - k)*t=r*t - k*t:=Int.sub_mul ..;have key:k*t - q.1*k<=q.2*pz (t - q.1):=by
   have e2:k*t - q.1*k=k*(t - q.1):=by rw[Yeu,YdC q.1 k]
   rw[e2];unfold pz;by_cases z:t - q.1<0
   ·rw[if_pos z,Int.mul_zero];have:=Yd7 (show t - q.1<=0 by omega) k0;simpa using this
   ·rw[if_neg z];exact YbB kq (by omega)
  omega
theorem Zix {θ:Int}:∀ {M:List (Int × Int)},(∀ q∈M,θ<=q.1)->svM M θ=0
 | [],_=>rfl
 | q::M,h=>by
  have h1:=h q Yaq;have e:svM (q::M) θ=q.2*pz (θ - q.1)+svM M θ:=rfl;rw[e,Zix fun x hx=>h x (Yar _ hx),show pz (θ - q.1)=0 by unfold pz;split <;> omega];simp
theorem Zj5:∀ (M:List (Int × Int)) (r:Int),1<=r->M.Pairwise (fun p q=>p.1<q.1)->(∀ q∈M,0<=q.2)->r<=(M.map (·.2)).sum->∃ θ∈M.map (·.1),(lsF M (0,r)).1=r*θ - svM M θ
 | [],r,h1,_,_,h=>by simp at h;omega
 | q::M,r,h1,hp,hq,h=>by
  have hq1:=hq q Yaq;obtain⟨hp1,hp2⟩:=YaZ.mp hp;have hq2:∀ x∈M,0<=x.2:=fun x hx=>hq x (Yar _ hx);have es:∀ t,svM (q::M) t=q.2*pz (t - q.1)+svM M t:=fun t=>rfl;by_cases z:r<=q.2
  ·refine⟨q.1,YaG.mpr ⟨q,Yaq,rfl⟩,?_⟩;have e:stp (0,r) q=(q.1*r,0):=by
    unfold stp;dsimp only;by_cases y:r<q.2
    ·rw[if_pos y];simp
    ·rw[if_neg y,show q.2=r by omega];simp
   show (lsF M (stp (0,r) q)).1=_;rw[e,Zd4 M _ hq2,es,Zix fun x hx=>Int.le_of_lt (hp1 x hx),show pz (q.1 - q.1)=0 by unfold pz;split <;> omega];show q.1*r=r*q.1 - (q.2*0+0);rw[Int.mul_zero,YdC];omega
  ·rw[YaH,YaS] at h;obtain⟨θ,hm,e⟩:=Zj5 M (r - q.2) (by omega) hp2 hq2 (by omega);refine⟨θ,YaG.mpr ?_,?_⟩
   ·obtain⟨y,hy,e⟩:=YaG.mp hm;exact⟨y,Yar _ hy,e⟩
   ·have hlt:q.1<θ:=by
     obtain⟨y,hy,rfl⟩:=YaG.mp hm;exact hp1 y hy
    have e2:stp (0,r) q=(q.1*q.2+0,r - q.2):=by
     unfold stp;dsimp only;rw[if_neg (by omega),Yff,YdZ]
    show (lsF M (stp (0,r) q)).1=_;rw[e2,Zdf,es,show pz (θ - q.1)=θ - q.1 by unfold pz;split <;> omega];show q.1*q.2+(lsF M (0,r - q.2)).1=_;rw[e,Int.sub_mul,Yeu,YdC q.1 q.2];omega
theorem sumF (f:Int->Int):∀ {L:List (Int × Int)}{xs:List Int},(L.map (·.1)).Nodup->(∀ m c,(m,c)∈L↔(c=cn xs m/\c≠0))->(L.map fun q=>q.2*f q.1).sum=(xs.map f).sum
 | [],xs,_,h=>by
  cases xs with
  | nil=>rfl
  | cons x r=>exact absurd ((h x (cn (x::r) x)).mpr ⟨rfl,cn_ne.mpr Yaq⟩) Ybm
 | (m,c)::L,xs,nd,h=>by
  rw[YaH,YbL] at nd;obtain⟨h1,h2⟩:=nd;have hc:=(h m c).mp Yaq;have hL:∀ a b,(a,b)∈L↔(b=cn (xs.filter fun x=>decide (x≠m)) a/\b≠0):=fun a b=>by
   have e:a≠m->cn (xs.filter fun x=>decide (x≠m)) a=cn xs a:=fun z=>by
    unfold cn;rw[YfA (by simpa using z)]
   constructor
   ·intro hx;have z:a≠m:=by
     rintro rfl;exact h1 (YaG.mpr ⟨_,hx,rfl⟩)
    rw[e z];exact (h a b).mp (Yar _ hx)
   ·rintro⟨y1,y2⟩;have z:a≠m:=by
     rintro rfl;refine y2 ?_;rw[y1,Zgr];simp
    rw[e z] at y1;rcases Yao.mp ((h a b).mpr ⟨y1,y2⟩) with q | q
    ·cases q;exact absurd rfl z
    ·exact q
  rw[YaH,YaS,sumF f h2 hL,hc.1];unfold cn;have:∀ ys:List Int,((ys.count m:Nat):Int)*f m+((ys.filter fun x=>decide (x≠m)).map f).sum=(ys.map f).sum:=by
   intro ys
   induction ys with
   | nil=>simp
   | cons y r ih=>
    rw[YcY,YfH];by_cases z:y=m
    ·subst z;rw[if_pos (by simp),if_neg (by simp),YaH,YaS,<- ih,YdB,Yew];simp;omega
    ·rw[if_neg (by simpa using z),if_pos (by simpa using z),YaH,YaH,YaS,YaS,<- ih];simp;omega
  exact this xs
theorem ZnT {M:List (Int × Int)}{xs:List Int} (h:SprL M (cn xs)) (t:Int):svM M t=sv xs t:=sumF (fun x=>pz (t - x)) (ZnX h) h.2
def Sub (ys xs:List Int):Prop:=∀ m,cn ys m<=cn xs m
theorem Sub.perm:∀ {ys xs:List Int},Sub ys xs->∃ zs,xs.Perm (ys++zs)
 | [],xs,_=>⟨xs,Ycn _⟩
 | y::ys,xs,h=>by
  have hm:y∈xs:=by
   have:=h y;unfold cn at this;rw[List.count_cons_self] at this;exact List.count_pos_iff.mp (by omega)
  have hp:=Yfa hm;obtain⟨zs,hz⟩:=Sub.perm (ys:=ys) (xs:=xs.erase y) fun m=>by
   have h1:=h m;unfold cn at h1 ⊢;rw[hp.count_eq m,YcY,YcY] at h1;omega
  exact⟨zs,hp.trans (hz.cons y)⟩
theorem ZgW {xs ys:List Int} (h:xs.Perm ys):xs.sum=ys.sum:=by
 induction h with
 | nil=>rfl
 | cons x _ ih=>simp[ih]
 | swap x y l=>simp only[YaS];omega
 | trans _ _ h1 h2=>exact h1.trans h2
theorem Sub.sum {ys xs:List Int} (h:Sub ys xs) {f:Int->Int} (hf:∀ x,0<=f x):(ys.map f).sum<=(xs.map f).sum:=by
 obtain⟨zs,hz⟩:=h.perm;rw[ZgW (hz.map f),Yay,YcW];have:0<=(zs.map f).sum:=ZlX fun x hx=>by
  obtain⟨y,_,rfl⟩:=YaG.mp hx;exact hf y
 omega
theorem ZnU (t:Int):∀ ys:List Int,(ys.length:Int)*t - sv ys t<=ys.sum
 | []=>by simp[sv]
 | y::ys=>by
  have ih:=ZnU t ys;have e:sv (y::ys) t=pz (t - y)+sv ys t:=rfl;rw[e,YaS,YaU,YdB,Yew];have:t - y<=pz (t - y):=by unfold pz;split <;> omega
  simp;omega
structure Lst (xs:List Int) (r v:Int):Prop where
 le:∀ t,r*t - sv xs t<=v
 eq:∃ θ∈xs,v=r*θ - sv xs θ
theorem Zl9 {M:List (Int × Int)}{xs:List Int}{r:Int} (h:SprL M (cn xs)) (h1:1<=r) (hr:r<=xs.length):(lsF M (0,r)).2=0/\Lst xs r (lsF M (0,r)).1:=by
 have hn:=ZdH h;have hs:=ZfU h;have hl:(lsF M (0,r)).2=0:=by
  rw[ZeB M (0,r) (by show (0:Int)<=r;omega) hn,hs];exact if_pos hr
 refine⟨hl,fun t=>?_,?_⟩
 ·rw[<- ZnT h];exact Zj4 t M r (by omega) hn hl
 ·obtain⟨θ,hm,e⟩:=Zj5 M r h1 h.1 hn (by rw[hs];exact hr);exact⟨θ,(Zec h θ).mp hm,by rw[<- ZnT h];exact e⟩
theorem Lst.sub {xs ys:List Int}{v:Int} (h:Lst xs ys.length v) (s:Sub ys xs):v<=ys.sum:=by
 obtain⟨θ,_,e⟩:=h.eq;have h1:=ZnU θ ys;have h2:sv ys θ<=sv xs θ:=s.sum fun x=>ZoX _;omega
end Lv
namespace Lv
open PySem L2
def kr (p:Int) (M:Nat) (ys:List Int):Int:=(ys.map fun y=>p ^ (M - y.toNat)).sum
end Lv
namespace Lv
open PySem L2
def ZdA:Int:=10000000000000000000000000000000000000000000000000000000000000
def upI:List Int->Bool
 | []=>true
 | [_]=>true
 | a::b::r=>decide (a<=b) && upI (b::r)
inductive El (H:Hp):V->Prop
 | int {z:Int} (h1:-ZdA - 2<z) (h2:z<ZdA+2):El H (.int z)
 | bl (b:Bool):El H (.bl b)
 | non:El H .non
 | str {x:Str} (h:x.length<=400) (hc:∀ c∈x.cps.toList,c<16 ^ 8):El H (.str x)
 | lst {a:Addr}{zs:List Int} (e:H a=some (.lst (zs.map V.int))) (hl:zs.length<=3) (hb:∀ z∈zs,-ZdA - 2<z/\z<ZdA+2):El H (.ref a)
 | tup {a:Addr}{zs:List Int} (e:H a=some (.tup (zs.map V.int))) (hl:zs.length<=3) (hb:∀ z∈zs,-ZdA - 2<z/\z<ZdA+2):El H (.ref a)
inductive Lf (H:Hp):V->Prop
 | non:Lf H .non
 | int (i:Int) (h:i=7):Lf H (.int i)
 | bl (b:Bool):Lf H (.bl b)
 | str (x:Str):Lf H (.str x)
 | d0 {a:Addr} (e:H a=some (.dK [])):Lf H (.ref a)
 | d1 {a:Addr} (e:H a=some (.dK [(.inl 1,.int 2)])):Lf H (.ref a)
structure Sh (d:PyData) (n:Nat):Prop where
 ok:d.showable=true
 nd:d.hasDict=false
 dp:d.depth<=1
 sz:d.shown.length<=n
end Lv
namespace Lv
open PySem L2
def Free (N:List (List Int)) (m:List Nat) (o:Int):Prop:=0<=o/\o<N.length/\m.getD o.toNat 0≠(N.getD o.toNat []).length
instance (N:List (List Int)) (m:List Nat) (o:Int):Decidable (Free N m o):=by unfold Free;infer_instance
def ZoZ (m:List Nat) (o:Int):List Nat:=m.set o.toNat (m.getD o.toNat 0+1)
def atO (N:List (List Int)) (m:List Nat) (o:Int):Int:=(N.getD o.toNat []).getD (m.getD o.toNat 0) 0
def hold (N:List (List Int)):List Nat->List Int->List Int->Option (List Nat × List Int)
 | m,t,[]=>some (m,t)
 | m,t,o::os=>if Free N m o then hold N (ZoZ m o) (t++[atO N m o]) os else none
def InM (N:List (List Int)) (m:List Nat):Prop:=m.length=N.length/\∀ j,j<N.length->m.getD j 0<=(N.getD j []).length
end Lv
namespace Lv
open PySem L2
def lenN (N:List (List Int)):List Nat:=N.map Ycx
def opn (N:List (List Int)) (m:List Nat) (j:Nat):Bool:=decide (m.getD j 0<(N.getD j []).length)
def opnL (N:List (List Int)) (m:List Nat):List Nat:=(YaT N.length).filter (opn N m)
structure OrS (N:List (List Int)) (m:List Nat) (t os:List Int):Prop where
 hd:hold N (N.map fun _=>0) [] os=some (m,t)
 up:upI t=true
 lst:∀ l,t.getLast?=some l->∀ j∈opnL N m,l<=atO N m j
 inm:InM N m
 sm:m.sum=os.length
end Lv
namespace L2
open PySem PySem.Spec PyProof.Rows
abbrev two (elt t1 i1:Expr) (f1:List Expr) (t2 i2:Expr) (f2:List Expr) (scope:Scope) (pos:Pos):Expr:=.ListComp elt [⟨t1,i1,f1,0⟩,⟨t2,i2,f2,0⟩] scope pos
theorem Zil (elt t1 i1:Expr) (f1:List Expr) (t2 i2:Expr) (f2:List Expr) (scope:Scope) (pos:Pos) (it acc:Value) (env:Env) :
  compTurn (two elt t1 i1 f1 t2 i2 f2 scope pos) 0 it acc env=(do
   standAt i1.pos
   match <- pyNext it with
   | none=>pure (.done .next)
   | some v=>
    letOwnedTupleGo t1 it v
    assign t1 env v
    let mut ok:=true
    for c in f1 do
     if ok then ok <- isTrue c env (eval c env)
    if ok then
     let x <- eval i2 env
     standAt i2.pos
     let x <- foldedSetIterable i2 env x
     let _ <- runOwn (.compStart (two elt t1 i1 f1 t2 i2 f2 scope pos) 1 (<- holding [x] (pyIter x)) acc env) env
    again (.compLoop (two elt t1 i1 f1 t2 i2 f2 scope pos) 0 it acc env)):=by rfl
theorem Zik (elt t1 i1:Expr) (f1:List Expr) (t2 i2:Expr) (f2:List Expr) (scope:Scope) (pos:Pos) (it acc:Value) (env:Env) :
  compTurn (two elt t1 i1 f1 t2 i2 f2 scope pos) 1 it acc env=(do
   standAt i2.pos
   match <- pyNext it with
   | none=>pure (.done .next)
   | some v=>
    letOwnedTupleGo t2 it v
    assign t2 env v
    let mut ok:=true
    for c in f2 do
     if ok then ok <- isTrue c env (eval c env)
    if ok then
     (do let _ <- call (.builtin "list.append") [acc,<- eval elt env])
    again (.compLoop (two elt t1 i1 f1 t2 i2 f2 scope pos) 1 it acc env)):=by rfl
section
variable {prog:Program}{w:World}{A:Around}{R:Result->Shared->Prop}{s:Shared}{elt t1 i1:Expr}{f1:List Expr}{t2 i2:Expr}{f2:List Expr}{scope:Scope}{pos:Pos}{it acc:Value}{env:Env}
theorem Zjv (I:Nat->Shared->Prop)
  (turn:∀ n s,I n s->wpAny (model prog w) A (pyNext it) (fun r s₁=>match r with
   | none=>R (.ok .next) s₁
   | some v=>wpAny (model prog w) A (letOwnedTupleGo t2 it v) (fun _ s₁'=>wpAny (model prog w) A (assign t2 env v) (fun _ s₂=>
     wpAny (model prog w) A (forIn f2 true fun c r=>if r=true then do let ok <- isTrue c env (eval c env);pure (Ybh ok) else pure (Ybh r)) (fun ok s₃=>
      if ok=true then wpAny (model prog w) A (eval elt env) (fun x s₄=>
       wpAny (model prog w) A (call (.builtin "list.append") [acc,x]) (fun _ s₅=>∃ m,m<n/\I m s₅) (fun _ _=>False) s₄) (fun _ _=>False) s₃
      else ∃ m,m<n/\I m s₃) (fun _ _=>False) s₂) (fun _ _=>False) s₁') (fun _ _=>False) s₁) (fun _ _=>False) s)
  (n:Nat) (h:I n s):codeAny (model prog w) A (.compLoop (two elt t1 i1 f1 t2 i2 f2 scope pos) 1 it acc env) R s:=by
 refine codeAny_loop rfl I (fun n s hI=>?_) n h;show wpAny _ A ((compTurn (two elt t1 i1 f1 t2 i2 f2 scope pos) 1 it acc env).onRaise (fun x=>do noteFrame x env;theTreesLotGoes x)) _ _ s;refine wpAny_noted ?_;rw[Zik];refine wpAny_bind (wpAny_standAt (wpAny_bind (wpAny_mono (turn n s hI) (fun r s₁ h₁=>?_) fun _ _ h'=>h'.elim)))
 cases r with
 | none=>exact wpAny_pure h₁
 | some v=>
  refine wpAny_bind (wpAny_mono h₁ (fun _ s₁' h₁=>?_) fun _ _ h'=>h'.elim);refine wpAny_bind (wpAny_mono h₁ (fun _ s₂ h₂=>wpAny_bind (wpAny_mono h₂ (fun ok s₃ h₃=>?_) fun _ _ h'=>h'.elim)) fun _ _ h'=>h'.elim)
  cases ok with
  | false=>exact wpAny_pure ⟨rfl,h₃⟩
  | true=>
   exact wpAny_bind (wpAny_bind (wpAny_mono h₃ (fun x s₄ h₄=>wpAny_bind (wpAny_mono h₄ (fun _ s₅ h₅=>wpAny_pure (wpAny_pure ⟨rfl,h₅⟩)) fun _ _ h'=>h'.elim)) fun _ _ h'=>h'.elim))
theorem Zhx
  (h0:codeAny (model prog w) A (.compLoop (two elt t1 i1 f1 t2 i2 f2 scope pos) 1 it acc env) R s)
  (h:wpAny (model prog w) A (pyIter it) (fun it' s'=>codeAny (model prog w) A (.compLoop (two elt t1 i1 f1 t2 i2 f2 scope pos) 1 it' acc env) R s')
   (notedBy (model prog w) A env fun x s'=>R (.error x) s') s) :
  codeAny (model prog w) A (.compStart (two elt t1 i1 f1 t2 i2 f2 scope pos) 1 it acc env) R s:=by
 refine codeAny_of_tree ?_;show wpAny _ _ ((compStart (two elt t1 i1 f1 t2 i2 f2 scope pos) 1 it acc env).onRaise (fun x=>do noteFrame x env;standAt theWindowsPlace)) _ _ s;refine wpAny_notedAt ?_;unfold compStart;show wpAny _ _ (ask >>= _) _ _ s;refine wpAny_bind (wpAny_askSetting (wpAny_ite ?_));split
 ·first
   | exact wpAny_bind (wpAny_pure (wpAny_pure (And.intro rfl h0)))
   | exact wpAny_pure (And.intro rfl h0)
 ·refine wpAny_bind (wpAny_rule ?_);show wpAny _ _ (standAt i2.pos >>= _) _ _ s;exact wpAny_bind (wpAny_standAt (wpAny_bind (wpAny_mono h (fun it' s' h'=>wpAny_pure (And.intro rfl h')) fun _ _ x=>x)))
theorem Zjw (I:Nat->Shared->Prop) (hs:∀ x,foldedSetIterable i2 env x=pure x)
  (turn:∀ n s,I n s->wpAny (model prog w) A (pyNext it) (fun r s₁=>match r with
   | none=>R (.ok .next) s₁
   | some v=>wpAny (model prog w) A (letOwnedTupleGo t1 it v) (fun _ s₁'=>wpAny (model prog w) A (assign t1 env v) (fun _ s₂=>
     wpAny (model prog w) A (forIn f1 true fun c r=>if r=true then do let ok <- isTrue c env (eval c env);pure (Ybh ok) else pure (Ybh r)) (fun ok s₃=>
      if ok=true then wpAny (model prog w) A (eval i2 env) (fun x s₄=>wpAny (model prog w) A (pyIter x) (fun itv s₅=>
       codeAny (model prog w) A (.compStart (two elt t1 i1 f1 t2 i2 f2 scope pos) 1 itv acc env) (fun r s₆=>∃ fl,r=.ok fl/\∃ m,m<n/\I m s₆) s₅) (fun _ _=>False) s₄) (fun _ _=>False) s₃
      else ∃ m,m<n/\I m s₃) (fun _ _=>False) s₂) (fun _ _=>False) s₁') (fun _ _=>False) s₁) (fun _ _=>False) s)
  (n:Nat) (h:I n s):codeAny (model prog w) A (.compLoop (two elt t1 i1 f1 t2 i2 f2 scope pos) 0 it acc env) R s:=by
 refine codeAny_loop rfl I (fun n s hI=>?_) n h;show wpAny _ A ((compTurn (two elt t1 i1 f1 t2 i2 f2 scope pos) 0 it acc env).onRaise (fun x=>do noteFrame x env;theTreesLotGoes x)) _ _ s;refine wpAny_noted ?_;rw[Zil];refine wpAny_bind (wpAny_standAt (wpAny_bind (wpAny_mono (turn n s hI) (fun r s₁ h₁=>?_) fun _ _ h'=>h'.elim)))
 cases r with
 | none=>exact wpAny_pure h₁
 | some v=>
  refine wpAny_bind (wpAny_mono h₁ (fun _ s₁' h₁=>?_) fun _ _ h'=>h'.elim);refine wpAny_bind (wpAny_mono h₁ (fun _ s₂ h₂=>wpAny_bind (wpAny_mono h₂ (fun ok s₃ h₃=>?_) fun _ _ h'=>h'.elim)) fun _ _ h'=>h'.elim)
  cases ok with
  | false=>exact wpAny_pure ⟨rfl,h₃⟩
  | true=>
   refine wpAny_bind (wpAny_mono h₃ (fun x s₄ h₄=>wpAny_bind (wpAny_standAt ?_)) fun _ _ h'=>h'.elim);rw[hs];refine wpAny_bind (wpAny_pure (wpAny_bind (wpAny_holding (wpAny_mono h₄ (fun itv s₅ h₅=>?_) fun _ _ h'=>h'.elim))));refine wpAny_bind (wpAny_runOwn (h:=none) (codeAny_mono h₅ fun r s₆ ⟨fl,er,h₆⟩=>?_));subst er;exact wpAny_pure ⟨rfl,h₆⟩
end
end L2
namespace L2
open PySem PySem.Spec PyProof.Rows
def tInW (g2:TG) (tt2:TT) (te:TE) (τ:St) (acc:Addr) (J2:It) (H6:Hp) (Z:Hp->Prop):Prop :=
 ∃ (W2:Nat->Hp->Prop) (n2:Nat),W2 0 H6/\∀ k H7,W2 k H7->(J2.stop k H7/\Z H7)∨(k<n2/\J2.go k H7/\∀ y H8,J2.yld k H7 y H8->g2 y τ H8 fun τ2 H9=>tt2 τ2 H9 fun c H10=>
  if c=true then te τ2 H10 fun z H11=>∃ ys,H11 acc=some (.lst ys)/\ys.length<sizeLine/\W2 (k+1) (upd H11 acc (.lst (ys++[z]))) else W2 (k+1) H10)
def ZfS (own:List Str) (js:List Nat) (g1:TG) (tt1:TT) (wi2:TI) (g2:TG) (tt2:TT) (te:TE) (σ:St) (J:It) (H1:Hp) (Q:VK):Prop :=
 ∀ acc,H1 acc=none->∃ (W:Nat->Hp->Prop) (n:Nat),W 0 (upd H1 acc (.lst []))/\∀ i H2,W i H2 ->
  (J.stop i H2/\Q (.ref acc) H2)∨(i<n/\J.go i H2/\∀ x H3,J.yld i H2 x H3->g1 x (blkσ own js σ) H3 fun τ H4=>tt1 τ H4 fun c H5=>
   if c=true then wi2 τ H5 fun J2 H6=>tInW g2 tt2 te τ acc J2 H6 (W (i+1)) else W (i+1) H5)
def ZnQ (own:List Str) (js:List Nat) (wi:TI) (g1:TG) (tt1:TT) (wi2:TI) (g2:TG) (tt2:TT) (te:TE):TE:=fun σ H Q=>wi σ H fun J H1=>ZfS own js g1 tt1 wi2 g2 tt2 te σ J H1 Q
def ZnD (fr:List Nat) (τ:St):Prop:=∀ i∈fr,∀ v,τ[i]?≠some (some v)
def ZkA (own:List Str) (fr:List Nat) (g:TG):Prop:=∀ (js:List Nat) (σ:St) (x:V) (H:Hp) (Q:St->Hp->Prop),g x (blkσ own js σ) H Q ->
 g x (blkσ own js σ) H fun τ H'=>((∀ (j:Nat) v,(blkσ own js σ)[j]?=some (some v)->τ[j]?=some (some v))/\ZnD fr τ)/\Q τ H'
def Zhq (fr:List Nat) (g:TG):Prop:=∀ (τ:St),ZnD fr τ->∀ (x:V) (H:Hp) (Q:St->Hp->Prop),g x τ H Q->g x τ H fun τ' H'=>(∀ (j:Nat) v,τ[j]?=some (some v)->τ'[j]?=some (some v))/\Q τ' H'
theorem Zh4 {K:Yae}{own:List Str}{i k:Nat}{fr:List Nat} (hi:i<own.length:=by decide) (hk:k<own.length:=by decide) (hf:∀ j∈fr,j<own.length/\j≠i/\j≠k:=by decide):ZkA own fr (gTup K 2 (Zdl (Zbw i) (Zdl (Zbw k) gNil))):=fun js σ x H Q h=>by
 obtain⟨a,xs,rfl,hq,hl,v,r,rfl,w,r',rfl,e,h⟩:=h;refine⟨a,_,rfl,hq,hl,v,_,rfl,w,r',rfl,e,⟨fun j z e=>?_,fun j hj z e=>?_⟩,h⟩
 ·have hj:j≠i:=by rintro rfl;exact Za3 hi e
  have hj':j≠k:=by rintro rfl;exact Za3 hk e
  rw[Ya5 (Ybq hj'),Ya5 (Ybq hj)];exact e
 ·obtain⟨h1,h2,h3⟩:=hf j hj;rw[Ya5 (Ybq h3),Ya5 (Ybq h2)] at e;exact Za3 h1 e
theorem Zh3 {K:Yae}{i k:Nat}:Zhq [i,k] (gTup K 2 (Zdl (Zbw i) (Zdl (Zbw k) gNil))):=fun τ u x H Q h=>by
 obtain⟨a,xs,rfl,hq,hl,v,r,rfl,w,r',rfl,e,h⟩:=h;refine⟨a,_,rfl,hq,hl,v,_,rfl,w,r',rfl,e,fun j z e=>?_,h⟩;have hj:j≠i:=by rintro rfl;exact u j (by simp) _ e
 have hj':j≠k:=by rintro rfl;exact u j (by simp) _ e
 rw[Ya5 (Ybq hj'),Ya5 (Ybq hj)];exact e
section
variable {X:Cx}{scope:Scope}{own:List Str}{js fr:List Nat}{elt t1 i1:Expr}{f1:List Expr}{t2 i2:Expr}{f2:List Expr}{wi wi2:TI}{g1 g2:TG}{tt1 tt2:TT}{te:TE}{pos:Pos}
theorem ZjU {pins:List (Addr × Obj)}{s₂:Shared}{H2:Hp}{C:Addr}{fp:List Addr}{τ:St}{H6:Hp}{s6:Shared}{it2 acc:Addr}{fp2:List Addr}{tn2:Nat->Heap->Prop}{J2:It}{Z:Hp->Prop}{P:List (Addr × Obj)}
  (hc:X.calm=true) (hgk:Zhq fr g2) (hu:ZnD fr τ)
  (hg:PG (X.blk scope own js s₂ H2 C fp pins) t2 g2) (ht:PTs (X.blk scope own js s₂ H2 C fp pins) f2 tt2) (he:PE (X.blk scope own js s₂ H2 C fp pins) elt te)
  (I6:Inv (X.blk scope own js s₂ H2 C fp pins) P τ H6 s6) (T:Turn X.prog X.w X.K t2 J2 fp2 it2 tn2) (st:tn2 0 s6.heap) (hf:∀ b∈fp2,FpOk (X.blk scope own js s₂ H2 C fp pins) P H6 b) (h:tInW g2 tt2 te τ acc J2 H6 Z) :
  codeAny (model X.prog X.w) X.A (.compStart (two elt t1 i1 f1 t2 i2 f2 scope pos) 1 (.ref it2) (.ref acc) (compEnvC scope (clOf scope X.env) C X.env)) (fun r s'=>r=.ok .next/\∃ H',Inv (X.blk scope own js s₂ H2 C fp pins) P τ H' s'/\Z H') s6:=by
 obtain⟨W,nn,w0,turn⟩:=h;have fOk:∀ {H':Hp},(∀ b∈fp2,H' b=none)->∀ b∈fp2,FpOk (X.blk scope own js s₂ H2 C fp pins) P H' b:=fun hn b hb=>⟨hn b hb,(hf b hb).2⟩
 have loop:codeAny (model X.prog X.w) X.A (.compLoop (two elt t1 i1 f1 t2 i2 f2 scope pos) 1 (.ref it2) (.ref acc) (compEnvC scope (clOf scope X.env) C X.env)) (fun r s'=>r=.ok .next/\∃ H',Inv (X.blk scope own js s₂ H2 C fp pins) P τ H' s'/\Z H') s6:=by
  refine Zjv (fun n s'=>∃ i H',n=nn - i/\Inv (X.blk scope own js s₂ H2 C fp pins) P τ H' s'/\tn2 i s'.heap/\(∀ b∈fp2,H' b=none)/\W i H') ?_ nn ⟨0,_,rfl,I6,st,fun b hb=>(hf b hb).1,w0⟩;rintro n s3 ⟨i,H3,en,I3,st3,fr3,w3⟩;rcases turn i H3 w3 with ⟨stop,qn⟩ | ⟨hin,go,step⟩
  ·refine thn (T.done (X.blk scope own js s₂ H2 C fp pins) rfl rfl rfl hc i P s3 _ H3 (fun _ _=>False) I3 (fOk fr3) st3 stop) fun r s4 ⟨hr,I4⟩=>?_;subst hr;exact⟨rfl,H3,I4,qn⟩
  ·refine thn (T.item (X.blk scope own js s₂ H2 C fp pins) rfl rfl rfl hc i P s3 _ H3 (fun _ _=>False) I3 (fOk fr3) st3 go) fun r s4 ⟨u,hr,h4⟩=>?_;subst hr;refine thn h4 fun _ s5 ⟨x,H5,I5,r5,y5,st5,fr5⟩=>?_;have I5':=I5.pinned (fOk fr5) (T.obj _ _ st5);have again:∀ {σ7:St}{H7:Hp}{s7:Shared},Inv (X.blk scope own js s₂ H2 C fp pins) (P++ZcN fp2 s5.heap) σ7 H7 s7->(∀ (j:Nat) v,τ[j]?=some (some v)->σ7[j]?=some (some v))->W (i+1) H7 ->
     ∃ m,m<n/\∃ i H',m=nn - i/\Inv (X.blk scope own js s₂ H2 C fp pins) P τ H' s7/\tn2 i s7.heap/\(∀ b∈fp2,H' b=none)/\W i H':=fun {σ7 H7 s7} I7 hw w7=>by
    refine⟨nn - (i+1),by omega,i+1,H7,rfl,(I7.unpinned).weak (I3.len.trans I7.len.symm) hw,T.keep _ _ _ st5 fun b hb o e=>(I7.pin (b,o) (YaA _ (YaA _ (ZaL hb e)))).1,fun b hb=>?_,w7⟩;obtain⟨o,e,d⟩:=T.obj _ _ st5 b hb;exact (I7.pin (b,o) (YaA _ (YaA _ (ZaL hb e)))).2.1
   refine thn (hg _ s5 _ H5 x u _ I5' r5 (hgk τ hu _ _ _ (step x H5 y5))) fun _ s6 ⟨σ6,H6,I6,kp,q6⟩=>?_;refine thn (ht _ s6 σ6 H6 _ I6 q6) fun ok s7 ⟨H7,I7,q7⟩=>?_
   cases ok with
   | false=>exact again I7 kp q7
   | true=>
    refine thn (he _ s7 σ6 H7 _ I7 q7) fun y s8 ⟨v,H8,I8,r8,ys,hl,hz,w8⟩=>?_;refine thn (Zbl (X:=X.blk scope own js s₂ H2 C fp pins) _ s8 σ6 H8 (.ref acc) [v] (.ref acc) [y] (fun _ H9=>W (i+1) H9) I8 rfl (.cons r8 .nil) ⟨acc,ys,v,rfl,rfl,hl,hz,w8⟩) fun _ s9 ⟨_,H9,I9,_,w9⟩=>?_;exact again I9 kp w9
 exact Zhx loop (T.self _ 0 _ _ _ st loop)
theorem ZlN {pins:List (Addr × Obj)}{σ:St}{H2:Hp}{s₂:Shared}{it:Addr}{fp:List Addr}{tn:Nat->Heap->Prop}{J:It}{Q:VK}{E:Value->Shared->Prop}{RR:Value->Addr->Result->Shared->Prop}
  (c:CompOk X scope own js) (hc:X.calm=true) (hgk:ZkA own fr g1) (hgt:Zhq fr g2)
  (hg:∀ s H C fp pins,PG (X.blk scope own js s H C fp pins) t1 g1) (ht:∀ s H C fp pins,PTs (X.blk scope own js s H C fp pins) f1 tt1) (hi2:∀ s H C fp pins,PI (X.blk scope own js s H C fp pins) t2 i2 wi2)
  (hg2:∀ s H C fp pins,PG (X.blk scope own js s H C fp pins) t2 g2) (ht2:∀ s H C fp pins,PTs (X.blk scope own js s H C fp pins) f2 tt2) (he:∀ s H C fp pins,PE (X.blk scope own js s H C fp pins) elt te)
  (hs2:∀ env x,foldedSetIterable i2 env x=pure x)
  (I:Inv X pins σ H2 s₂) (T:Turn X.prog X.w X.K t1 J fp it tn) (st:tn 0 s₂.heap) (hf:∀ b∈fp,FpOk X pins H2 b) (h:ZfS own js g1 tt1 wi2 g2 tt2 te σ J H2 Q)
  (hRR:∀ acc C H' s' m,s₂.heap.objs.size<=C->H' C=none->Inv X pins σ H' s'->s'.heap.Ns C m->Q (.ref acc) H'->RR (.ref acc) C (.ok .next) s') :
  wpAny (model X.prog X.w) X.A (newList []) (fun acc s₃=>wpAny (model X.prog X.w) X.A (newFunctionEnv scope X.env.globals (clOf scope X.env) [] X.env.qual none .none (some X.env)) (fun cenv s₄=>
   codeAny (model X.prog X.w) X.A (.compStart (two elt t1 i1 f1 t2 i2 f2 scope pos) 0 (.ref it) acc { cenv with scope:=relabel scope X.env }) (RR acc cenv.locals) s₄) E s₃) E s₂:=by
 refine wpAny_newObj_type (wpAny_newFunctionEnv c.cell (by intro y hy;simp at hy) (fun h₁ hns₁ hsb₁=>?_) c.kind);dsimp only at hns₁ hsb₁ ⊢;generalize hH2:s₂.heap.push { cls:=.type "list",dict:=none,data:=.seq ([]:List Value).toArray }=G2 at hns₁ hsb₁ ⊢;have hC:G2.objs.size=s₂.heap.objs.size+1:=by rw[<- hH2,YaY]
 have hDC:s₂.heap.objs.size≠G2.objs.size:=by rw[hC];exact Yaw (Ybs _)
 have hCle:s₂.heap.objs.size<=G2.objs.size:=by rw[hC];exact Ydm _
 have old:∀ b o,s₂.heap.get? b=some o->h₁.get? b=some o:=fun b o e=>hsb₁.extBut b o (Yaw (Yal (Yah e) hCle)) (Yab _ (hH2 ▸ Yab _ e));have hacc:h₁.get? s₂.heap.objs.size=some { cls:=.type "list",data:=.seq ([]:List Value).toArray 0 }:=hsb₁.extBut _ _ hDC (Yab _ (hH2 ▸ Yas _ rfl));have ho2:∀ b∈fp,∃ o,s₂.heap.get? b=some o:=fun b hb=>let ⟨o,e,_⟩:=T.obj 0 _ st b hb;⟨o,e⟩
 have I0:∀ tk,Inv (X.blk scope own js s₂ H2 G2.objs.size fp pins) [] (blkσ own js σ) (upd H2 s₂.heap.objs.size (.lst [])) { s₂ with heap:=h₁,toks:=tk }:=fun tk=>
  ZfH c I hCle hf ho2 hns₁ old (Yag _) hDC hacc
 obtain⟨W,nn,w0,turn⟩:=h s₂.heap.objs.size (I.hok.fresh (Yag _));generalize hacc':s₂.heap.objs.size=acc at *;generalize hGC:G2.objs.size=C at *;have st1:tn 0 h₁:=T.keep 0 _ _ st fun b _ o e=>old b o e;have fOk:∀ {H':Hp},(∀ b∈fp,H' b=none)->∀ b∈fp,FpOk (X.blk scope own js s₂ H2 C fp pins) [] H' b:=fun hn b hb=>by
  obtain⟨f0,f1,f2,f3,f4,f5⟩:=hf b hb;obtain⟨o,e⟩:=ho2 b hb;refine⟨hn b hb,Yaw (Yal (Yah e) (by rw[<- hacc'] at hCle;exact hCle)),fun z=>?_,.inl hb,fun x a h=>f4 x a (c.look I h),fun p hp=>f5 p (by simpa[Cx.blk] using hp)⟩;rcases Yao.mp (I.stkSub b z) with q | q
  ·exact f1 q
  ·exact f2 q
 have loop:∀ s₃:Shared,s₃={ s₂ with heap:=h₁,toks:=s₂.toks+([]:List (Str × Value)).length } ->
   codeAny (model X.prog X.w) X.A (.compLoop (two elt t1 i1 f1 t2 i2 f2 scope pos) 0 (.ref it) (.ref acc) (compEnvC scope (clOf scope X.env) C X.env)) (RR (.ref acc) C) s₃:=by
  rintro s₃ rfl;refine Zjw (fun n s'=>∃ i H',n=nn - i/\Inv (X.blk scope own js s₂ H2 C fp pins) [] (blkσ own js σ) H' s'/\tn i s'.heap/\(∀ b∈fp,H' b=none)/\W i H') (hs2 _) ?_ nn ⟨0,_,rfl,I0 _,st1,fun b hb=>?_,w0⟩
  ·rintro n s3 ⟨i,H3,en,I3,st3,fr3,w3⟩;rcases turn i H3 w3 with ⟨stop,qn⟩ | ⟨hin,go,step⟩
   ·refine thn (T.done (X.blk scope own js s₂ H2 C fp pins) rfl rfl rfl hc i [] s3 _ H3 (fun _ _=>False) I3 (fOk fr3) st3 stop) fun r s4 ⟨hr,I4⟩=>?_;subst hr;obtain⟨m,hn,_⟩:=I4.loc;exact hRR acc C H3 s4 m hCle I4.free (Zgu I hf I4) hn qn
   ·refine thn (T.item (X.blk scope own js s₂ H2 C fp pins) rfl rfl rfl hc i [] s3 _ H3 (fun _ _=>False) I3 (fOk fr3) st3 go) fun r s4 ⟨u,hr,h4⟩=>?_;subst hr;refine thn h4 fun _ s5 ⟨x,H5,I5,r5,y5,st5,fr5⟩=>?_;have I5':=I5.pinned (fOk fr5) (T.obj _ _ st5);have again:∀ {σ7:St}{H7:Hp}{s7:Shared},Inv (X.blk scope own js s₂ H2 C fp pins) ([]++ZcN fp s5.heap) σ7 H7 s7->(∀ (j:Nat) v,(blkσ own js σ)[j]?=some (some v)->σ7[j]?=some (some v))->W (i+1) H7 ->
      ∃ m,m<n/\∃ i H',m=nn - i/\Inv (X.blk scope own js s₂ H2 C fp pins) [] (blkσ own js σ) H' s7/\tn i s7.heap/\(∀ b∈fp,H' b=none)/\W i H':=fun {σ7 H7 s7} I7 hw w7=>by
     refine⟨nn - (i+1),by omega,i+1,H7,rfl,(I7.unpinned).weak ((Zds own js σ X).trans I7.len.symm) hw,T.keep _ _ _ st5 fun b hb o e=>(I7.pin (b,o) (YaA _ (YaA _ (ZaL hb e)))).1,fun b hb=>?_,w7⟩;obtain⟨o,e,d⟩:=T.obj _ _ st5 b hb;exact (I7.pin (b,o) (YaA _ (YaA _ (ZaL hb e)))).2.1
    refine thn (hg s₂ H2 C fp pins _ s5 _ H5 x u _ I5' r5 (hgk _ _ _ _ _ (step x H5 y5))) fun _ s6 ⟨σ6,H6,I6,⟨kp,un⟩,q6⟩=>?_;refine thn (ht s₂ H2 C fp pins _ s6 σ6 H6 _ I6 q6) fun ok s7 ⟨H7,I7,q7⟩=>?_
    cases ok with
    | false=>exact again I7 kp q7
    | true=>
     refine thn (hi2 s₂ H2 C fp pins _ s7 σ6 H7 _ I7 q7) fun v s8 h8=>thn h8 fun itv s9 h9=>?_;obtain⟨it2,fp2,tn2,J2,H9,e9,I9,T2,st9,f9,hw9⟩:=h9;subst e9;refine codeAny_mono (ZjU (t1:=t1) (i1:=i1) (f1:=f1) (i2:=i2) (pos:=pos) hc hgt un (hg2 s₂ H2 C fp pins) (ht2 s₂ H2 C fp pins) (he s₂ H2 C fp pins) I9 T2 st9 f9 hw9) fun r s10 ⟨er,H10,I10,w10⟩=>?_;exact⟨_,er,again I10 kp w10⟩
  ·rw[Zaf ?_]
   ·exact (hf b hb).1
   ·obtain⟨o,e⟩:=ho2 b hb;rw[<- hacc'];exact Yaw (Yah e)
 exact codeAny_compStart_list (loop _ rfl) (T.self _ 0 _ _ _ st1 (loop _ rfl))
end
end L2
namespace L2
open PySem PySem.Spec PyProof.Rows PySem.SeqAt
def ItlB (b:Bool) (K:Yae) (a:Addr):It:=match b with | true=>Itl K a | false=>Itt K a
def Zos (K:Yae) (tl:TE):TI:=fun σ H R=>tl σ H fun x H1=>∃ a b,x=.ref a/\(∃ xs,SqB b K H1 a xs)/\R (ItlB b K a) H1
theorem Zk2 (K:Yae) {X:Cx}{tg l:Expr}{tl:TE} (hl:PE X l tl) (hK:X.K=K:=by rfl):PI X tg l (Zos K tl):=by
 subst hK;intro pins s σ H R I h;refine thn (hl pins s σ H _ I h) fun v s1 ⟨x,H1,I1,r1,q1⟩=>?_;obtain⟨a,b,e,⟨xs,hq⟩,q⟩:=q1;subst e;cases r1;have fp:∀ b∈[s1.heap.objs.size],FpOk X pins H1 b:=fun b hb=>by
  have e:b=s1.heap.objs.size:=by simpa using hb
  subst e;exact I1.fpOk (Yag _) (I1.hok.fresh (Yag _))
 cases b with
 | true=>
  obtain⟨its,rv,p,hz⟩:=I1.list hq;exact wpAny_pyIter_list p.isList ⟨s1.heap.objs.size,[s1.heap.objs.size],_,_,H1,rfl,I1.kept (t':=s1.toks) fun b o e=>Yab _ e,ZeZ a _,⟨_,Yas _ rfl,rfl,rfl⟩,fp,q⟩
 | false=>
  obtain⟨its,rv,p,hz⟩:=I1.tuple hq;exact wpAny_pyIter_tuple (show s1.heap.IsTuple a its.toArray from p) ⟨s1.heap.objs.size,[s1.heap.objs.size],_,_,H1,rfl,I1.kept (t':=s1.toks) fun b o e=>Yab _ e,ZdE a _,⟨_,Yas _ rfl,rfl,rfl⟩,fp,q⟩
theorem Zex {X:Cx}{tg l:Expr}{tl:TE} (hl:PE X l tl):PI X tg l (Zos X.K tl):=Zk2 X.K hl
theorem ZjN {b:Bool}{K:Yae}{H:Hp}{a:Addr}{xs:List V}{i:Nat} (q:SqB b K H a xs) (hi:i<xs.length):(ItlB b K a).go i H:=by
 cases b <;> exact⟨xs,xs[i],q,Yaa hi⟩
theorem Zha {b:Bool}{K:Yae}{H H':Hp}{a:Addr}{xs:List V}{i:Nat}{x:V} (q:SqB b K H a xs) (y:(ItlB b K a).yld i H x H'):H'=H/\xs[i]?=some x:=by
 cases b <;> exact⟨y.1,y.2 xs q⟩
theorem Zfq {b:Bool}{K:Yae}{H:Hp}{a:Addr}{xs:List V}{i:Nat} (q:SqB b K H a xs) (hi:xs.length<=i):(ItlB b K a).stop i H:=by
 cases b <;> exact⟨xs,q,hi⟩
theorem ZjO {b:Bool}{K:Yae}{H:Hp}{a:Addr}{xs:List V}{i:Nat} (q:SqB b K H a xs) (hi:i<xs.length):(IteB b K a).go i H:=by
 cases b <;> exact⟨xs,xs[i],q,Yaa hi⟩
theorem Zhb {b:Bool}{K:Yae}{H H':Hp}{a:Addr}{xs:List V}{i:Nat}{x:V} (q:SqB b K H a xs) (y:(IteB b K a).yld i H x H'):∃ p z,H p=none/\x=.ref p/\H'=upd H p (.tup [.int i,z])/\xs[i]?=some z:=by
 cases b with
 | true=>obtain⟨p,z,hp,e1,e2,y⟩:=y;exact⟨p,z,hp,e1,e2,y xs q⟩
 | false=>obtain⟨p,z,hp,e1,e2,y⟩:=y;exact⟨p,z,hp,e1,e2,y xs q⟩
theorem Zfs {b:Bool}{K:Yae}{H:Hp}{a:Addr}{xs:List V}{i:Nat} (q:SqB b K H a xs) (hi:xs.length<=i):(IteB b K a).stop i H:=by
 cases b <;> exact⟨xs,q,hi⟩
section
variable {b:Bool}{K:Yae}{own:List Str}{js:List Nat}{g1 g2 g:TG}{tt1 tt2 tt:TT}{wi2:TI}{te:TE}{σ τ:St}{H1 H6:Hp}{Q:VK}{a acc:Addr}{xs:List V}
theorem ZfB (Pv:Addr->Nat->Hp->Prop) (h0:∀ acc,H1 acc=none->Pv acc 0 (upd H1 acc (.lst []))) (hl:∀ acc i H,H1 acc=none->i<=xs.length->Pv acc i H->SqB b K H a xs)
  (hs:∀ acc i x H,H1 acc=none->xs[i]?=some x->Pv acc i H->g x (blkσ own js σ) H fun τ H4=>tt τ H4 fun c H5=>
   if c=true then te τ H5 fun y H6=>∃ ys,H6 acc=some (.lst ys)/\ys.length<sizeLine/\(i+1<=xs.length/\Pv acc (i+1) (upd H6 acc (.lst (ys++[y])))) else (i+1<=xs.length/\Pv acc (i+1) H5))
  (hd:∀ acc H,H1 acc=none->Pv acc xs.length H->Q (.ref acc) H):Zbp own js g tt te σ (ItlB b K a) H1 Q:=by
 intro acc hacc;refine⟨fun i H=>i<=xs.length/\Pv acc i H,xs.length,⟨YaW _,h0 acc hacc⟩,?_⟩;rintro i H ⟨hi,p⟩;have q:=hl acc i H hacc hi p;rcases Ybl i xs.length with hlt | hge
 ·refine .inr ⟨hlt,ZjN q hlt,fun x H' y=>?_⟩;obtain⟨rfl,hx⟩:=Zha q y;exact hs acc i x _ hacc hx p
 ·obtain rfl:i=xs.length:=by omega
  exact .inl ⟨Zfq q (Yag _),hd acc H hacc p⟩
theorem Zgq (Pv:Addr->Nat->Hp->Prop) (h0:∀ acc,H1 acc=none->Pv acc 0 (upd H1 acc (.lst []))) (hl:∀ acc i H,H1 acc=none->i<=xs.length->Pv acc i H->SqB b K H a xs)
  (hs:∀ acc i x p H,H1 acc=none->xs[i]?=some x->Pv acc i H->H p=none->g1 (.ref p) (blkσ own js σ) (upd H p (.tup [.int i,x])) fun τ H4=>tt1 τ H4 fun c H5=>
   if c=true then wi2 τ H5 fun J2 H6=>tInW g2 tt2 te τ acc J2 H6 (fun H7=>i+1<=xs.length/\Pv acc (i+1) H7) else (i+1<=xs.length/\Pv acc (i+1) H5))
  (hd:∀ acc H,H1 acc=none->Pv acc xs.length H->Q (.ref acc) H):ZfS own js g1 tt1 wi2 g2 tt2 te σ (IteB b K a) H1 Q:=by
 intro acc hacc;refine⟨fun i H=>i<=xs.length/\Pv acc i H,xs.length,⟨YaW _,h0 acc hacc⟩,?_⟩;rintro i H ⟨hi,p⟩;have q:=hl acc i H hacc hi p;rcases Ybl i xs.length with hlt | hge
 ·refine .inr ⟨hlt,ZjO q hlt,fun x H' y=>?_⟩;obtain⟨pa,z,hp,rfl,rfl,hx⟩:=Zhb q y;exact hs acc i z pa H hacc hx p hp
 ·obtain rfl:i=xs.length:=by omega
  exact .inl ⟨Zfs q (Yag _),hd acc H hacc p⟩
theorem ZlE {tb:TS}{D:Ends}{H:Hp} (Pv:Nat->St->Hp->Prop) (h0:Pv 0 σ H) (hl:∀ i σ H,i<=xs.length->Pv i σ H->SqB b K H a xs)
  (hs:∀ i x σ H,xs[i]?=some x->Pv i σ H->g x σ H fun σ2 H2=>tb { D with nx:=Pv (i+1),ct:=Pv (i+1),bk:=D.nx } σ2 H2) (hd:∀ σ H,Pv xs.length σ H->D.nx σ H) :
  ∃ W:Nat->Nat->St->Hp->Prop,(∃ m,W 0 m σ H)/\∀ i m σ H,W i m σ H ->
   ((ItlB b K a).stop i H/\D.nx σ H)∨((ItlB b K a).go i H/\∃ N:St->Hp->Prop,(∀ σ' H',N σ' H'->∃ m',m'<m/\W (i+1) m' σ' H')/\∀ x H',(ItlB b K a).yld i H x H'->g x σ H' fun σ2 H2=>tb { D with nx:=N,ct:=N,bk:=D.nx } σ2 H2):=by
 refine⟨fun i m σ H=>m=xs.length - i/\i<=xs.length/\Pv i σ H,⟨xs.length,by simp,YaW _,h0⟩,?_⟩;rintro i m σ H ⟨rfl,hi,p⟩;have q:=hl i σ H hi p;rcases Ybl i xs.length with hlt | hge
 ·refine .inr ⟨ZjN q hlt,Pv (i+1),fun σ' H' z=>⟨xs.length - (i+1),by omega,rfl,hlt,z⟩,fun x H' y=>?_⟩;obtain⟨rfl,hx⟩:=Zha q y;exact hs i x σ _ hx p
 ·obtain rfl:i=xs.length:=by omega
  exact .inl ⟨Zfq q (Yag _),hd σ H p⟩
end
end L2
namespace Lv
open PySem L2
def prs:Nat->List (List Int)->List Nat->List (Int × Nat)
 | k,x::N,m::ms=>(x.drop m).map (fun z=>(z,k))++prs (k+1) N ms
 | _,_,_=>[]
def Zok (p q:Int × Nat):Prop:=p.1<q.1∨(p.1=q.1/\p.2<=q.2)
structure MgS (N:List (List Int)) (m:List Nat) (tk:List (Int × Nat)):Prop where
 inm:InM N m
 perm:(tk++prs 0 N m).Perm (prs 0 N (N.map fun _=>0))
 srt:tk.Pairwise Zok
 le:∀ p∈tk,∀ q∈prs 0 N m,Zok p q
 sm:m.sum=tk.length
def SeqI (H:Hp) (r:Addr) (xs:List V):Prop:=H r=some (.lst xs)∨H r=some (.tup xs)
structure RwS (H:Hp) (a:Addr) (rs:List Addr) (N:List (List Int)):Prop where
 top:SeqI H a (rs.map V.ref)
 len:rs.length=N.length
 row:∀ (j:Nat) r xs,rs[j]?=some r->N[j]?=some xs->SeqI H r (xs.map V.int)
theorem ZcL {qs:List Addr}{i:Nat}{x:V} (h:(qs.map V.ref)[i]?=some x):∃ p,qs[i]?=some p/\x=.ref p:=by
 rw[Yam] at h
 cases e:qs[i]? with
 | none=>rw[e] at h;cases h
 | some p=>rw[e] at h;exact⟨p,rfl,(YaE h).symm⟩
structure GoodT (N:List (List Int)):Prop where
 many:N.length<=12
 tot:(lenN N).sum<=400
 bnd:∀ xs∈N,∀ z∈xs,-ZdA<z/\z<ZdA
 srt:∀ xs∈N,xs.Pairwise (·<=·)
structure GoodB (b:Nat) (N:List (List Int)):Prop where
 len:∀ xs∈N,xs.length<=b
 bnd:∀ xs∈N,∀ z∈xs,-ZdA<z/\z<ZdA
 srt:∀ xs∈N,xs.Pairwise (·<=·)
end Lv
namespace L2
open PySem PySem.Spec PyProof.Rows PySem.SeqAt
section
variable {X:Cx}
end
end L2
namespace Lv
open PySem L2
def Fr (S:List Addr) (H H':Hp):Prop:=∀ b o,H b=some o->b ∉ S->H' b=some o
abbrev Rows:=List (Option (List Int))
def datO:Option (List Int)->PyData
 | none=>.none
 | some xs=>.list (xs.map PyData.int)
def ZoT (ds:Rows):PyData:=.list (ds.map datO)
def shp (D:List Rows):List (List Bool):=D.map fun ds=>ds.map Option.isSome
abbrev Cell:=Option (Addr × List Int)
abbrev Reel:=Addr × List Cell
def cV:Cell->V
 | none=>.non
 | some (r,_)=>.ref r
def cA:Cell->List Addr
 | none=>[]
 | some (r,_)=>[r]
def cOk (H:Hp):Cell->Prop
 | none=>True
 | some (r,xs)=>H r=some (.lst (xs.map V.int))
def tA (t:Reel):List Addr:=t.1::t.2.flatMap cA
def adr (T:List Reel):List Addr:=T.flatMap tA
def tOk (H:Hp) (t:Reel):Prop:=H t.1=some (.lst (t.2.map cV))/\∀ c∈t.2,cOk H c
def NRL (H:Hp) (T:List Reel):Prop:=∀ t∈T,tOk H t
def TB (H:Hp) (tr:List Addr) (B:List (List Bool)):Prop:=tr.length=B.length/\∀ (j:Nat) r bs,tr[j]?=some r->B[j]?=some bs->H r=some (.tup (bs.map V.bl))
end Lv
namespace Lv
open PySem L2
def St (S:List Addr) (H:Hp) (Φ:Hp->Prop):Prop:=∀ H',Fr S H H'->Φ H'
structure Bld (S:List Addr) (H:Hp) (us:List V) (rs tr:List Addr) (D:List Rows) (R:List (List Int)):Prop where
 due:St S H fun H'=>RdL H' us (D.map ZoT)
 rows:St S H fun H'=>LLs H' rs R
 lay:St S H fun H'=>TB H' tr (shp D)
end Lv
namespace Lv
open PySem L2
end Lv
namespace Lv
open PySem L2
def les (m x:Int):Int:=if x - m > 0 then x - m else 0
def Znz (c:List Int) (out:Nat) (m:Int):List Int:=(c.map (les m)).set out m
def Zpg (a b:List Int):Prop:=a.length=b.length/\∀ j:Nat,a.getD j 0<=b.getD j 0
def Cov (c L:List Int):Prop:=∃ l:List Int,l.Perm (c)/\Zpg l (L++[0])
end Lv
namespace L2
open PySem PySem.Spec PyProof.Rows PySem.SeqAt
section
variable {X:Cx}
end
end L2
namespace Lv
open PySem L2
def rk (st:List Int):List Int:=st.mergeSort fun a b=>decide (a ≥ b)
def CovL (L r:List Int):Prop:=∀ j,j<L.length->r.getD j 0<=L.getD j 0
instance (L r:List Int):Decidable (CovL L r):=inferInstanceAs (Decidable (∀ j,j<L.length->r.getD j 0<=L.getD j 0))
def big:Int:=1000000000000000000000000000000000000000000000000000000000000
structure Stand (p:Nat) (st:List Int):Prop where
 p2:2<=p
 p7:p<=7
 len:st.length=p+1
 nn:∀ x∈st,0<=x
 le:∀ x∈st,x<=big
 zero:(0:Int)∈st
 pos:∃ x∈st,1<=x
def mxl:List Int->Int
 | []=>0
 | x::r=>if mxl r > x then mxl r else x
structure On (p:Nat) (c:List Int) (n:Nat):Prop where
 len:c.length=p+1
 cov:Cov c (cnt p n)
 nn:∀ x∈c,0<=x
 pos:∃ x∈c,1<=x
def fb (L r:List Int):Nat:=((YaT L.length).filter fun j=>decide (r.getD j 0 > L.getD j 0)).headD 0
end Lv
namespace Lv
open PySem L2
end Lv
namespace Lv
open PySem L2
end Lv
namespace L2
open PySem PySem.Spec PyProof.Rows
section
variable {X:Cx}
end
end L2
namespace Lv
open PySem L2
theorem ZhY {K:Yae}:Yd3 K (.type "list") (["list","tuple"].map YbV)=some true:=by with_unfolding_all rfl
def Zed:Sp:=fun vs H Q _=>∃ (a:Addr) (xs:List V) (n:Int),vs=[.ref a,.int n]/\H a=some (.tup xs)/\(xs.length:Int)=n/\Q (.bl true) H
end Lv
namespace L2
open PySem PySem.Spec PyProof.Rows PySem.W
abbrev VB:List Value:=[.type "ValueError",.type "Exception",.type "BaseException",.type "object"]
def Zow (K:Frag) (C:Addr):Bool:=match K.lookup C with
 | some ⟨.type "type",_,.cls cd,sl⟩=>(match cd.mro,sl.toList with
  | .ref D::bm,[_,_,_,_,some (.builtin n),_]=>D == C && (n == "ValueError.__new__" && (!cd.hasDel && (tailIn K VB bm && (nsOkIn K cd.ns && cd.hasDict))))
  | _,_=>false)
 | _=>false
def Znu (K:Frag) (C fI:Addr):Bool:=Zow K C && (Zj3 K C && (findIn K (.ref C) "__setattr__" == some (some (.builtin "object.__setattr__")) && (findIn K (.ref C) "at" == some none && (isFn K (.ref fI) && (keepIn K (.ref C) && findIn K (.ref C) "__init__" == some (some (.ref fI)))))))
section
variable {prog:Program}{w:World}{A:Around}{E:Value->Shared->Prop}{s:Shared}{K:Frag}{x C fI:Addr}{v:Value}
abbrev newExc (C t:Addr):Obj:={ cls:=.ref C,data:=.fields #[.ref t,.none,.none,.none,.bool false,.none] }
end
end L2
namespace L2
open PySem PySem.Spec PyProof.Rows PySem.W
section
variable {X:Cx}{o value:Expr}{pos pos':Pos}{ta tv:TE}{C fI:Addr}
end
end L2
namespace Lv
open PySem L2 PySem.W
structure ExcTabI (K:Frag) (reel C fI:Addr) (all:List Addr):Prop where
 ok:Znu K C fI=true
 exm:exmOne K (.ref C) (.ref reel)=some true
 exmS:exmOne K (.ref C) (.ref C)=some true
 isR:kitOne K (.ref C) (.ref reel)=some true
 isV:kitOne K (.ref C) (.type "ValueError")=some true
 one:∀ D∈all,kitOne K (.ref C) (.ref D)=some (D == C)
end Lv
namespace Lv
open PySem L2
def PhOk (c:List Int) (out m:Int):Prop:=(0<=out/\out<(c.length:Int))/\(c.getD out.toNat 0<=0/\(1<=m/\m<=mxl c))
instance (c:List Int) (out m:Int):Decidable (PhOk c out m):=by unfold PhOk;infer_instance
def Zef:Sp:=fun vs H Q _=>∃ i n:Int,vs=[.int i,.int n]/\Q (.bl (decide (0<=i/\i<n))) H
end Lv
namespace Lv
open PySem L2
def wk:List Int->List (Int × Int)->Nat->Except Nat (List Int)
 | c,[],_=>.ok c
 | c,(o,m)::r,i=>if PhOk c o m then wk (Znz c o.toNat m) r (i+1) else .error i
def fin (c:List Int) (ps:List (Int × Int)):Except Nat (List Int):=match wk c ps 0 with
 | .ok d=>if 1<d.sum then .error ps.length else .ok d
 | .error i=>.error i
structure Way (c0:List Int) (ps:List (Int × Int)) (i:Nat) (c:List Int):Prop where
 wk:wk c0 ps 0=wk c (ps.drop i) i
 len:c.length=c0.length
 nn:∀ x∈c,0<=x
structure Cts (p:Nat) (c:List Int):Prop where
 len:c.length=p+1
 nn:∀ x∈c,0<=x
 le:∀ x∈c,x<=big
 pos:∃ x∈c,1<=x
end Lv
namespace Lv
open PySem L2
def Zc2:Sp:=fun vs H Q _=>∃ (a:Addr) (xs:List V) (bb:Bool),vs=[.ref a]/\H a=some (if bb then .lst xs else .tup xs)/\∀ H',Same H H'->Q (.bl true) H'
end Lv
namespace Lv
open PySem L2
def srt (xs:List Int):List Int:=xs.mergeSort fun a b=>decide (a<=b)
def rl90 (cs:Rows):List (List Int):=cs.filterMap id
def mrg (cs:Rows):Option (List Int):=if rl90 cs=[] then none else some (srt (rl90 cs).flatten)
def tkA (D:List Rows) (m i:Nat):Rows:=D.filterMap fun r=>(r.take m)[i]?
def phR (D:List Rows) (o m:Nat):List Rows:=(D.map (·.drop m)).set o ((YaT m).map fun i=>mrg (tkA D m i))
def thg (cs:Rows):Int:=((rl90 cs).map fun xs=>(xs.length:Int)).sum
def lns (D:List Rows):List Int:=D.map fun r=>(r.length:Int)
def allT (D:List Rows):List Int:=(rl90 D.flatten).flatten
abbrev refT (T:List Reel):List V:=T.map fun t=>V.ref t.1
def plR:List Rows->List (Int × Int)->List Rows
 | D,[]=>D
 | D,(o,m)::r=>plR (phR D o.toNat m.toNat) r
def rdR:List Rows->List (Int × Int)->List (List Int)
 | _,[]=>[]
 | D,(o,m)::r=>(D.map fun q=>thg (q.take m.toNat))::rdR (phR D o.toNat m.toNat) r
def Pls:List Rows->List (Int × Int)->Prop
 | _,[]=>True
 | D,(o,m)::r=>PhOk (lns D) o m/\Pls (phR D o.toNat m.toNat) r
end Lv
namespace Lv
open PySem L2
def dot:List Int->List Int->Int
 | w::ws,n::ns=>w*n+dot ws ns
 | _,_=>0
def fmJ (p:Int) (L:Nat):Nat:=(((L:Int) - 2) % (p - 1)+2).toNat
def hfF (p:Int):Nat->List Int->Int
 | 0,_=>0
 | k+1,ws=>if ws.length<=1 then 0 else (ws.take (fmJ p ws.length)).sum+hfF p k (srt ((ws.take (fmJ p ws.length)).sum::ws.drop (fmJ p ws.length)))
def hf (p:Int) (ws:List Int):Int:=hfF p ws.length (srt ws)
theorem ZgX {ws vs:List Int} (h:ws.Perm vs):∀ {ns:List Int},ns.length=ws.length->∃ ms,ms.Perm ns/\dot vs ms=dot ws ns:=by
 induction h with
 | nil=>intro ns h;exact⟨ns,Ycn _,rfl⟩
 | cons w _ ih=>
  intro ns h
  cases ns with
  | nil=>simp at h
  | cons n ns=>
   obtain⟨ms,h1,h2⟩:=ih (ns:=ns) (by simpa using h);exact⟨n::ms,h1.cons n,by rw[dot,dot,h2]⟩
 | swap a b l=>
  intro ns h
  match ns,h with
  | n::m::ns,h=>exact⟨m::n::ns,YcE _ _ _,by simp only[dot];omega⟩
  | [n],h=>simp at h
  | [],h=>simp at h
 | trans h1 _ ih1 ih2=>
  intro ns h;obtain⟨ms,a1,a2⟩:=ih1 h;obtain⟨ks,b1,b2⟩:=ih2 (ns:=ms) (by rw[a1.length_eq,h,h1.length_eq]);exact⟨ks,b1.trans a1,b2.trans a2⟩
theorem Zoz:∀ {ws ns:List Int}{w0 n0 N:Int},ws.length=ns.length->(∀ w∈ws,w0<=w)->n0<=N->N∈ns->∃ ms,(N::ms).Perm (n0::ns)/\w0*N+dot ws ms<=w0*n0+dot ws ns
 | [],[],_,_,_,_,_,_,h=>by simp at h
 | [],_::_,_,_,_,h,_,_,_=>by simp at h
 | _::_,[],_,_,_,h,_,_,_=>by simp at h
 | w::ws,n::ns,w0,n0,N,hl,hw,hn,hm=>by
  rcases Yao.mp hm with rfl | hm
  ·refine⟨n0::ns,YcE _ _ _,?_⟩;have h1:=hw w Yaq;have h2:w0*(N - n0)<=w*(N - n0):=YbB h1 (by omega);rw[Yeu,Yeu] at h2;simp only[dot];omega
  ·obtain⟨ms,h1,h2⟩:=Zoz (ws:=ws) (ns:=ns) (w0:=w0) (n0:=n0) (by simpa using hl) (fun x hx=>hw x (Yar _ hx)) hn hm;refine⟨n::ms,((YcE _ _ _).trans (h1.cons n)).trans (YcE _ _ _),?_⟩;simp only[dot];omega
theorem mxE:∀ (ns:List Int),ns≠[]->∃ N∈ns,∀ n∈ns,n<=N
 | [],h=>absurd rfl h
 | [n],_=>⟨n,Yaq,fun x hx=>by rw[YaF.mp hx];exact Ybx _⟩
 | n::m::ns,_=>by
  obtain⟨N,h1,h2⟩:=mxE (m::ns) (by simp);by_cases z:n<=N
  ·exact⟨N,Yar _ h1,fun x hx=>by
    rcases Yao.mp hx with rfl | hx
    ·exact z
    ·exact h2 x hx⟩
  ·exact⟨n,Yaq,fun x hx=>by
    rcases Yao.mp hx with rfl | hx
    ·exact Ybx _
    ·have:=h2 x hx;omega⟩
theorem Zn4:∀ (ws ns:List Int),ws.length=ns.length->ws.Pairwise (·<=·)->∃ ms,ms.Perm ns/\ms.Pairwise (fun a b=>b<=a)/\dot ws ms<=dot ws ns
 | [],[],_,_=>⟨[],Ycn _,YbM,Ybx _⟩
 | [],_::_,h,_=>by simp at h
 | _::_,[],h,_=>by simp at h
 | w::ws,n::ns,hl,hs=>by
  obtain⟨N,h1,h2⟩:=mxE (n::ns) (by simp);obtain⟨ks,k1,k2⟩:∃ ks,(N::ks).Perm (n::ns)/\w*N+dot ws ks<=w*n+dot ws ns:=by
   rcases Yao.mp h1 with rfl | h1
   ·exact⟨ns,Ycn _,Ybx _⟩
   ·exact Zoz (by simpa using hl) (fun x hx=>(YaZ.mp hs).1 x hx) (h2 n Yaq) h1
  have hkl:ws.length=ks.length:=by have:=k1.length_eq;simp at this hl;omega
  obtain⟨ms,m1,m2,m3⟩:=Zn4 ws ks hkl (YaZ.mp hs).2;refine⟨N::ms,(m1.cons N).trans k1,YaZ.mpr ⟨fun x hx=>h2 x (k1.subset (Yar _ (m1.subset hx))),m2⟩,?_⟩;simp only[dot];omega
theorem Zgn:∀ {a b c d:List Int},a.length=c.length->dot (a++b) (c++d)=dot a c+dot b d
 | [],b,[],d,_=>by simp[dot]
 | [],_,_::_,_,h=>by simp at h
 | _::_,_,[],_,h=>by simp at h
 | x::a,b,y::c,d,h=>by
  have ih:=Zgn (a:=a) (b:=b) (c:=c) (d:=d) (by simpa using h);simp only[YcR,dot,ih];omega
end Lv
namespace L2
open PySem PySem.Spec PyProof.Rows PySem.SeqAt
section
variable {prog:Program}{w:World}{A:Around}{E:Value->Shared->Prop}{s:Shared}
end
section
variable {X:Cx}{tg:Expr}
end
end L2
namespace L2
open PySem PySem.Spec PyProof.Rows
section
variable {X:Cx}{tg:Expr}
end
end L2
namespace Lv
open PySem L2
inductive Chain (p:Nat):Int->List Int->List (List Int)->Prop
 | one (m x:Int):Chain p m [x] []
 | step (m:Int) (th T rest:List Int) (L:List (List Int)) (h1:th.Perm (T++rest)) (h2:T≠[]) (h3:T.length<=p) (h:Chain p (m+1) (rest++[m]) L):Chain p m th (T::L)
def pw (p D:Nat) (f:Int->Nat) (xs:List Int):Nat:=(xs.map fun x=>p ^ (D - f x)).sum
inductive Built (p r:Nat):List (List Int)->List Int->Prop
 | nil:Built p r [] ((YaT r).map fun (i:Nat)=>(i:Int))
 | snoc (L:List (List Int)) (th T rest:List Int) (h:Built p r L th) (h1:th.Perm (T++rest)) (h2:T≠[]) (h3:T.length<=p):Built p r (L++[T]) (rest++[((r+L.length:Nat):Int)])
end Lv
namespace Lv
open PySem L2
theorem cut3 {a b c R:TS}{D:Ends}{σ:L2.St}{H:Hp} (M:L2.St->Hp->Prop) (h1:∀ R':TS,(∀ σ' H',M σ' H'->R' D σ' H')->tSeq a (tSeq b (tSeq c R')) D σ H) (h2:∀ σ' H',M σ' H'->R D σ' H'):tSeq a (tSeq b (tSeq c R)) D σ H:=h1 R h2
def Zf1:Sp:=fun vs H Q _=>∃ (c:Int) (k:Nat),vs=[.int c,.int k]/\k<=1000/\∀ d H',0<=d->Same H H'->Q (.int d) H'
end Lv
namespace L2
open PySem PySem.Spec PyProof.Rows PySem.SeqAt
end L2
namespace Lv
open PySem L2
def upL (ks:List (List Int)):Prop:=ks.Pairwise (fun p q=>lxB q p=false)
def k0 (k:List Int):Int:=k.getD 0 0
def k1 (k:List Int):Int:=k.getD 1 0
inductive JRun (p:Nat):Nat->Int->List (List Int)->Int->List (List Int)->Prop
 | done (m:Nat) (n:Int) (ks:List (List Int)) (h:ks.length<=1):JRun p m n ks 0 []
 | step (m:Nat) (n:Int) (ks ks':List (List Int)) (r:Int) (T:List Int) (L:List (List Int)) (h2:2<=ks.length)
   (hT:T.Perm ((ks.take m).map k1)) (hT2:T.Pairwise (·<=·)) (hk:ks'.Perm (ks.drop m++[[((ks.take m).map k0).sum,n]])) (hs:upL ks')
   (h:JRun p p (n+1) ks' r L):JRun p m n ks (((ks.take m).map k0).sum+r) (T::L)
def lkI (D:List (Int × Int)) (x:Int):Option Int:=(D.find? fun q=>decide (q.1=x)).map (·.2)
def okT (m:Nat) (D:List (Int × Int)) (T:List Int):Prop:=T.length=m/\(∀ x∈T,(lkI D x).isSome=true)/\T.Pairwise (·<·)/\srt (T.map fun x=>(lkI D x).getD 0)=(srt (D.map (·.2))).take T.length
instance (m:Nat) (D:List (Int × Int)) (T:List Int):Decidable (okT m D T):=by unfold okT;infer_instance
end Lv
namespace Lv
open PySem L2
def leP:List Int->List Int->Prop
 | [],[]=>True
 | a::as,b::bs=>a<=b/\leP as bs
 | _,_=>False
theorem leP.len:∀ {a b:List Int},leP a b->a.length=b.length
 | [],[],_=>rfl
 | _::a,_::b,h=>by rw[YaU,YaU,leP.len h.2]
 | [],_::_,h=>h.elim
 | _::_,[],h=>h.elim
theorem leP.refl:∀ a:List Int,leP a a
 | []=>trivial
 | x::a=>⟨Ybx _,leP.refl a⟩
end Lv
namespace Lv
open PySem L2
def pre:Int->List Int->List Int
 | _,[]=>[]
 | s,x::r=>(s+x)::pre (s+x) r
end Lv
namespace L2
open PySem PySem.Spec PyProof.Rows PySem.SeqAt
section
variable {X:Cx}
end
end L2
namespace Lv
open PySem L2
def ZjB (N:List (List Int)):List Int:=N.map fun xs=>(xs.length:Int)
def ZoS (r:List (List Int)) (t:Nat):List Int:=r.getD t []
def S (q:Int) (g:Nat->List Int) (a:List Int):Int:=((YaT a.length).map fun t=>((g t).count q:Int)*a.getD t 0).sum
def pot (q:Int):List (List (List Int))->List (List Int)->Int
 | r::R,a::N=>S q (ZoS r) a+pot q R N
 | _,_=>0
end Lv
namespace Lv
open PySem L2
end Lv
namespace Lv
open PySem L2
end Lv
namespace Lv
open PySem L2
end Lv
namespace L2
open PySem PySem.Spec PyProof.Rows PySem.SeqAt
section
variable {X:Cx}{scope:Scope}{own:List Str}{js fr:List Nat}{elt i1 t1 i2 t2:Expr}{f1 f2:List Expr}{wi wi2:TI}{g1 g2:TG}{tt1 tt2:TT}{te:TE}{pos:Pos}
theorem ZkY {i:Nat}{y:Str}{py spos:Pos} (hN:X.N.Nodup) (hy:X.N[i]?=some y) (hyl:X.env.scope.names.lookup y=some .local) (c:CompOk X scope own js) (hc:X.calm=true) (hi:PI X t1 i1 wi) (hgk:ZkA own fr g1) (hgt:Zhq fr g2)
  (hg:∀ s H C fp pins,PG (X.blk scope own js s H C fp pins) t1 g1) (ht:∀ s H C fp pins,PTs (X.blk scope own js s H C fp pins) f1 tt1) (hi2:∀ s H C fp pins,PI (X.blk scope own js s H C fp pins) t2 i2 wi2)
  (hg2:∀ s H C fp pins,PG (X.blk scope own js s H C fp pins) t2 g2) (ht2:∀ s H C fp pins,PTs (X.blk scope own js s H C fp pins) f2 tt2) (he:∀ s H C fp pins,PE (X.blk scope own js s H C fp pins) elt te)
  (hsw:swapsWith (two elt t1 i1 f1 t2 i2 f2 scope pos) (some (.Name y py)) spos.line X.env=pure true:=by rfl)
  (hs:∀ x,foldedSetIterable i1 X.env x=pure x:=by intro _;rfl) (hs2:∀ env x,foldedSetIterable i2 env x=pure x:=by intro _ _;rfl):PS X (.Assign [.Name y py] (two elt t1 i1 f1 t2 i2 f2 scope pos) spos) (tAsg (ZnQ own js wi g1 tt1 wi2 g2 tt2 te) (Zbw i)):=by
 intro pins s σ H D I h;rw[exec_Assign_Name_used _ _ _ _ hsw];refine wpAny_bind (wpAny_standAt (wpAny_bind ?_));show wpAny _ X.A (do let _ <- comprehension (two elt t1 i1 f1 t2 i2 f2 scope pos) scope X.env _ (newList []) false (eval i1 X.env) (some (assign (.Name y py) X.env))) _ _ s;refine wpAny_bind (wpAny_mono (wpAny_comprehension_free (use:=some (assign (.Name y py) X.env)) (Q:=fun _ s'=>SP X pins D .next s') rfl hs (ZbT (c.cl I)) c.kind c.names
  (thn (hi pins s σ H _ I h) fun v s1 h1=>thn h1 fun itv s2 h2=>?_)) (fun _ s' hq=>wpAny_pure (wpAny_pure hq)) fun _ _ e=>e)
 obtain⟨it,fp,tn,J,H2,e,I2,T,st2,f2',hw⟩:=h2;subst e;refine ZlN (Q:=fun x H1=>Zbw i x σ H1 D.nx) (RR:=fun acc C=>compPost (model X.prog X.w) X.A X.xe (some (assign (.Name y py) X.env)) (fun _ s'=>SP X pins D .next s') acc C) c hc hgk hgt hg ht hi2 hg2 ht2 he hs2 I2 T st2 f2' hw ?_;intro acc C H' s' m hCs hCn I' hn q;have hL:C≠X.env.locals:=YbA (Yal I2.lt hCs);have hcell:∀ x a,X.env.cells.lookup x=some a->a≠C:=by
  intro x a e z;obtain⟨v,q⟩:=I2.cell x a e;exact absurd (Yal q.lt (by rw[z];exact hCs)) (Ya7 _)
 refine wpAny_assign_Name (Zc0 I' hN hy (.inl hyl) (v:=.ref acc) rfl (fun s2 I'' hch=>?_) (.inr hyl));obtain⟨a,sb,ha⟩:=hch;have hCa:C≠a:=by
  rcases ha with rfl | ha
  ·exact hL
  ·exact Ybq (hcell _ _ ha)
 refine⟨m,hn.sameBut sb hCa,fun h' hs'=>⟨_,H',I''.other hs' hCn hL (Ybv I2.sz hCs) hcell ?_,q⟩⟩;intro p hp z;exact absurd (Yal (Yah (I2.pin p hp).1) (by rw[z];exact hCs)) (Ya7 _)
end
end L2
namespace L2
open PySem PySem.Spec PyProof.Rows PySem.SeqAt
theorem ZiW (K:Yae) {X:Cx}{es:List Expr}{x1}{tpos:Pos}{e:Expr}{ta:TA}{p pos:Pos} (hg:Gl X "enumerate") (hm:X.mg "enumerate"=none) (ha:PA X [e] ta) (hK:X.K=K:=by rfl) (hs:starEach [e] X.env=[(false,eval e X.env)]:=by rfl) :
  PI X (.Tuple es x1 tpos) (.Call (.Name "enumerate" p) [e] [] pos) (Zmf K ta):=by subst hK;exact Zcp hg hm ha hs
section
variable {b:Bool}{K:Yae}{g2:TG}{tt2:TT}{te:TE}{τ:St}{H6:Hp}{a acc:Addr}{xs:List V}
theorem ZlA {Z:Hp->Prop} (W2:Nat->Hp->Prop) (h0:W2 0 H6) (hl:∀ i H,i<=xs.length->W2 i H->SqB b K H a xs)
  (hs:∀ i x p H,xs[i]?=some x->W2 i H->H p=none->g2 (.ref p) τ (upd H p (.tup [.int i,x])) fun τ2 H9=>tt2 τ2 H9 fun c H10=>
   if c=true then te τ2 H10 fun z H11=>∃ zs,H11 acc=some (.lst zs)/\zs.length<sizeLine/\(i+1<=xs.length/\W2 (i+1) (upd H11 acc (.lst (zs++[z])))) else (i+1<=xs.length/\W2 (i+1) H10))
  (hd:∀ H,W2 xs.length H->Z H):tInW g2 tt2 te τ acc (IteB b K a) H6 Z:=by
 refine⟨fun i H=>i<=xs.length/\W2 i H,xs.length,⟨YaW _,h0⟩,?_⟩;rintro i H ⟨hi,p⟩;have q:=hl i H hi p;rcases Ybl i xs.length with hlt | hge
 ·refine .inr ⟨hlt,ZjO q hlt,fun x H' y=>?_⟩;obtain⟨pa,z,hp,rfl,rfl,hx⟩:=Zhb q y;exact hs i z pa H hx p hp
 ·obtain rfl:i=xs.length:=by omega
  exact .inl ⟨Zfs q (Yag _),hd H p⟩
end
end L2
namespace Lv
open PySem L2
def intW:V->Int
 | .int i=>i
 | _=>0
def kf (H:Hp) (p:Addr):List Int:=match H p with
 | some (.tup vs)=>vs.map intW
 | _=>[]
theorem Zfo {H:Hp}{p:Addr}{k:List Int} (h:H p=some (.tup (k.map V.int))):kf H p=k:=by
 unfold kf;rw[h];show (k.map V.int).map intW=k;rw[Ych];exact (YbR fun _ _=>rfl).trans (Yee k)
def TuM (H:Hp) (ps:List Addr) (ks:List (List Int)):Prop:=(∀ p∈ps,∃ k:List Int,k≠[]/\H p=some (.tup (k.map V.int)))/\ps.map (kf H)=ks
theorem TuM.nil {H:Hp}:TuM H [] []:=⟨fun p hp=>(nomatch hp),rfl⟩
theorem TuM.keep {H H':Hp}{ps:List Addr}{ks:List (List Int)} (h:TuM H ps ks) (k:∀ p∈ps,H' p=H p):TuM H' ps ks:=by
 refine⟨fun p hp=>by rw[k p hp];exact h.1 p hp,?_⟩;rw[<- h.2];refine YbR fun p hp=>?_;unfold kf;rw[k p hp]
theorem TuM.same {H H':Hp}{ps:List Addr}{ks:List (List Int)} (h:TuM H ps ks) (s:Same H H'):TuM H' ps ks:=h.keep fun p hp=>by
 obtain⟨k,_,e⟩:=h.1 p hp;rw[e,s _ _ e]
theorem TuM.snoc {H:Hp}{ps:List Addr}{ks:List (List Int)}{p:Addr}{k:List Int} (h:TuM H ps ks) (e:H p=some (.tup (k.map V.int))) (hk:k≠[]):TuM H (ps++[p]) (ks++[k]):=by
 refine⟨fun q hq=>?_,by rw[Yay,h.2,YaH,Yb9,Zfo e]⟩;rcases Yaj.mp hq with hq | hq
 ·exact h.1 q hq
 ·rw[YaF.mp hq];exact⟨k,hk,e⟩
theorem TuM.at {H:Hp}{ps:List Addr}{ks:List (List Int)} (h:TuM H ps ks) {j:Nat}{p:Addr} (e:ps[j]?=some p):∃ k,ks[j]?=some k/\H p=some (.tup (k.map V.int)):=by
 obtain⟨k,_,e2⟩:=h.1 p (Yau e);exact⟨k,by rw[<- h.2,Yam,e,YcB,Zfo e2],e2⟩
theorem TuM.len {H:Hp}{ps:List Addr}{ks:List (List Int)} (h:TuM H ps ks):ps.length=ks.length:=by rw[<- h.2,Yac]
def ZbA (k:Nat) (xs:List Int):List (List Int):=xs.mapIdx fun j z=>[z,(k:Int),(j:Int)]
def trip:Nat->List (List Int)->List (List Int)
 | _,[]=>[]
 | k,xs::N=>ZbA k xs++trip (k+1) N
theorem Zhu {k:Nat}{xs:List Int}{j:Nat}{z:Int} (h:xs[j]?=some z):ZbA k (xs.take (j+1))=ZbA k (xs.take j)++[[z,(k:Int),(j:Int)]]:=by
 have hl:=(Yad.mp h).1
 unfold ZbA;rw[Ybe,h,YbW,Yfs];simp[Yaz,Ycm (Ya2 hl)]
theorem Ze0:∀ (N:List (List Int)) (k:Nat) (xs:List Int),trip k (N++[xs])=trip k N++ZbA (k+N.length) xs
 | [],k,xs=>by simp[trip]
 | y::N,k,xs=>by rw[YcR,trip,Ze0 N (k+1) xs,trip,YaN,YaU,show k+1+N.length=k+(N.length+1) by omega]
theorem Zin {N:List (List Int)}{i:Nat}{xs:List Int} (h:N[i]?=some xs):trip 0 (N.take (i+1))=trip 0 (N.take i)++ZbA i xs:=by
 have hl:=(Yad.mp h).1
 rw[Ybe,h,YbW,Ze0,Yaz,Ycm (Ya2 hl),YbF]
theorem Ze2 (k:Nat) (xs:List Int):(ZbA k xs).length=xs.length:=by unfold ZbA;simp
theorem ZbM:∀ (N:List (List Int)) (k:Nat),(trip k N).length=N.flatten.length
 | [],_=>rfl
 | xs::N,k=>by rw[trip,Yak,Ze2,ZbM N,Ya9,Yak]
theorem ZgC:∀ (N:List (List Int)) (k:Nat),(trip k N).map (fun t=>t.getD 0 0)=N.flatten
 | [],_=>rfl
 | xs::N,k=>by
  rw[trip,Yay,ZgC N,Ya9];congr 1;unfold ZbA;exact Ybr (by simp) fun i h1 h2=>by simp
def ZbO:Sp:=fun vs H Q _=>∃ (a:Addr) (rs:List Addr) (N:List (List Int)),vs=[.ref a]/\H a=some (.tup (rs.map V.ref))/\TTs H rs N/\N.length<=7/\∀ H',Same H H'->Q (.int (N.flatten.length:Int)) H'
def Zek:Sp:=fun vs H Q _=>∃ (a:Addr) (rs:List Addr) (N:List (List Int)) (m:Nat),vs=[.ref a,.int m]/\H a=some (.tup (rs.map V.ref))/\TTs H rs N/\N.length<=7/\N.flatten.length<=100000 /\
 ∀ (l:Addr) (qs:List Addr) (ks:List (List Int)) H',H l=none->H' l=some (.lst ((qs.take m).map V.ref))->TuM H' qs ks->ks.Perm (trip 0 N)->ks.Pairwise (fun p q=>lxB q p=false)->Same H H'->Q (.ref l) H'
end Lv
namespace L2
open PySem PySem.Spec PyProof.Rows PySem.SeqAt
theorem Zh2 {K:Yae}{own:List Str}{i k m:Nat} (hi:i<own.length:=by decide) (hk:k<own.length:=by decide) (hm:m<own.length:=by decide):ZfM own (gTup K 2 (Zdl (Zbw i) (Zdl (gTup K 2 (Zdl (Zbw k) (Zdl (Zbw m) gNil))) gNil))):=fun js σ x H Q h=>by
 obtain⟨a,xs,rfl,hq,hl,v,r,rfl,w,r',rfl,⟨b,ys,rfl,hq2,hl2,v2,r2,rfl,w2,r3,rfl,e2,e,h⟩⟩:=h;refine⟨a,_,rfl,hq,hl,v,_,rfl,_,r',rfl,⟨b,_,rfl,hq2,hl2,v2,_,rfl,w2,r3,rfl,e2,e,fun j z e=>?_,h⟩⟩;have hj:j≠i:=by rintro rfl;exact Za3 hi e
 have hj':j≠k:=by rintro rfl;exact Za3 hk e
 have hj3:j≠m:=by rintro rfl;exact Za3 hm e
 rw[Ya5 (Ybq hj3),Ya5 (Ybq hj'),Ya5 (Ybq hj)];exact e
theorem Zg9 (K:Yae) {X:Cx} (hK:X.K=K:=by rfl):IxR X (rIxT K):=by subst hK;exact Zb2
end L2
namespace Lv
open PySem L2
def numV (N:List (List Int)) (k:List Int):Int:=(N.getD (k.getD 0 0).toNat []).getD (k.getD 1 0).toNat 0
def InN (N:List (List Int)) (k:List Int):Prop:=∃ (r p:Nat) (xs:List Int),k=[(r:Int),(p:Int)]/\N[r]?=some xs/\p<xs.length
def ZaU (N:List (List Int)) (ls:List Int) (ks:List (List Int)):List Int:=Ycg (fun l k=>l*numV N k) ls ks
theorem ZhK {N:List (List Int)}{ls:List Int}{ks:List (List Int)}{i:Nat}{l:Int}{k:List Int} (h1:ls[i]?=some l) (h2:ks[i]?=some k):ZaU N (ls.take (i+1)) (ks.take (i+1))=ZaU N (ls.take i) (ks.take i)++[l*numV N k]:=by
 have a:=(Yad.mp h1).1
 have b:=(Yad.mp h2).1
 unfold ZaU;rw[Ybe,h1,Ybe,h2,YbW,YbW,List.zipWith_append (by rw[Yaz,Yaz];omega)];rfl
def Zck (K:Yae):Sp:=fun vs H Q _=>∃ (a ll pl:Addr) (b:Bool) (rs qs:List Addr) (N:List (List Int)) (ls:List Int) (ks:List (List Int)),vs=[.ref a,.ref ll,.ref pl]/\H a=some (.tup (rs.map V.ref))/\TTs H rs N/\SqB b K H ll (ls.map V.int)/\H pl=some (.lst (qs.map V.ref))/\TuM H qs ks/\(∀ k∈ks,InN N k)/\ls.length=ks.length/\ls.length<=100000 /\
 (∀ l∈ls,Ya3 l<=8000)/\(∀ xs∈N,∀ z∈xs,Ya3 z<=8000)/\∀ H',Same H H'->Q (.int (ZaU N ls ks).sum) H'
end Lv
namespace L2
open PySem PySem.Spec PyProof.Rows PySem.SeqAt
theorem Zns {b1 b2:Bool}{K:Yae}{a b:Addr}{xs ys:List V}{g:TG}{tb:TS}{D:Ends}{σ:St}{H:Hp} (hlen:xs.length<=ys.length) (Pv:Nat->St->Hp->Prop) (h0:Pv 0 σ H)
  (hl:∀ i σ H,i<=xs.length->Pv i σ H->SqB b1 K H a xs/\SqB b2 K H b ys)
  (hs:∀ i x y p σ H,xs[i]?=some x->ys[i]?=some y->Pv i σ H->H p=none->g (.ref p) σ (upd H p (.tup [x,y])) fun σ2 H2=>tb { D with nx:=Pv (i+1),ct:=Pv (i+1),bk:=D.nx } σ2 H2) (hd:∀ σ H,Pv xs.length σ H->D.nx σ H) :
  ∃ W:Nat->Nat->St->Hp->Prop,(∃ m,W 0 m σ H)/\∀ i m σ H,W i m σ H ->
   ((ItzB b1 b2 K a b).stop i H/\D.nx σ H)∨((ItzB b1 b2 K a b).go i H/\∃ N:St->Hp->Prop,(∀ σ' H',N σ' H'->∃ m',m'<m/\W (i+1) m' σ' H')/\∀ x H',(ItzB b1 b2 K a b).yld i H x H'->g x σ H' fun σ2 H2=>tb { D with nx:=N,ct:=N,bk:=D.nx } σ2 H2):=by
 refine⟨fun i m σ H=>m=xs.length - i/\i<=xs.length/\Pv i σ H,⟨xs.length,by simp,YaW _,h0⟩,?_⟩;rintro i m σ H ⟨rfl,hi,p⟩;obtain⟨q1,q2⟩:=hl i σ H hi p;by_cases hlt:i<xs.length
 ·have gx:xs[i]?=some xs[i]:=Yaa hlt;have gy:ys[i]?=some ys[i]:=Yaa (by omega);refine .inr ⟨⟨xs,ys,xs[i],ys[i],q1,q2,gx,gy⟩,Pv (i+1),fun σ' H' z=>⟨xs.length - (i+1),by omega,rfl,hlt,z⟩,fun x H' y=>?_⟩;obtain⟨pa,z,z',hp,e1,e2,y1,y2⟩:=y;subst e1 e2;exact hs i z z' pa σ H (y1 xs q1) (y2 ys q2) p hp
 ·obtain rfl:i=xs.length:=by omega
  exact .inl ⟨⟨xs,ys,q1,q2,.inl (Yag _)⟩,hd σ H p⟩
end L2
namespace Lv
open PySem L2
def prL (ls:List Int):List (List Int):=ls.mapIdx fun j l=>[-l,(j:Int)]
theorem ZkZ {ls:List Int}{j:Nat}{l:Int} (h:ls[j]?=some l):prL (ls.take (j+1))=prL (ls.take j)++[[-l,(j:Int)]]:=by
 have hl:=(Yad.mp h).1
 unfold prL;rw[Ybe,h,YbW,Yfs];simp[Yaz,Ycm (Ya2 hl)]
theorem Zcb (ls:List Int):(prL ls).length=ls.length:=by unfold prL;simp
theorem Zl4 {ls:List Int}{j:Nat}{l:Int} (h:ls[j]?=some l):(prL ls)[j]?=some [-l,(j:Int)]:=by
 unfold prL;rw[YcU,h];rfl
theorem Zev {ls:List Int}{f:List Int} (h:f∈prL ls):∃ (j:Nat) (l:Int),f=[-l,(j:Int)]/\ls[j]?=some l:=by
 obtain⟨j,hj⟩:=Yb0.mp h;unfold prL at hj;rw[YcU] at hj
 cases e:ls[j]? with
 | none=>rw[e] at hj;cases hj
 | some l=>rw[e] at hj;cases hj;exact⟨j,l,rfl,e⟩
theorem Zio {k:Nat}{xs f:List Int} (h:f∈ZbA k xs):∃ (j:Nat) (z:Int),f=[z,(k:Int),(j:Int)]/\xs[j]?=some z:=by
 obtain⟨j,hj⟩:=Yb0.mp h;unfold ZbA at hj;rw[YcU] at hj
 cases e:xs[j]? with
 | none=>rw[e] at hj;cases hj
 | some l=>rw[e] at hj;cases hj;exact⟨j,l,rfl,e⟩
theorem Zbr:∀ {N:List (List Int)}{k:Nat}{f:List Int},f∈trip k N->∃ (r j:Nat) (z:Int) (xs:List Int),f=[z,((k+r:Nat):Int),(j:Int)]/\N[r]?=some xs/\xs[j]?=some z
 | [],_,_,h=>nomatch h
 | ys::N,k,f,h=>by
  rw[trip] at h;rcases Yaj.mp h with h | h
  ·obtain⟨j,z,e,hz⟩:=Zio h;exact⟨0,j,z,ys,e,rfl,hz⟩
  ·obtain⟨r,j,z,xs,e,hx,hz⟩:=Zbr h;exact⟨r+1,j,z,xs,by rw[e,show k+1+r=k+(r+1) by omega],hx,hz⟩
theorem ZhI {ls:List Int}{lf:List (List Int)} (h:lf.Perm (prL ls)):(lf.map fun f=>f.getD 1 0).Nodup:=by
 refine ((h.map _).nodup_iff).mpr ?_;have e:(prL ls).map (fun f=>f.getD 1 0)=(YaT ls.length).map fun (j:Nat)=>(j:Int):=by
  unfold prL;exact Ybr (by simp) fun i h1 h2=>by simp
 rw[e];refine Ya1.mpr (Ycu.imp fun {a b} hab=>?_);omega
theorem Zkx {H:Hp}{N:List (List Int)}:∀ {vs:List V},(∀ (j:Nat),j<vs.length->∃ (q:Addr) (k:List Int),vs[j]?=some (.ref q)/\H q=some (.tup (k.map V.int))/\InN N k)->∃ (qs:List Addr) (ks:List (List Int)),vs=qs.map V.ref/\TuM H qs ks/\∀ k∈ks,InN N k
 | [],_=>⟨[],[],rfl,TuM.nil,fun k hk=>nomatch hk⟩
 | v::vs,h=>by
  obtain⟨qs,ks,e1,e2,e3⟩:=Zkx (vs:=vs) fun j hj=>h (j+1) (by simpa using hj);obtain⟨q,k,a1,a2,a3⟩:=h 0 (by simp);have a1:v=.ref q:=by simpa using a1
  have hk:k≠[]:=by obtain⟨r,p,xs,e,_⟩:=a3;rw[e];simp
  refine⟨q::qs,k::ks,by rw[a1,e1];rfl,⟨fun p hp=>?_,by rw[YaH,e2.2,Zfo a2]⟩,fun k' hk'=>?_⟩
  ·rcases Yao.mp hp with rfl | hp
   ·exact⟨k,hk,a2⟩
   ·exact e2.1 p hp
  ·rcases Yao.mp hk' with rfl | hk'
   ·exact a3
   ·exact e3 k' hk'
def Zdu (ls:List Int) (N:List (List Int)) (ks lf lp:List (List Int)):Prop:=ks.length=ls.length/\lf.Perm (prL ls)/\lf.Pairwise (fun p q=>lxB q p=false)/\lp.Perm (trip 0 N)/\lp.Pairwise (fun p q=>lxB q p=false) /\
 ∀ (t:Nat) f p,lf[t]?=some f->lp[t]?=some p->ks[(f.getD 1 0).toNat]?=some [p.getD 1 0,p.getD 2 0]
def Zc3 (K:Yae):Sp:=fun vs H Q _=>∃ (a ll:Addr) (b:Bool) (rs:List Addr) (N:List (List Int)) (ls:List Int),vs=[.ref a,.ref ll]/\H a=some (.tup (rs.map V.ref))/\TTs H rs N/\N.length<=7/\N.flatten.length<=100000/\SqB b K H ll (ls.map V.int)/\ls.length<=N.flatten.length /\
 (∀ l∈ls,Ya3 l<=8000)/\(∀ xs∈N,∀ z∈xs,Ya3 z<=8000) /\
 ∀ (t pl:Addr) (qs:List Addr) (ks lf lp:List (List Int)) H',H t=none->H' t=some (.tup [.int (ZaU N ls ks).sum,.ref pl])->H pl=none->H' pl=some (.lst (qs.map V.ref))->TuM H' qs ks->(∀ k∈ks,InN N k)->Zdu ls N ks lf lp->Same H H'->Q (.ref t) H'
end Lv
namespace Lv
open PySem L2
def LvsT (H:Hp) (as:List Addr) (L:List (List (List Int))):Prop:=as.length=L.length/\∀ (j:Nat) q N,as[j]?=some q->L[j]?=some N->∃ rs:List Addr,H q=some (.tup (rs.map V.ref))/\TTs H rs N
theorem LvsT.same {H H':Hp}{as:List Addr}{L:List (List (List Int))} (h:LvsT H as L) (s:Same H H'):LvsT H' as L:=⟨h.1,fun j q N a b=>by obtain⟨rs,e1,e2⟩:=h.2 j q N a b;exact⟨rs,s _ _ e1,e2.same s⟩⟩
def Zdv (ls:List Int) (N:List (List Int)) (R:Int):Prop:=∃ ks lf lp:List (List Int),Zdu ls N ks lf lp/\(∀ k∈ks,InN N k)/\R=(ZaU N ls ks).sum
def Fit (ls:List Int) (N:List (List Int)):Prop:=ls.length<=N.flatten.length
def BestOf (ls:List Int) (L:List (List (List Int))) (m:Nat):Option (Int × Nat)->Prop
 | none=>∀ j N,j<m->L[j]?=some N->¬ Fit ls N
 | some (R,n)=>n<m/\(∃ N,L[n]?=some N/\Fit ls N/\Zdv ls N R)/\∀ j N,j<m->L[j]?=some N->Fit ls N->∃ R',Zdv ls N R'/\R<=R'/\(j<n->R<R')
theorem BestOf.skip {ls:List Int}{L:List (List (List Int))}{m:Nat}{N:List (List Int)}{o:Option (Int × Nat)} (h:BestOf ls L m o) (e:L[m]?=some N) (hn:¬ Fit ls N):BestOf ls L (m+1) o:=by
 match o,h with
 | none,h=>
  intro j N' hj e' hf;by_cases ej:j=m
  ·subst ej;rw[e] at e';cases e';exact hn hf
  ·exact h j N' (by omega) e' hf
 | some (R,n),⟨h1,h2,h3⟩=>
  refine⟨by omega,h2,fun j N' hj e' hf=>?_⟩;by_cases ej:j=m
  ·subst ej;rw[e] at e';cases e';exact absurd hf hn
  ·exact h3 j N' (by omega) e' hf
theorem BestOf.first {ls:List Int}{L:List (List (List Int))}{m:Nat}{N:List (List Int)}{R:Int} (h:BestOf ls L m none) (e:L[m]?=some N) (hf:Fit ls N) (hr:Zdv ls N R):BestOf ls L (m+1) (some (R,m)):=by
 refine⟨by omega,⟨N,e,hf,hr⟩,fun j N' hj e' hf'=>?_⟩;by_cases ej:j=m
 ·subst ej;rw[e] at e';cases e';exact⟨R,hr,Ybx _,fun z=>absurd z (Ya7 _)⟩
 ·exact absurd hf' (h j N' (by omega) e')
theorem BestOf.better {ls:List Int}{L:List (List (List Int))}{m n:Nat}{N:List (List Int)}{R R':Int} (h:BestOf ls L m (some (R',n))) (e:L[m]?=some N) (hf:Fit ls N) (hr:Zdv ls N R) (hlt:R<R'):BestOf ls L (m+1) (some (R,m)):=by
 obtain⟨h1,h2,h3⟩:=h;refine⟨by omega,⟨N,e,hf,hr⟩,fun j N' hj e' hf'=>?_⟩;by_cases ej:j=m
 ·subst ej;rw[e] at e';cases e';exact⟨R,hr,Ybx _,fun z=>absurd z (Ya7 _)⟩
 ·obtain⟨R2,a,b,_⟩:=h3 j N' (by omega) e' hf';exact⟨R2,a,by omega,fun _=>by omega⟩
theorem BestOf.worse {ls:List Int}{L:List (List (List Int))}{m n:Nat}{N:List (List Int)}{R R':Int} (h:BestOf ls L m (some (R',n))) (e:L[m]?=some N) (hf:Fit ls N) (hr:Zdv ls N R) (hge:¬ R<R'):BestOf ls L (m+1) (some (R',n)):=by
 obtain⟨h1,h2,h3⟩:=h;refine⟨by omega,h2,fun j N' hj e' hf'=>?_⟩;by_cases ej:j=m
 ·subst ej;rw[e] at e';cases e';exact⟨R,hr,by omega,fun z=>absurd z (by omega)⟩
 ·exact h3 j N' (by omega) e' hf'
end Lv
namespace Lv
open PySem L2
end Lv
namespace Lv
open PySem L2
theorem LvsT.lst {H:Hp}{as:List Addr}{L:List (List (List Int))}{l:Addr}{ys zs:List V} (h:LvsT H as L) (e:H l=some (.lst zs)):LvsT (upd H l (.lst ys)) as L:=⟨h.1,fun j q N a b=>by
 obtain⟨rs,e1,e2⟩:=h.2 j q N a b;refine⟨rs,?_,TTs.lst e2 e⟩;rw[Zaf fun z=>by rw[z,e] at e1;cases e1];exact e1⟩
theorem LvsT.snoc {H:Hp}{as rs:List Addr}{L:List (List (List Int))}{q:Addr}{N:List (List Int)} (h:LvsT H as L) (e:H q=some (.tup (rs.map V.ref))) (t:TTs H rs N):LvsT H (as++[q]) (L++[N]):=⟨by rw[Yak,Yak,h.1];rfl,fun j x M a b=>by
 rcases Ybl j as.length with hj | hj
 ·rw[YaL hj] at a;rw[YaL (by rw[<- h.1];exact hj)] at b;exact h.2 j x M a b
 ·rw[YaI hj] at a;rw[YaI (by rw[<- h.1];exact hj),<- h.1] at b
  cases e3:j - as.length with
  | zero=>rw[e3] at a b;cases a;cases b;exact⟨rs,e,t⟩
  | succ n=>rw[e3] at a;cases a⟩
end Lv
namespace Lv
open PySem L2
end Lv
namespace Lv
open PySem L2
end Lv
namespace Lv
open PySem L2
theorem ZiY {a b:List Int} (h:a.Perm b):a.sum=b.sum:=by
 induction h with
 | nil=>rfl
 | cons x _ ih=>rw[YaS,YaS,ih]
 | swap x y l=>rw[YaS,YaS,YaS,YaS];omega
 | trans _ _ h1 h2=>exact h1.trans h2
theorem Zhy {ls:List Int}{N ks lf lp:List (List Int)} (h:Zdu ls N ks lf lp) (hle:ls.length<=N.flatten.length):(ZaU N ls ks).sum=(Ycg (fun f p=>-(f.getD 0 0)*p.getD 0 0) lf lp).sum:=by
 obtain⟨h1,h2,_,h4,_,h6⟩:=h;have e1:ZaU N ls ks=(prL ls).map fun f=>-(f.getD 0 0)*numV N (ks.getD (f.getD 1 0).toNat []):=by
  refine Ybr (by unfold ZaU prL;simp;omega) fun i a b=>?_;have hi:i<ls.length:=by rw[Yac,Zcb] at b;exact b
  have hk:i<ks.length:=by omega
  have hp:(prL ls)[i]?=some [-ls[i],(i:Int)]:=Zl4 (Yaa hi);have hp2:(prL ls)[i]'(by rw[Zcb];exact hi)=[-ls[i],(i:Int)]:=(Yad.mp hp).2
  rw[YcQ,hp2];have hz:(ZaU N ls ks)[i]?=some (ls[i]*numV N ks[i]):=by
   unfold ZaU;rw[List.getElem?_zipWith,Yaa hi,Yaa hk]
  rw[(Yad.mp hz).2];show ls[i]*numV N ks[i] = -(-ls[i])*numV N (ks.getD ((i:Int)).toNat []);rw[Int.neg_neg,YaQ,Yat,Yaa hk];rfl
 have e2:Ycg (fun f p=>-(f.getD 0 0)*p.getD 0 0) lf lp=lf.map fun f=>-(f.getD 0 0)*numV N (ks.getD (f.getD 1 0).toNat []):=by
  have l1:lf.length=ls.length:=by rw[h2.length_eq,Zcb]
  have l2:lp.length=N.flatten.length:=by rw[h4.length_eq,ZbM]
  refine Ybr (by simp;omega) fun i a b=>?_;have hi:i<lf.length:=by rw[Yac] at b;exact b
  have hj:i<lp.length:=by omega
  have g:=h6 i lf[i] lp[i] (Yaa hi) (Yaa hj);obtain⟨r,jj,z,xs,ep,hr,hz⟩:=Zbr (h4.mem_iff.mp (Ybw hj));rw[List.getElem_zipWith,YcQ,Yat (l:=ks),g,Yfo,ep];congr 1;show z=numV N [((0+r:Nat):Int),(jj:Int)];unfold numV;simp[Yat,hr,hz]
 rw[e1,e2];exact ZiY (h2.symm.map _)
end Lv
namespace Lv
open PySem L2
def isrt (l:List Int):List Int:=l.mergeSort (fun a b=>decide (a<=b))
def Zbg (l:List Int):List Int:=l.mergeSort (fun a b=>decide (b<=a))
theorem ZjP {l m:List Int} (h:m.Perm l) (hs:m.Pairwise (·<=·)):m=isrt l:=by
 refine Yc3 (le:=(·<=·)) (fun a b _ _ h1 h2=>Yev h1 h2) hs ?_ (h.trans (Ya8 l _).symm);refine (YbP (fun a b c h1 h2=>?_) (fun a b=>?_) l).imp fun h=>of_decide_eq_true h
 ·have:=of_decide_eq_true h1;have:=of_decide_eq_true h2;exact decide_eq_true (by omega)
 ·by_cases h:a<=b
  ·simp[h]
  ·simp;omega
theorem Zhc {l m:List Int} (h:m.Perm l) (hs:m.Pairwise (· ≥ ·)):m=Zbg l:=by
 refine Yc3 (le:=(· ≥ ·)) (fun a b _ _ h1 h2=>Yev h2 h1) hs ?_ (h.trans (Ya8 l _).symm);refine (YbP (fun a b c h1 h2=>?_) (fun a b=>?_) l).imp fun h=>of_decide_eq_true h
 ·have:=of_decide_eq_true h1;have:=of_decide_eq_true h2;exact decide_eq_true (by omega)
 ·by_cases h:b<=a
  ·simp[h]
  ·simp;omega
def rdF (ls:List Int) (N:List (List Int)):Int:=(Ycg (·*·) (isrt N.flatten) (Zbg ls)).sum
theorem Zjt {x y:Int}{a b:List Int} (h:lxB (y::b) (x::a)=false):x<=y:=by
 rw[lxB] at h;by_cases e:y=x
 ·omega
 ·rw[if_neg e] at h;have:=of_decide_eq_false h;omega
theorem ZgN {ls:List Int}{N:List (List Int)}{R:Int} (h:Zdv ls N R) (hf:Fit ls N):R=rdF ls N:=by
 obtain⟨ks,lf,lp,hs,_,rfl⟩:=h;rw[Zhy hs hf];obtain⟨_,h2,h3,h4,h5,_⟩:=hs;have e1:lp.map (fun t=>t.getD 0 0)=isrt N.flatten:=by
  refine ZjP ?_ ?_
  ·rw[<- ZgC N 0];exact h4.map _
  ·refine Ya1.mpr (Yci (fun {p q} hp hq h=>?_) h5);obtain⟨_,_,_,_,rfl,_⟩:=Zbr (h4.mem_iff.mp hp);obtain⟨_,_,_,_,rfl,_⟩:=Zbr (h4.mem_iff.mp hq);exact Zjt h
 have e2:lf.map (fun f=>-(f.getD 0 0))=Zbg ls:=by
  refine Zhc ?_ ?_
  ·have:(prL ls).map (fun f=>-(f.getD 0 0))=ls:=by
    refine Ybr (by simp[prL]) fun i h1 h2=>?_;simp[prL]
   exact (h2.map _).trans (by rw[this])
  ·refine Ya1.mpr (Yci (fun {p q} hp hq h=>?_) h3);obtain⟨_,_,rfl,_⟩:=Zev (h2.mem_iff.mp hp);obtain⟨_,_,rfl,_⟩:=Zev (h2.mem_iff.mp hq);have:=Zjt h;show (-(-_:Int)) ≥ -(-_);omega
 unfold rdF;rw[<- e1,<- e2,List.zipWith_map];congr 1;rw[List.zipWith_comm];congr 1
 funext p f
 exact YdC _ _
def BestG (f:Nat->Option Int) (m:Nat):Option (Int × Nat)->Prop
 | none=>∀ j,j<m->f j=none
 | some (R,n)=>n<m/\f n=some R/\∀ j R',j<m->f j=some R'->R<=R'/\(j<n->R<R')
theorem BestG.one {f:Nat->Option Int}{m:Nat}{R R':Int}{n n':Nat} (h:BestG f m (some (R,n))) (h':BestG f m (some (R',n'))):R=R'/\n=n':=by
 obtain⟨a1,a2,a3⟩:=h;obtain⟨b1,b2,b3⟩:=h';have x:=a3 n' R' b1 b2;have y:=b3 n R a1 a2;refine⟨by omega,?_⟩;rcases Ydh n n' with z | z | z
 ·have:=y.2 z;omega
 ·exact z
 ·have:=x.2 z;omega
def fitF (ls:List Int) (L:Nat->List (List Int)) (j:Nat):Option Int:=if ls.length<=(L j).flatten.length then some (rdF ls (L j)) else none
theorem BestG.of {ls:List Int}{L:Nat->List (List Int)}{m n:Nat}{R:Int} (h:BestOf ls ((YaT m).map L) m (some (R,n))):BestG (fitF ls L) m (some (R,n)):=by
 obtain⟨h1,⟨N,hN,hf,hr⟩,h3⟩:=h;have at_:∀ j,j<m->((YaT m).map L)[j]?=some (L j):=fun j hj=>by rw[Yam,Ycy hj];rfl
 rw[at_ n h1] at hN;cases hN;refine⟨h1,?_,fun j R' hj e=>?_⟩
 ·unfold fitF;unfold Fit at hf;rw[if_pos hf,<- ZgN hr hf]
 ·unfold fitF at e;by_cases hj2:ls.length<=(L j).flatten.length
  ·rw[if_pos hj2] at e;obtain⟨R2,r2,a,b⟩:=h3 j _ hj (at_ j hj) hj2;have:=ZgN r2 hj2;cases e;rw[<- this];exact⟨a,b⟩
  ·rw[if_neg hj2] at e;cases e
end Lv
namespace Lv
open PySem L2
end Lv
namespace Lv
open PySem L2
end Lv
namespace Lv
open PySem L2
section
variable {α:Type}
structure Adds (g:List α->Int):Prop where
 nil:g []=0
 app:∀ a b,g (a++b)=g a+g b
def dt (g:List α->Int):List (List α)->List Int->Int
 | r::rs,n::ns=>n*g r+dt g rs ns
 | _,_=>0
def sg (g:List α->Int) (rs:List (List α)):Int:=(rs.map g).sum
def ptR (g:List α->Int):List (List (List α))->List (List Int)->Int
 | R::RR,W::WW=>dt g R W+ptR g RR WW
 | _,_=>0
def es:List Int->(Nat->Int)->Int
 | [],_=>0
 | n::ns,h=>(n+1)*h 0+es ns fun j=>h (j+1)
end
theorem Zjn {p:Nat} (hp:2<=p) (n:Nat):∃ x r,num p n=x::r/\r.length+1=p/\num p (n+1)=(r.map (x.map (·+1)++·))++[x.map (·+1)]:=by
 obtain⟨x,r,e,hr⟩:=Zjm hp n;refine⟨x,r,e,hr,?_⟩;show Zdy (num p n)=_;rw[e];rfl
end Lv
namespace Lv
open PySem L2
end Lv
namespace Lv
open PySem L2
section
variable {S:List Addr}{H H':Hp}{a w:Addr}
end
end Lv
namespace Lv
open PySem L2
section
variable {α:Type}
def ones (RR:List (List (List α))):List (List Int):=RR.map fun R=>R.map fun _=>1
def tl (g:List α->Int) (RR:List (List (List α))):Int:=(RR.map fun R=>sg g R).sum
end
end Lv
namespace Lv
open PySem L2
def phO (p t:Nat):Int:=((p:Int) - t) % ((p:Int)+1)
end Lv
namespace Lv
open PySem L2
def fill (x y:Int):List Bool:=Yai x.toNat false++Yai y.toNat true
def layB (c v:List Int):List (List Bool):=Ycg (fun x y=>fill (x - y) y) c v
def lay (p n:Nat):List (List Bool):=layB (cnt p (came p n).1) (came p n).2
end Lv
namespace L2
open PySem PySem.Spec PyProof.Rows
end L2
namespace Lv
open PySem L2
def sel (xs:List Int) (bs:List Bool):List Int:=((xs.zip bs).filter (·.2)).map (·.1)
def ZoU (N:List (List Int)) (B:List (List Bool)):List Int:=(Ycg sel N B).flatten
end Lv
namespace Lv
open PySem L2
def opr (D:List Rows):List (List (List Int)):=D.map fun r=>r.map fun c=>c.getD []
def gl (r:List Int):Int:=(r.length:Nat)
def phL (p:Nat):Nat->Nat->List (Int × Int)
 | _,0=>[]
 | t,m+1=>(phO p t,hd p m)::phL p (t+1) m
def SrtD (D:List Rows):Prop:=∀ r∈D,∀ xs:List Int,some xs∈r->xs.Pairwise (·<=·)
def HasR (D:List Rows):Prop:=∃ r∈D,∃ xs:List Int,some xs∈r
def ZoE (o:Int) (s:List Int):Prop:=∃ a:Nat,o=a/\s[a]?=some 0/\∀ (j:Nat) x,s[j]?=some x->j≠a->1<=x
end Lv
namespace L2
open PySem PySem.Spec PyProof.Rows
section
variable {M:Model}{A:Around}{E:Value->Shared->Prop}
end
section
variable {X:Cx}{pins:List (Addr × Obj)}{σ:St}{H H':Hp}{s s':Shared}{scope:Scope}{own:List Str}{js:List Nat}{C:Addr}{fp:List Addr}
structure CompOkK (X:Cx) (scope:Scope) (own:List Str) (js:List Nat):Prop where
 kind:scope.kind=.function
 free:∀ y∈scope.names,y.2=.free->X.env.kindOf y.1=some .cell∨X.env.kindOf y.1=some .free
 names:∀ y∈scope.names,scope.names.lookup y.1=some y.2
 out:∀ j∈js,∃ x,X.N[j]?=some x/\scope.names.lookup x=some .free
end
section
variable {X:Cx}{scope:Scope}{own:List Str}{js:List Nat}{elt iter target:Expr}{ifs:List Expr}{wi:TI}{g:TG}{tt:TT}{te:TE}{pos:Pos}
end
end L2
namespace Lv
open PySem L2
end Lv
namespace Lv
open PySem L2
def fil1:List Bool->List (List Int)->Rows
 | [],_=>[]
 | false::bs,rows=>none::fil1 bs rows
 | true::bs,rows=>some (rows.headD [])::fil1 bs rows.tail
def filB:List (List Bool)->List (List Int)->List Rows
 | [],_=>[]
 | b::B,rows=>fil1 b (rows.take (b.count true))::filB B (rows.drop (b.count true))
def wS (rows:List (List Int)) (ns:List Int):List Int:=Ycg (fun r w=>(r.length:Int)*w) rows ns
structure Pl52 (p n:Nat) (B:List (List Bool)) (rows:List (List Int)):Prop where
 pls:Pls (filB B rows++[[]]) (phL p 0 n)
 left:(plR (filB B rows++[[]]) (phL p 0 n)).flatten=[some (srt rows.flatten)]
 read:((rdR (filB B rows++[[]]) (phL p 0 n)).map List.sum).sum=(wS rows (ZoU (num p n) B)).sum
 out:(∀ b∈B,∀ x∈b,x=true)->(∀ r∈rows,r≠[])->∀ (i:Nat) q s,(phL p 0 n)[i]?=some q->(rdR (filB B rows++[[]]) (phL p 0 n))[i]?=some s->ZoE q.1 s
end Lv
namespace Lv
open PySem L2
def Zci (p m:Nat):List (List (List Int)):=(YaT m).map (num p)
theorem Ze3 (p m:Nat):(Zci p m).length=m:=by unfold Zci;simp
theorem Zhw (p m:Nat):Zci p (m+1)=Zci p m++[num p m]:=by unfold Zci;rw[List.range_succ,Yay];rfl
theorem Ze4 {p m n:Nat} (h:n<m):(Zci p m)[n]?=some (num p n):=by unfold Zci;rw[Yam,Ycy h];rfl
theorem Za8 (p n:Nat):((num p n).flatten.length:Int)=tot p n:=by
 unfold tot;rw[<- ZbR];have:∀ N:List (List Int),((N.flatten.length:Nat):Int)=(lens N).sum:=fun N=>by
  induction N with
  | nil=>rfl
  | cons x N ih=>
   unfold lens at *;rw[Ya9,Yak,YaH,YaS];omega
 exact this _
theorem ZfQ {p:Nat} (hp:2<=p):∀ n:Nat,(n:Int)+1<=tot p n
 | 0=>by
  have:=ZbN hp (Yag 0);have h0:tot p 0=1:=by
   rw[<- Za8];show ((([0]::Yai (p - 1) []:List (List Int)).flatten.length:Nat):Int)=1;simp
  omega
 | n+1=>by
  have:=ZfQ hp n;have:=Ziq hp n;omega
theorem Zhv {p m:Nat} (h2:2<=p) (h7:p<=7) (h:4000<(num p m).flatten.length):1<=m/\500<=(num p (m - 1)).flatten.length:=by
 have e:=Za8 p m
 cases m with
 | zero=>
  exfalso;have:(num p 0).flatten.length=1:=by
   show ([0]::Yai (p - 1) []:List (List Int)).flatten.length=1;simp
  omega
 | succ m=>
  refine⟨by omega,?_⟩;have e2:=Za8 p m;have e3:=Zd9 h2 m;obtain⟨x,y,r,ec,_⟩:=ZeN h2 m;have h1:hd p m<=tot p m:=by
   unfold hd tot;exact Zmb (Zct p m).2 (by rw[ec];simp)
  have h0:=Zfu h2 m;have h6:((p - 1:Nat):Int)*hd p m<=6*hd p m:=YbB (by omega) (by omega);show 500<=(num p m).flatten.length;omega
def ZfX (fn:Addr):Sp:=fun vs H Q _=>∃ p:Nat,vs=[.int p,.ref fn]/\2<=p/\p<=7/\∀ (l:Addr) (as:List Addr) (m:Nat) H',H l=none->H' l=some (.lst (as.map V.ref))->LvsT H' as (Zci p m)->(∀ i,i<m->(num p i).flatten.length<=4000)->4000<(num p m).flatten.length->Same H H'->Q (.ref l) H'
def BestVP (ls:List Int) (L:List (List (List Int))) (H:Hp):Option (Int × Nat)->V->Prop
 | none,v=>v=.non
 | some (R,n),v=>∃ (t pl:Addr) (qs:List Addr) (N ks lf lp:List (List Int)) ,v=.ref t/\H t=some (.tup [.int R,.int (n:Int),.ref pl])/\H pl=some (.lst (qs.map V.ref))/\TuM H qs ks/\L[n]?=some N/\Zdu ls N ks lf lp/\(∀ k∈ks,InN N k)/\Fit ls N/\R=(ZaU N ls ks).sum
theorem BestVP.same {ls:List Int}{L:List (List (List Int))}{H H':Hp}{o:Option (Int × Nat)}{v:V} (h:BestVP ls L H o v) (s:Same H H'):BestVP ls L H' o v:=by
 match o,h with
 | none,h=>exact h
 | some (R,n),⟨t,pl,qs,N,ks,lf,lp,e,q,a,b,r⟩=>exact⟨t,pl,qs,N,ks,lf,lp,e,s _ _ q,s _ _ a,b.same s,r⟩
def Zc5 (K:Yae):Sp:=fun vs H Q _=>∃ (lv ll:Addr) (b:Bool) (as:List Addr) (L:List (List (List Int))) (ls:List Int),vs=[.ref lv,.ref ll]/\H lv=some (.lst (as.map V.ref))/\LvsT H as L/\SqB b K H ll (ls.map V.int) /\
 (∀ N∈L,N.length<=7/\N.flatten.length<=100000/\∀ xs∈N,∀ z∈xs,Ya3 z<=8000)/\(∀ l∈ls,Ya3 l<=8000)/\∀ (o:Option (Int × Nat)) (v:V) H',BestOf ls L L.length o->BestVP ls L H' o v->Same H H'->Q v H'
def ZkO (K:Yae):Sp:=fun vs H Q _=>∃ (p:Nat) (ll:Addr) (b:Bool) (ls:List Int),vs=[.int p,.ref ll]/\2<=p/\p<=7/\SqB b K H ll (ls.map V.int)/\ls.length<=500/\(∀ l∈ls,Ya3 l<=8000) /\
 ∀ (t pl:Addr) (qs:List Addr) (ks lf lp:List (List Int)) (n m:Nat) H',H t=none∨True->H' t=some (.tup [.int (ZaU (num p n) ls ks).sum,.int (n:Int),.ref pl])->H' pl=some (.lst (qs.map V.ref))->TuM H' qs ks->Zdu ls (num p n) ks lf lp->(∀ k∈ks,InN (num p n) k)->Fit ls (num p n)->tot p n<=4000->n<m->BestOf ls (Zci p m) m (some ((ZaU (num p n) ls ks).sum,n))->(∀ i,i<m->tot p i<=4000)->4000<tot p m->Same H H'->Q (.ref t) H'
end Lv
namespace Lv
open PySem L2
def plcT (p:List Int):List Int:=[p.getD 1 0,p.getD 2 0]
theorem ZfT {ls:List Int}{N ks lf lp:List (List Int)} (h:Zdu ls N ks lf lp) (hle:ls.length<=N.flatten.length):ks.Perm ((lp.take ls.length).map plcT):=by
 obtain⟨h1,h2,_,h4,_,h6⟩:=h;have l1:lf.length=ls.length:=by rw[h2.length_eq,Zcb]
 have l2:lp.length=N.flatten.length:=by rw[h4.length_eq,ZbM]
 have hs:(lf.map fun f=>(f.getD 1 0).toNat).Perm (YaT ls.length):=by
  refine (h2.map _).trans (YdP ?_);unfold prL;exact Ybr (by simp) fun i h1 h2=>by simp
 have hA:(lf.map fun f=>(f.getD 1 0).toNat).map (fun i=>ks.getD i [])=(lp.take ls.length).map plcT:=by
  refine Ybr (by simp;omega) fun i a b=>?_;have hi:i<lf.length:=by simpa using a
  have hj:i<lp.length:=by omega
  have g:=h6 i lf[i] lp[i] (Yaa hi) (Yaa hj);simp only[YcQ,YcL];rw[Yat,g];rfl
 have hB:(YaT ls.length).map (fun i=>ks.getD i [])=ks:=by
  refine Ybr (by simp;omega) fun i a b=>?_;simp only[YcQ,List.getElem_range];rw[Yat,Yaa b];rfl
 rw[<- hA];exact (YdP hB.symm).trans (hs.symm.map _)
theorem ZdF:∀ (N:List (List Int)) (k:Nat),((trip k N).map plcT).Nodup/\∀ q∈(trip k N).map plcT,(k:Int)<=q.getD 0 0
 | [],k=>⟨Yda,fun q hq=>nomatch hq⟩
 | xs::N,k=>by
  obtain⟨i1,i2⟩:=ZdF N (k+1);have e:(ZbA k xs).map plcT=(YaT xs.length).map fun (j:Nat)=>[(k:Int),(j:Int)]:=by
   unfold ZbA;exact Ybr (by simp) fun i h1 h2=>by simp[plcT]
  rw[trip,Yay,e];refine⟨Ydd.mpr ⟨?_,i1,fun a ha b hb z=>?_⟩,fun q hq=>?_⟩
  ·refine Ya1.mpr (Ycu.imp fun {a b} hab z=>hab ?_);have:(a:Int)=b:=by simpa using z
   omega
  ·obtain⟨j,_,rfl⟩:=YaG.mp ha;have:=i2 b hb;rw[<- z] at this;have:((k+1:Nat):Int)<=k:=this;omega
  ·rcases Yaj.mp hq with h | h
   ·obtain⟨j,_,rfl⟩:=YaG.mp h;exact Ybx _
   ·have:=i2 q h;omega
theorem Ze6 {ls:List Int}{N ks lf lp:List (List Int)} (h:Zdu ls N ks lf lp) (hle:ls.length<=N.flatten.length):ks.Nodup:=by
 refine (ZfT h hle).nodup_iff.mpr ?_;obtain⟨_,_,_,h4,_,_⟩:=h;have h5:(lp.map plcT).Nodup:=(h4.map plcT).nodup_iff.mpr (ZdF N 0).1;rw[Ydi];exact h5.sublist (YdR _ _)
theorem Ze1:∀ (N:List (List Int)) (k:Nat),(trip k N).map (fun p=>p.getD 0 0)=N.flatten
 | [],_=>rfl
 | xs::N,k=>by
  rw[trip,Yay,Ze1 N (k+1),Ya9];congr 1;unfold ZbA;exact Ybr (by simp) fun i h1 h2=>by simp
theorem ZkI {N:List (List Int)}{q:List Int} (h:q∈trip 0 N):numV N (plcT q)=q.getD 0 0:=by
 obtain⟨r,j,z,xs,rfl,hx,hz⟩:=Zbr h;unfold numV plcT;simp only[List.getD_cons_zero,List.getD_cons_succ];rw[YbF,YaQ,YaQ,Yat,Yat,hx,Yfo,hz];rfl
theorem Zfb (N:List (List Int)):∀ (ls:List Int) (ks:List (List Int)),(ZaU N ls ks).sum=dot ls (ks.map (numV N))
 | [],ks=>by cases ks <;> rfl
 | l::ls,[]=>rfl
 | l::ls,k::ks=>by
  have ih:=Zfb N ls ks;unfold ZaU at ih ⊢;rw[YeS,YaS,ih];rfl
structure Plcd (N:List (List Int)) (rows:List (List Int)) (ks:List (List Int)) (i:Nat) (D:List Rows):Prop where
 len:D.map Ycx=(N++[[]]).map Ycx
 free:∀ (r j:Nat) xs,N[r]?=some xs->j<xs.length->[(r:Int),(j:Int)] ∉ ks.take i->∃ row,D[r]?=some row/\row[j]?=some none
 all:(allT D).Perm (rows.take i).flatten
 pt:ptR gl (opr D) (N++[[]])=(ZaU N ((rows.take i).map fun r=>(r.length:Int)) (ks.take i)).sum
 srt:(∀ r∈rows,r.Pairwise (·<=·))->SrtD D
 has:1<=i->1<=rows.length->HasR D
end Lv
namespace L2
open PySem PySem.Spec PyProof.Rows PySem.SeqAt
end L2
namespace Lv
open PySem L2
theorem Same.sqB {b:Bool}{K:Yae}{H H':Hp}{a:Addr}{xs:List V} (e:Same H H') (h:SqB b K H a xs):SqB b K H' a xs:=by
 cases b with
 | true=>exact e.seq h
 | false=>exact e.tup h
theorem ZfD {b:Bool}{K:Yae}{own:List Str}{js:List Nat}{g:TG}{te:TE}{σ:L2.St}{H1:Hp}{Q:VK}{a:Addr}{xs:List V} (ys:List V) (hq:SqB b K H1 a xs) (hl:xs.length=ys.length) (hlen:xs.length<=20000)
  (hs:∀ (i:Nat) x y,xs[i]?=some x->ys[i]?=some y->∀ H,Same H1 H->∀ R:VK,(∀ H',Same H H'->R y H')->g x (blkσ own js σ) H fun τ H4=>te τ H4 R)
  (hd:∀ acc H,H1 acc=none->Same H1 H->H acc=some (.lst ys)->Q (.ref acc) H):Zbp own js g ZcZ te σ (ItlB b K a) H1 Q:=by
 refine ZfB (b:=b) (K:=K) (a:=a) (xs:=xs) (fun acc i H=>Same H1 H/\H acc=some (.lst (ys.take i))) (fun acc h0=>⟨Same.new h0,Zab⟩) (fun acc i H h0 _ z=>?_) ?_ ?_
 ·exact Same.sqB z.1 hq
 ·rintro acc i x H h0 hx ⟨s1,hacc⟩;have hi:=(Yad.mp hx).1
  have hy:=Yaa (l:=ys) (i:=i) (by omega);refine (cast ?_ (hs i x _ hx hy H s1 (fun y H6=>∃ zs,H6 acc=some (.lst zs)/\zs.length<sizeLine/\(i+1<=xs.length/\(Same H1 (upd H6 acc (.lst (zs++[y])))/\upd H6 acc (.lst (zs++[y])) acc=some (.lst (ys.take (i+1)))))) fun H' s'=>?_))
  ·unfold ZcZ;simp only[if_true]
  ·refine⟨_,s' _ _ hacc,?_,hi,(s1.trans s').put h0,?_⟩
   ·rw[sizeLine_eq,Yaz];omega
   ·rw[Zab,Ybe,hy];simp
 ·rintro acc H h0 ⟨s1,hacc⟩;rw[hl,YaO] at hacc;exact hd acc H h0 s1 hacc
end Lv
namespace Lv
open PySem L2
end Lv
namespace Lv
open PySem L2
structure Bl (H:Hp) (l pl cl rl tg:Addr) (fs cs:List Int) (T:List Reel) (ts:List Int):Prop where
 hl:H l=some (.lst (fs.map V.int))
 hc:H cl=some (.lst (cs.map V.int))
 hr:H rl=some (.lst (refT T))
 ht:H tg=some (.lst (ts.map V.int))
 hN:NRL H T
 hA:∀ x∈adr T,x≠pl/\x≠rl/\x≠tg
structure Dst (l pl cl rl tg:Addr):Prop where
 lp:l≠pl
 lr:l≠rl
 lt:l≠tg
 cp:cl≠pl
 cr:cl≠rl
 ct:cl≠tg
 rp:rl≠pl
 rt:rl≠tg
 tp:tg≠pl
variable {H H':Hp}{l pl cl rl tg:Addr}{fs cs:List Int}{T:List Reel}{ts:List Int}
end Lv
namespace Lv
open PySem L2
section
variable {K:Yae}
end
end Lv
namespace Fw
open PySem L2
def val (ns:List Int) (p:Int):Int:=ns.getD p.toNat 0
def upto (n:Nat):List Int:=(YaT n).map fun (i:Nat)=>(i:Int)
def there (n:Nat) (r:Int) (w:List Int):List Int:=(upto (min n (w.length+r.toNat))).filter fun p=>!w.contains p
def fits (ns w:List Int) (p:Int):Bool:=w.isEmpty || decide (val ns (w.getLast?.getD 0)<=val ns p)
def cand (ns hs w:List Int):List Int:=if (hs.filter (fits ns w)).isEmpty then hs else hs.filter (fits ns w)
def pick (ns:List Int):List Int->Int
 | []=>0
 | b::c=>(b::c).foldl (fun b p=>if val ns p<val ns b then p else b) b
def writ (ns:List Int) (r:Int):Nat->List Int
 | 0=>[]
 | t+1=>writ ns r t++[pick ns (cand ns (there ns.length r (writ ns r t)) (writ ns r t))]
structure Good (n:Nat) (r:Int) (w:List Int):Prop where
 nd:w.Nodup
 lt:∀ q∈w,0<=q/\q<n/\q+1<w.length+r
def better (ns:List Int) (b p:Int):Int:=if val ns p<val ns b then p else b
end Fw
namespace Fw
open PySem L2
end Fw
namespace Fw
open PySem L2
abbrev Key2:=Nat × Int
def kle (a b:Key2):Prop:=a.1<b.1∨(a.1=b.1/\a.2<=b.2)
def nxtK (k:Option Key2) (v:Int):Key2:=match k with | none=>(0,v) | some (r,l)=>(if v<l then r+1 else r,v)
def Zg7:Option Key2->List Int->List Key2
 | _,[]=>[]
 | k,v::vs=>nxtK k v::Zg7 (some (nxtK k v)) vs
def wk (ns:List Int) (r:Int) (t:Nat):List Key2:=Zg7 none ((writ ns r t).map (val ns))
def lk (ns:List Int) (r:Int) (t:Nat):Option Key2:=(wk ns r t).getLast?
structure Holds (n:Nat) (r:Int) (v:List Int):Prop where
 nd:v.Nodup
 lt:∀ (i:Nat) p,v[i]?=some p->0<=p/\p<n/\p<i+r
end Fw
namespace Lv
open PySem L2 Fw
end Lv
namespace L2
open PySem PySem.Spec PyProof.Rows PySem.SeqAt
end L2
namespace Lv
open PySem L2 Fw
structure Rws3 (H0 H:Hp) (l:Addr) (rf:List Addr) (R:List (List Int)):Prop where
 top:H l=some (.lst (rf.map V.ref))
 rows:LLs H rf R
 own:∀ q∈rf,H0 q=none/\q≠l
 nd:rf.Nodup
end Lv
namespace L2
open PySem PySem.Spec PyProof.Rows PySem.SeqAt
section
variable {X:Cx}
end
end L2
namespace Lv
open PySem L2 Fw
structure HoldsP (n:Nat) (r:Int) (ws:List Int):Prop where
 len:ws.length=n
 nd:ws.Nodup
 rg:∀ p∈ws,0<=p/\p<(n:Int)
 bd:∀ (i:Nat) (p:Int),ws[i]?=some p->p<i+r
structure HoldsT (n:Nat) (r:Int) (ws:List Int) (t:Nat):Prop where
 nd:(ws.take t).Nodup
 rg:∀ p∈ws.take t,0<=p/\p<(n:Int)
 bd:∀ (i:Nat) (p:Int),(ws.take t)[i]?=some p->p<i+r
end Lv
namespace Lv
open PySem L2 Fw
end Lv
namespace Lv
open PySem L2 Fw
structure HI (n:Nat) (r:Int) (ly fs:List Int) (c:Nat):Prop where
 pm:(fs++ly).Perm (upto c)
 bd:∀ (i:Nat) (p:Int),fs[i]?=some p->p<i+r
 cn:c=min n (fs.length+r.toNat)
end Lv
namespace Lv
open PySem L2 Fw
end Lv
namespace Lv
open PySem L2 Fw
end Lv
namespace L2
open PySem PySem.Spec PyProof.Rows PySem.SeqAt
section
variable {X:Cx}{tg:Expr}
end
end L2
namespace L2
open PySem PySem.Spec PyProof.Rows
section
variable {own:List Str}{js:List Nat}{g:TG}{tt:TT}{te:TE}{σ:L2.St}{H1:Hp}{Q:VK}
theorem Zkh {lo:Int}{n:Nat} (zs:List V) (hz:zs.length=n) (hlen:n<=20000)
  (hs:∀ i z,i<n->zs[i]?=some z->∀ H,Same H1 H->∀ R:VK,(∀ H',Same H H'->R z H')->g (.int (lo+(i:Nat))) (blkσ own js σ) H fun τ H4=>te τ H4 R)
  (hd:∀ acc H,H1 acc=none->Same H1 H->H acc=some (.lst zs)->Q (.ref acc) H):Zbp own js g ZcZ te σ (Itr lo n) H1 Q:=by
 refine ZbS (fun acc i H=>Same H1 H/\H acc=some (.lst (zs.take i))) (fun acc h0=>⟨Same.new h0,Zab⟩) ?_ fun acc H h0 ⟨s1,hacc⟩=>hd acc H h0 s1 (by rw[hacc,<- hz,YaO]);rintro acc i H h0 hi ⟨s1,hacc⟩;have hy':=Yaa (l:=zs) (i:=i) (by omega);refine (cast ?_ (hs i _ hi hy' H s1 (fun y H6=>∃ zs',H6 acc=some (.lst zs')/\zs'.length<sizeLine/\(i+1<=n/\(Same H1 (upd H6 acc (.lst (zs'++[y])))/\upd H6 acc (.lst (zs'++[y])) acc=some (.lst (zs.take (i+1)))))) fun H' s'=>?_))
 ·unfold ZcZ;simp only[if_true]
 ·refine⟨_,s' _ _ hacc,?_,hi,(s1.trans s').put h0,?_⟩
  ·rw[sizeLine_eq,Yaz];omega
  ·rw[Zab,Ybe,hy'];simp
end
end L2
namespace Lv
open PySem L2
def Zo0 (p L:Nat):Nat:=if L=0 then 0 else (L - 1) / p+1
def Zpj (p:Nat) (xs:List Int):List (List Int):=(YaT (Zo0 p xs.length)).map fun i=>(xs.drop (i*p)).take p
def Zpi (ns:List Int):List Int:=ns.map fun n=>min n ((ns.length:Int) - 1)
end Lv
namespace Lv
open PySem L2
theorem Zhk:∀ {a b ns:List Int},leP a b->ns.length=a.length->(∀ n∈ns,0<=n)->dot a ns<=dot b ns
 | [],[],_,_,_,_=>by simp[dot]
 | [],_::_,_,h,_,_=>h.elim
 | _::_,[],_,h,_,_=>h.elim
 | a::as,b::bs,[],_,h,_=>by simp at h
 | a::as,b::bs,n::ns,h,hl,hn=>by
  have ih:=Zhk (a:=as) (b:=bs) (ns:=ns) h.2 (by simpa using hl) fun m hm=>hn m (Yar _ hm);have:=YbB h.1 (hn n Yaq);simp only[dot];omega
end Lv
namespace Lv
open PySem L2
end Lv
namespace Lv
open PySem L2
def Zo4 (r:List (List Int)):List Int:=r.getLastD []
def wr (L:List (List (List Int))):List Int:=(L.map Zo4).flatten
end Lv
namespace Lv
open PySem L2
theorem ZeL (xs:List V) (c:Nat):cutV xs none (some (c:Int))=xs.take c:=by
 unfold cutV;show (xs.drop 0).take (HT.sIx xs.length xs.length (some (c:Int)) - 0)=_;rw[HT.sIx_nat,Nat.sub_zero,List.drop_zero];by_cases h:c<=xs.length
 ·rw[Ycm h]
 ·rw[Yd4 (by omega),YaO,Ybn (by omega)]
theorem ZeM (xs:List V) (c:Nat):cutV xs (some (c:Int)) none=xs.drop c:=by
 unfold cutV;rw[HT.sIx_nat];show (xs.drop (min c xs.length)).take (xs.length - min c xs.length)=_;by_cases h:c<=xs.length
 ·rw[Ycm h,Ybn (by simp)]
 ·rw[Yd4 (by omega),List.drop_length,List.drop_of_length_le (by omega)];simp
end Lv
namespace StT
open PySem PySem.SetTable
def f5 (N x:Nat):Nat:=(x*5+1) % N
def it5 (N:Nat):Nat->Nat->Nat
 | 0,x=>x
 | s+1,x=>it5 N s (f5 N x)
theorem ZeD (N:Nat):∀ (s t x:Nat),it5 N (s+t) x=it5 N t (it5 N s x)
 | 0,t,x=>by rw[YbF];rfl
 | s+1,t,x=>by rw[Nat.succ_add];exact ZeD N s t (f5 N x)
def orb (N:Nat):Nat->Nat->Nat->Nat
 | 0,_,acc=>acc
 | s+1,x,acc=>orb N s (f5 N x) (acc ||| (1 <<< x))
theorem Zi5 (N j:Nat):∀ (s x acc:Nat),(orb N s x acc).testBit j=true->acc.testBit j=true∨∃ t,t<s/\it5 N t x=j
 | 0,x,acc,h=>.inl h
 | s+1,x,acc,h=>by
  rcases Zi5 N j s _ _ h with h | ⟨t,ht,e⟩
  ·rw[Nat.testBit_or,Yej] at h;rcases h with h | h
   ·exact .inl h
   ·refine .inr ⟨0,Ye8 _,?_⟩;rw[Nat.one_shiftLeft,Nat.testBit_two_pow] at h;exact of_decide_eq_true h
  ·exact .inr ⟨t+1,by omega,e⟩
theorem ZiJ {N:Nat} (h1:orb N N 0 0=2 ^ N - 1) (h2:it5 N N 0=0):∀ i j,i<N->j<N->∃ s,s<N/\it5 N s i=j:=by
 have all:∀ j,j<N->∃ s,s<N/\it5 N s 0=j:=fun j hj=>by
  have:(orb N N 0 0).testBit j=true:=by rw[h1,Nat.testBit_two_pow_sub_one];exact decide_eq_true hj
  rcases Zi5 N j N 0 0 this with h | h
  ·simp at h
  ·exact h
 intro i j hi hj;obtain⟨a,ha,ea⟩:=all i hi;obtain⟨b,hb,eb⟩:=all j hj;by_cases hab:a<=b
 ·exact⟨b - a,by omega,by rw[<- ea,<- ZeD,show a+(b - a)=b by omega,eb]⟩
 ·refine⟨N - a+b,by omega,?_⟩;rw[<- ea,<- ZeD,show a+(N - a+b)=N+b by omega,ZeD,h2,eb]
def Msk (m:Nat):Prop:=m=7∨m=31∨m=127∨m=511∨m=2047
theorem Zjr {m:Nat} (h:Msk m):∀ i j,i<m+1->j<m+1->∃ s,s<m+1/\it5 (m+1) s i=j:=by
 rcases h with rfl | rfl | rfl | rfl | rfl
 ·exact ZiJ (by decide +kernel) (by decide +kernel)
 ·exact ZiJ (by decide +kernel) (by decide +kernel)
 ·exact ZiJ (by decide +kernel) (by decide +kernel)
 ·exact ZiJ (by decide +kernel) (by decide +kernel)
 ·exact ZiJ (by decide +kernel) (by decide +kernel)
def lpI (m:Nat) (h:Int):Nat->Nat × Nat
 | 0=>(bits h % (m+1),bits h)
 | k+1=>leap m (lpI m h k).1 (lpI m h k).2
theorem Zma (m:Nat) (h:Int):∀ k,(lpI m h k).2=bits h / 32 ^ k
 | 0=>by simp[lpI]
 | k+1=>by
  show (leap m (lpI m h k).1 (lpI m h k).2).2=_;unfold leap;rw[Zma m h k,YeY,Nat.pow_succ]
theorem Zny (h:Int):bits h<2 ^ 64:=by
 unfold bits;have h1:=Ya4 h (show (2 ^ 64:Int)≠0 by decide);have h2:=Yba h (show (0:Int)<2 ^ 64 by decide);omega
theorem Zo3 (m:Nat) (h:Int):∀ k,(lpI m h k).1<m+1
 | 0=>YdW _ (Ye8 _)
 | k+1=>YdW _ (Ye8 _)
theorem Znh (m:Nat) (h:Int) (k:Nat):(lpI m h (12+(k+1))).1=f5 (m+1) (lpI m h (12+k)).1:=by
 show (leap m (lpI m h (12+k)).1 (lpI m h (12+k)).2).1=_;unfold leap f5;have:(lpI m h (12+k)).2 / 32=0:=by
  rw[Zma,YeY,<- Nat.pow_succ];refine Nat.div_eq_of_lt (Yal (Zny h) ?_);refine Ybv (show 2 ^ 64<=32 ^ 13 by decide) (Nat.pow_le_pow_right (by decide) (by omega))
 rw[this,Ydz]
theorem Zoi (m:Nat) (h:Int):∀ s k,(lpI m h (12+k+s)).1=it5 (m+1) s (lpI m h (12+k)).1
 | 0,k=>rfl
 | s+1,k=>by
  rw[it5,<- Znh,show 12+k+(s+1)=12+(k+1)+s by omega];exact Zoi m h s (k+1)
theorem Zg6 {m:Nat} (hm:Msk m) (h:Int) (j:Nat) (hj:j<m+1):∃ k,k<turns m/\(lpI m h k).1=j:=by
 obtain⟨s,hs,e⟩:=Zjr hm (lpI m h (12+0)).1 j (Zo3 m h _) hj;exact⟨12+s,by unfold turns;omega,by have:=Zoi m h s 0;rw[e] at this;exact this⟩
def adv (m:Nat) (p:Probe):Probe :=
 if p.more > 0 then { p with j:=p.j+1,more:=p.more - 1 } else
 let (i,perturb):=leap m p.i p.perturb
 { p with j:=i,more:=runEnd m i - i,i,perturb }
def pst (m:Nat) (h:Int):Probe:={ j:=bits h % (m+1),more:=runEnd m (bits h % (m+1)) - bits h % (m+1),i:=bits h % (m+1),perturb:=bits h,dummy:=none }
def pth (m:Nat) (h:Int):Nat->Probe
 | 0=>pst m h
 | n+1=>adv m (pth m h n)
theorem Zdb (m:Nat) (h:Int):∀ n,(pth m h n).dummy=none
 | 0=>rfl
 | n+1=>by
  show (adv m (pth m h n)).dummy=none;unfold adv;split
  ·exact Zdb m h n
  ·exact Zdb m h n
def Zif (m:Nat) (h:Int) (n k:Nat):Prop:=(pth m h n).j=(lpI m h k).1/\(pth m h n).i=(lpI m h k).1/\(pth m h n).perturb=(lpI m h k).2/\(pth m h n).more=runEnd m (lpI m h k).1 - (lpI m h k).1
theorem ZmL (m i:Nat):runEnd m i - i<=9:=by unfold runEnd;split <;> omega
theorem Zhd {m:Nat}{h:Int}{n k:Nat} (a:Zif m h n k):∀ q,q<=runEnd m (lpI m h k).1 - (lpI m h k).1->(pth m h (n+q)).j=(lpI m h k).1+q/\(pth m h (n+q)).i=(lpI m h k).1/\(pth m h (n+q)).perturb=(lpI m h k).2/\(pth m h (n+q)).more=runEnd m (lpI m h k).1 - (lpI m h k).1 - q
 | 0,_=>⟨by rw[Ydz,Ydz];exact a.1,a.2.1,a.2.2.1,a.2.2.2⟩
 | q+1,hq=>by
  obtain⟨b1,b2,b3,b4⟩:=Zhd a q (by omega);have e:pth m h (n+(q+1))=adv m (pth m h (n+q)):=rfl;have hp:(pth m h (n+q)).more > 0:=by omega
  rw[e];unfold adv;rw[if_pos hp];exact⟨by dsimp only;omega,b2,b3,by dsimp only;omega⟩
theorem Zg4 {m:Nat}{h:Int}{n k:Nat} (a:Zif m h n k):Zif m h (n+(runEnd m (lpI m h k).1 - (lpI m h k).1)+1) (k+1):=by
 obtain⟨b1,b2,b3,b4⟩:=Zhd a _ (Yag _);have e:pth m h (n+(runEnd m (lpI m h k).1 - (lpI m h k).1)+1)=adv m (pth m h (n+(runEnd m (lpI m h k).1 - (lpI m h k).1))):=rfl;have hp:¬ (pth m h (n+(runEnd m (lpI m h k).1 - (lpI m h k).1))).more > 0:=by omega
 unfold Zif;rw[e];unfold adv;rw[if_neg hp,b2,b3];exact⟨rfl,rfl,rfl,rfl⟩
theorem Zml (m:Nat) (h:Int):∀ k,∃ n,n<=10*k/\Zif m h n k
 | 0=>⟨0,Yag _,rfl,rfl,rfl,rfl⟩
 | k+1=>by
  obtain⟨n,hn,a⟩:=Zml m h k;exact⟨_,by have:=ZmL m (lpI m h k).1;omega,Zg4 a⟩
theorem Zne {m:Nat} (hm:Msk m) (h:Int) (j:Nat) (hj:j<m+1):∃ n,n<10*turns m/\(pth m h n).j=j:=by
 obtain⟨k,hk,e⟩:=Zg6 hm h j hj;obtain⟨n,hn,a⟩:=Zml m h k;exact⟨n,by omega,a.1.trans e⟩
theorem ZgQ {m:Nat} (h:Int):∀ n,(pth m h n).j<m+1/\(pth m h n).j+(pth m h n).more<=m
 | 0=>by
  have:=YdW (bits h) (show 0<m+1 by omega);show bits h % (m+1)<m+1/\bits h % (m+1)+(runEnd m (bits h % (m+1)) - bits h % (m+1))<=m;unfold runEnd;split <;> omega
 | n+1=>by
  obtain⟨a,b⟩:=ZgQ (m:=m) h n;show (adv m (pth m h n)).j<m+1/\(adv m (pth m h n)).j+(adv m (pth m h n)).more<=m;unfold adv;split
  ·dsimp only;omega
  ·have:=YdW ((pth m h n).i*5+1+(pth m h n).perturb / 32) (show 0<m+1 by omega);dsimp only[leap];unfold runEnd;split <;> omega
end StT
namespace StT
open PySem PySem.SetTable
def Rise (xs:Array Nat):Prop:=xs.toList.Pairwise (·<·)
theorem Rise.lt {xs:Array Nat} (h:Rise xs) {i j:Nat} (hij:i<j) (hj:j<xs.size):xs.getD i 0<xs.getD j 0:=by
 have hi:i<xs.size:=by omega
 have:=Yc9.mp h i j (by simpa using hi) (by simpa using hj) hij;simpa[YbN,hi,hj] using this
theorem ZeQ {xs:Array Nat} (hr:Rise xs) (j:Nat):∀ (fuel lo hi:Nat),hi - lo<=fuel->lo<=hi->hi<=xs.size->(∀ i,i<lo->xs.getD i 0<j)->(∀ i,hi<=i->i<xs.size->j<=xs.getD i 0) ->
  ∃ r,below.go xs j fuel lo hi=r/\r<=xs.size/\(∀ i,i<r->xs.getD i 0<j)/\∀ i,r<=i->i<xs.size->j<=xs.getD i 0
 | 0,lo,hi,hf,h1,h2,a,b=>⟨lo,rfl,by omega,a,fun i h=>b i (by omega)⟩
 | fuel+1,lo,hi,hf,h1,h2,a,b=>by
  unfold below.go;by_cases hlt:lo<hi
  ·rw[if_pos hlt];dsimp only;by_cases hm:xs.getD ((lo+hi) / 2) j<j
   ·rw[if_pos hm];have hs:(lo+hi) / 2<xs.size:=by omega
    have hm:xs.getD ((lo+hi) / 2) 0<j:=by simpa[YbN,hs] using hm
    refine ZeQ hr j fuel _ _ (by omega) (by omega) h2 (fun i hi'=>?_) b;by_cases e:i=(lo+hi) / 2
    ·rw[e];exact hm
    ·exact Ye9 (hr.lt (by omega) hs) hm
   ·rw[if_neg hm];have hs:(lo+hi) / 2<xs.size:=by omega
    have hm:¬ xs.getD ((lo+hi) / 2) 0<j:=by simpa[YbN,hs] using hm
    refine ZeQ hr j fuel _ _ (by omega) (by omega) (by omega) a (fun i hi' hi2=>?_);by_cases e:i=(lo+hi) / 2
    ·rw[e];omega
    ·have:=hr.lt (show (lo+hi) / 2<i by omega) hi2;omega
  ·rw[if_neg hlt];exact⟨lo,rfl,by omega,a,fun i h=>b i (by omega)⟩
theorem ZbU {xs:Array Nat} (hr:Rise xs) (j:Nat):below xs j<=xs.size/\(∀ i,i<below xs j->xs.getD i 0<j)/\∀ i,below xs j<=i->i<xs.size->j<=xs.getD i 0:=by
 obtain⟨r,e,h⟩:=ZeQ hr j xs.size 0 xs.size (by omega) (by omega) (Yag _) (fun i h=>absurd h (YbC _)) (fun i h h2=>by omega);unfold below;rw[e];exact h
theorem ZbV {xs:Array Nat} (hr:Rise xs) {i j:Nat} (h:xs[i]?=some j):below xs j=i:=by
 obtain⟨b1,b2,b3⟩:=ZbU hr j;have hi:i<xs.size:=(Ya6.mp h).1
 have e:xs.getD i 0=j:=by simp[YbN,hi];exact (Ya6.mp h).2
 rcases Ydh (below xs j) i with z | z | z
 ·have:=b3 (below xs j) (Yag _) (by omega);have:=hr.lt z hi;omega
 ·exact z
 ·have:=b2 i z;omega
theorem Zhp {xs:Array Nat} (hr:Rise xs) {j:Nat} (h:j∈xs.toList):xs[below xs j]?=some j:=by
 obtain⟨i,hi,e⟩:=Ybu h;have hx:xs[i]?=some j:=by
  rw[<- Yaf,Yaa hi,e]
 rw[ZbV hr hx];exact hx
theorem Ze7 {t:SetTable} (hr:Rise t.place) {j i:Nat} (h:t.place[i]?=some j):t.slot j=.live i:=by
 unfold Yfv;dsimp only;rw[ZbV hr h,h];simp
theorem ZhA {t:SetTable} (hr:Rise t.place) (hd:t.dummies=#[]) {j:Nat} (h:j ∉ t.place.toList):t.slot j=.empty:=by
 unfold Yfv;dsimp only;have:(t.place[below t.place j]? == some j)=false:=by
  refine Bool.eq_false_iff.mpr fun z=>h ?_;have z:=eq_of_beq z;rw[<- Yaf] at z;exact Yau z
 rw[this,hd];rfl
theorem ZhB {t:SetTable} (hr:Rise t.place) (hd:t.dummies=#[]) (j:Nat):(j ∉ t.place.toList/\t.slot j=.empty)∨∃ i,t.place[i]?=some j/\t.slot j=.live i:=by
 by_cases h:j∈t.place.toList
 ·exact .inr ⟨_,Zhp hr h,Ze7 hr (Zhp hr h)⟩
 ·exact .inl ⟨h,ZhA hr hd h⟩
structure Tab (t:SetTable) (es:Array (Int × Value)):Prop where
 msk:Msk t.mask
 rise:Rise t.place
 dm:t.dummies=#[]
 sz:t.place.size=es.size
 few:es.size*5<t.mask*3
 le:∀ j∈t.place.toList,j<=t.mask
 chain:∀ (i:Nat) j e,t.place[i]?=some j->es[i]?=some e->∃ n,(pth t.mask e.1 n).j=j/\∀ m,m<n->(pth t.mask e.1 m).j∈t.place.toList
theorem Tab.msk1 {t:SetTable}{es:Array (Int × Value)} (T:Tab t es):7<=t.mask/\t.mask<=2047:=by
 rcases T.msk with h | h | h | h | h <;> omega
theorem Tab.fits {t:SetTable}{es:Array (Int × Value)} (T:Tab t es):t.fits es.size=true:=by
 have:=T.few;have:=T.msk1;unfold Yfw Yd9;rw[T.dm,T.sz];simp;omega
theorem Tab.odd {t:SetTable}{es:Array (Int × Value)} (T:Tab t es):t.gaveWay=false:=by
 unfold SetTable.gaveWay;rcases T.msk with h | h | h | h | h <;> rw[h] <;> rfl
theorem Tab.room {t:SetTable}{es:Array (Int × Value)} (T:Tab t es):∃ j,j<t.mask+1/\j ∉ t.place.toList:=by
 refine YbU fun z=>?_;have hall:∀ j,j<t.mask+1->j∈t.place.toList:=fun j hj=>YbU fun y=>z ⟨j,hj,y⟩;have hsub:(YaT (t.mask+1)).length<=t.place.toList.length:=by
  refine List.Nodup.length_le_of_subset Ycu fun j hj=>hall j (Ybg.mp hj)
 have:=T.few;have:=T.msk1;rw[Yb7,Yax,T.sz] at hsub;omega
theorem Tab.free {t:SetTable}{es:Array (Int × Value)} (T:Tab t es) (h:Int):∃ n,n<10*turns t.mask/\(pth t.mask h n).j ∉ t.place.toList/\∀ m,m<n->(pth t.mask h m).j∈t.place.toList:=by
 obtain⟨j,hj,hn⟩:=T.room;obtain⟨n0,h0,e0⟩:=Zne T.msk h j hj;have key:∀ k,(∀ m,m<k->(pth t.mask h m).j∈t.place.toList)∨∃ n,n<k/\(pth t.mask h n).j ∉ t.place.toList/\∀ m,m<n->(pth t.mask h m).j∈t.place.toList:=by
  intro k
  induction k with
  | zero=>exact .inl fun m hm=>absurd hm (YbC _)
  | succ k ih=>
   rcases ih with h1 | ⟨n,a,b,c⟩
   ·by_cases hk:(pth t.mask h k).j∈t.place.toList
    ·exact .inl fun m hm=>by
      rcases Ybl m k with z | z
      ·exact h1 m z
      ·rw[show m=k by omega];exact hk
    ·exact .inr ⟨k,Ybs _,hk,h1⟩
   ·exact .inr ⟨n,by omega,b,c⟩
 rcases key (n0+1) with h1 | ⟨n,a,b,c⟩
 ·exact absurd (h1 n0 (Ybs _)) (by rw[e0];exact hn)
 ·exact⟨n,by omega,b,c⟩
theorem ZgT {t:SetTable} (hr:Rise t.place) (hd:t.dummies=#[]) (ha:Nat->Int) (h:Int) {N:Nat} (hN:(pth t.mask h N).j ∉ t.place.toList) :
  ∀ (fuel n:Nat),n<=N->N<n+fuel->∃ m,n<=m/\m<=N/\(∀ l,n<=l->l<m->∀ i,t.place[i]?=some (pth t.mask h l).j->ha i≠h) /\
   (((pth t.mask h m).j ∉ t.place.toList/\YbT t ha h fuel (pth t.mask h n)=some (.empty (pth t.mask h m).j none)) ∨
    ∃ i,t.place[i]?=some (pth t.mask h m).j/\ha i=h/\m<N/\YbT t ha h fuel (pth t.mask h n)=some (.candidate (pth t.mask h m).j i (pth t.mask h (m+1))))
 | 0,n,h1,h2=>by omega
 | fuel+1,n,h1,h2=>by
  rcases ZhB hr hd (pth t.mask h n).j with ⟨hn,e⟩ | ⟨i,hi,e⟩
  ·refine⟨n,Yag _,h1,fun l a b=>by omega,.inl ⟨hn,?_⟩⟩;unfold YbT;rw[e];dsimp only;rw[Zdb]
  ·have hin:(pth t.mask h n).j∈t.place.toList:=by
    rw[<- Yaf] at hi;exact Yau hi
   have hne:n≠N:=fun z=>hN (z ▸ hin);by_cases hh:ha i=h
   ·refine⟨n,Yag _,h1,fun l a b=>by omega,.inr ⟨i,hi,hh,by omega,?_⟩⟩;unfold YbT;rw[e];dsimp only;rw[if_pos (by simpa using hh)];rfl
   ·obtain⟨m,m1,m2,m3,m4⟩:=ZgT hr hd ha h hN fuel (n+1) (by omega) (by omega);have e2:YbT t ha h (fuel+1) (pth t.mask h n)=YbT t ha h fuel (pth t.mask h (n+1)):=by
     conv=>lhs;unfold YbT
     rw[e];dsimp only;rw[if_neg (by simpa using hh)];rfl
    refine⟨m,by omega,m2,fun l a b i' hi'=>?_,?_⟩
    ·by_cases z:l=n
     ·subst z;have b1:=ZbV hr hi;have b2:=ZbV hr hi';have:i=i':=by omega
      rw[<- this];exact hh
     ·exact m3 l (by omega) b i' hi'
    ·rw[e2];exact m4
end StT
namespace StT
open PySem PySem.SetTable
theorem ZaA {α:Type} (xs:Array α) (p:Nat) (x:α):(insertAt xs p x).toList=xs.toList.take p++x::xs.toList.drop p:=by
 unfold insertAt;simp[List.extract_eq_take_drop,Ybn]
theorem Zmm {α β:Type}{a:List α}{b:List β} (h:a.length=b.length) (p:Nat) (x:α) (y:β):∀ q∈(a.take p++x::a.drop p).zip (b.take p++y::b.drop p),q=(x,y)∨q∈a.zip b:=by
 intro q hq;have h1:(a.take p).length=(b.take p).length:=by rw[Yaz,Yaz,h]
 rw[List.zip_append h1,YdK,Yaj,Yao] at hq;have e:a.zip b=(a.take p).zip (b.take p)++(a.drop p).zip (b.drop p):=by
  rw[<- List.zip_append h1,YaM,YaM]
 rw[e,Yaj];rcases hq with hq | hq | hq
 ·exact .inr (.inl hq)
 ·exact .inl hq
 ·exact .inr (.inr hq)
theorem Zmo {α β:Type}{a:Array α}{b:Array β}{i:Nat}{x:α}{y:β} (h1:a[i]?=some x) (h2:b[i]?=some y):(x,y)∈a.toList.zip b.toList:=by
 rw[<- Yaf] at h1 h2;exact Yau (YeF.mpr ⟨h1,h2⟩)
theorem Zmn {α β:Type}{a:Array α}{b:Array β}{x:α}{y:β} (h:(x,y)∈a.toList.zip b.toList):∃ i:Nat,a[i]?=some x/\b[i]?=some y:=by
 obtain⟨i,hi⟩:=Yb0.mp h;obtain⟨h1,h2⟩:=YeF.mp hi;exact⟨i,by rw[<- Yaf];exact h1,by rw[<- Yaf];exact h2⟩
theorem ZiO {t:SetTable} (hd:t.dummies=#[]) (j:Nat):t.put j=({ t with place:=insertAt t.place (below t.place j) j },below t.place j):=by
 unfold SetTable.put;dsimp only;rw[hd];have:has #[] j=false:=rfl;rw[this];simp[hd]
theorem Tab.put {t:SetTable}{es:Array (Int × Value)} (T:Tab t es) {h:Int}{x:Value}{n:Nat} (hn:(pth t.mask h n).j ∉ t.place.toList) (hb:∀ m,m<n->(pth t.mask h m).j∈t.place.toList) (hf:¬ (es.size+1)*5 ≥ t.mask*3) :
  Tab (t.put (pth t.mask h n).j).1 (insertAt es (t.put (pth t.mask h n).j).2 (h,x)):=by
 rw[ZiO T.dm];dsimp only;obtain⟨b1,b2,b3⟩:=ZbU T.rise (pth t.mask h n).j;generalize hp:below t.place (pth t.mask h n).j=p at b1 b2 b3 ⊢;have hj:=(ZgQ (m:=t.mask) h n).1
 generalize hJ:(pth t.mask h n).j=j at hn b2 b3 hj ⊢;have mem':∀ y,y∈(insertAt t.place p j).toList↔y=j∨y∈t.place.toList:=fun y=>by
  rw[ZaA,Yaj,Yao]
  conv=>rhs;rw[<- YaM p t.place.toList,Yaj]
  constructor
  ·rintro (h | h | h)
   ·exact .inr (.inl h)
   ·exact .inl h
   ·exact .inr (.inr h)
  ·rintro (h | h | h)
   ·exact .inr (.inl h)
   ·exact .inl h
   ·exact .inr (.inr h)
 have ge:∀ i,i<t.place.size->t.place.getD i 0∈t.place.toList:=fun i hi=>by simp[YbN,hi]
 refine⟨T.msk,?_,T.dm,?_,?_,?_,?_⟩
 ·show (insertAt t.place p j).toList.Pairwise (·<·);rw[ZaA,YaR,YaZ];have hr:t.place.toList.Pairwise (·<·):=T.rise;refine⟨hr.take,⟨fun y hy=>?_,hr.drop⟩,fun a ha b hb2=>?_⟩
  ·obtain⟨i,hi,rfl⟩:=Ybu hy;rw[Ybp,Yax] at hi;have h3:=b3 (p+i) (by omega) (by omega);have h4:=ge (p+i) (by omega);rw[Yde];have e:t.place.getD (p+i) 0=t.place.toList[p+i]'(by simpa using (show p+i<t.place.size by omega)):=by simp[YbN,show p+i<t.place.size by omega]
   rw[<- e];refine Nat.lt_of_le_of_ne h3 fun z=>hn ?_;rw[z];exact h4
  ·obtain⟨i,hi,rfl⟩:=Ybu ha;rw[Yaz,Yax] at hi;have h3:=b2 i (by omega);rw[YcL];have e:t.place.getD i 0=t.place.toList[i]'(by simpa using (show i<t.place.size by omega)):=by simp[YbN,show i<t.place.size by omega]
   rw[<- e];rcases Yao.mp hb2 with rfl | hb2
   ·exact h3
   ·obtain⟨i2,hi2,rfl⟩:=Ybu hb2;rw[Ybp,Yax] at hi2;have h5:=b3 (p+i2) (by omega) (by omega);rw[Yde];have e2:t.place.getD (p+i2) 0=t.place.toList[p+i2]'(by simpa using (show p+i2<t.place.size by omega)):=by simp[YbN,show p+i2<t.place.size by omega]
    rw[<- e2];omega
 ·have hs:=T.sz;rw[<- Yax,<- Yax,ZaA,ZaA];simp only[Yak,YaU,Yaz,Ybp,Yax];omega
 ·rw[<- Yax,ZaA];have hs:=T.sz;simp only[Yak,YaU,Yaz,Ybp,Yax];show _<t.mask*3;omega
 ·intro y hy;rcases (mem' y).mp hy with rfl | hy
  ·show _<=t.mask;omega
  ·exact T.le y hy
 ·intro i j' e h1 h2;have hz:=Zmo h1 h2;rw[ZaA,ZaA] at hz;rcases Zmm (show t.place.toList.length=es.toList.length by simpa using T.sz) p j (h,x) _ hz with hz | hz
  ·cases hz;exact⟨n,hJ,fun m hm=>(mem' _).mpr (.inr (hb m hm))⟩
  ·obtain⟨i2,e1,e2⟩:=Zmn hz;obtain⟨n2,a,b⟩:=T.chain i2 j' e e1 e2;exact⟨n2,a,fun m hm=>(mem' _).mpr (.inr (b m hm))⟩
def Occ (ow:Array (Option Nat)) (j:Nat):Prop:=∃ l,ow[j]?=some (some l)
theorem ZjX {ow:Array (Option Nat)}{j:Nat} (hj:j<ow.size):(ow.getD j (some 0)).isNone=true↔ow[j]?=some none:=by
 simp[YbN,hj]
theorem Zl8 {ow:Array (Option Nat)}{j:Nat} (hj:j<ow.size) (h:¬ (ow.getD j (some 0)).isNone=true):Occ ow j:=by
 rw[ZjX hj] at h
 cases e:ow[j] with
 | none=>exact absurd (by rw[YaP hj,e]) h
 | some l=>exact⟨l,by rw[YaP hj,e]⟩
theorem Zfw {m:Nat}{h:Int}{ow:Array (Option Nat)} (hs:ow.size=m+1) {k':Nat} (hk':ow[(lpI m h k').1]?=some none):∀ (fuel k n:Nat),Zif m h n k->(∀ l,l<n->Occ ow (pth m h l).j)->k<=k'->k'<k+fuel ->
  ∃ j N,layClean.free m ow fuel (lpI m h k).1 (lpI m h k).2=some j/\(pth m h N).j=j/\ow[j]?=some none/\∀ l,l<N->Occ ow (pth m h l).j
 | 0,k,n,a,b,h1,h2=>by omega
 | fuel+1,k,n,a,b,h1,h2=>by
  unfold layClean.free
  cases e:(YaT (runEnd m (lpI m h k).1+1 - (lpI m h k).1)).find? fun q=>(ow.getD ((lpI m h k).1+q) (some 0)).isNone with
  | some q=>
   obtain⟨q1,q2,q3⟩:=List.find?_range_eq_some.mp e;have q2:=Ybg.mp q2;have hle:(lpI m h k).1<=runEnd m (lpI m h k).1:=by unfold runEnd;split <;> omega
   have at_:∀ r,r<=q->(pth m h (n+r)).j=(lpI m h k).1+r:=fun r hr=>(Zhd a r (by omega)).1
   have bd:∀ r,r<=q->(lpI m h k).1+r<ow.size:=fun r hr=>by
    rw[hs,<- at_ r hr];exact (ZgQ (m:=m) h _).1
   refine⟨_,n+q,rfl,at_ q (Yag _),(ZjX (bd q (Yag _))).mp q1,fun l hl=>?_⟩;rcases Ybl l n with z | z
   ·exact b l z
   ·have:=q3 (l - n) (by omega);rw[show l=n+(l - n) by omega,at_ (l - n) (by omega)];exact Zl8 (bd _ (by omega)) fun y=>by rw[y] at this;exact absurd this (by decide)
  | none=>
   have e:=List.find?_range_eq_none.mp e;have hle:(lpI m h k).1<=runEnd m (lpI m h k).1:=by unfold runEnd;split <;> omega
   have occr:∀ r,r<=runEnd m (lpI m h k).1 - (lpI m h k).1->Occ ow (pth m h (n+r)).j:=fun r hr=>by
    have h3:=(Zhd a r hr).1
    have h4:=(ZgQ (m:=m) h (n+r)).1
    have h5:=e r (by omega);rw[h3] at h4 ⊢;exact Zl8 (by omega) fun y=>by rw[y] at h5;exact absurd h5 (by decide)
   have hkk:k≠k':=fun z=>by
    subst z;obtain⟨l,hl⟩:=occr 0 (YaW _);rw[Ydz,a.1,hk'] at hl;cases hl
   exact Zfw hs hk' fuel (k+1) _ (Zg4 a) (fun l hl=>by
    rcases Ybl l n with z | z
    ·exact b l z
    ·rw[show l=n+(l - n) by omega];exact occr (l - n) (by omega)) (by omega) (by omega)
structure Own (m:Nat) (hs:List Int) (ow:Array (Option Nat)):Prop where
 sz:ow.size=m+1
 hit:∀ l:Nat,l<hs.length->∃ j:Nat,ow[j]?=some (some l)
 own:∀ (j l:Nat),ow[j]?=some (some l)->∃ h,hs[l]?=some h/\∃ n,(pth m h n).j=j/\∀ q,q<n->Occ ow (pth m h q).j
 inj:∀ (j j' l:Nat),ow[j]?=some (some l)->ow[j']?=some (some l)->j=j'
theorem Own.start (m:Nat):Own m [] (Array.replicate (m+1) none):=by
 refine⟨by simp,fun l h=>absurd h (YbC _),fun j l h=>?_,fun j j' l h=>?_⟩
 ·rw[YeK] at h;split at h <;> simp at h
 ·rw[YeK] at h;split at h <;> simp at h
theorem Own.room {m:Nat}{hs:List Int}{ow:Array (Option Nat)} (O:Own m hs ow) (hl:hs.length<m+1):∃ j:Nat,j<m+1/\ow[j]?=some none:=by
 refine YbU fun z=>?_;have hall:∀ j:Nat,j<m+1->∃ l:Nat,l<hs.length/\ow[j]?=some (some l):=fun j hj=>by
  have hj':j<ow.size:=by rw[O.sz];exact hj
  cases e:ow[j] with
  | none=>exact absurd ⟨j,hj,by rw[YaP hj',e]⟩ z
  | some l=>
   have e2:ow[j]?=some (some l):=by rw[YaP hj',e]
   obtain⟨h,hh,_⟩:=O.own j l e2;exact⟨l,(Yad.mp hh).1,e2⟩
 let f:Nat->Nat:=fun j=>((ow.getD j none).getD 0)
 have fv:∀ j:Nat,j<m+1->ow[j]?=some (some (f j))/\f j<hs.length:=fun j hj=>by
  obtain⟨l,hl,e⟩:=hall j hj;have hj':j<ow.size:=by rw[O.sz];exact hj
  have:f j=l:=by
   show (ow.getD j none).getD 0=l;rw[YaP hj'] at e;have e:=YaE e;simp[YbN,hj',e]
  rw[this];exact⟨e,hl⟩
 have nd:((YaT (m+1)).map f).Nodup:=by
  rw[Yc5,Ya1];refine Yci (fun {a b} ha hb hab z=>hab ?_) Ycu;have h1:=(fv a (Ybg.mp ha)).1
  have h2:=(fv b (Ybg.mp hb)).1
  rw[<- z] at h2;exact O.inj a b _ h1 h2
 have:=nd.length_le_of_subset (l₂:=YaT hs.length) fun y hy=>by
  obtain⟨j,hj,rfl⟩:=YaG.mp hy;exact Ybg.mpr (fv j (Ybg.mp hj)).2
 rw[Yac,Yb7,Yb7] at this;omega
theorem Own.step {m:Nat} (hm:Msk m) {hs:List Int}{ow:Array (Option Nat)} (O:Own m hs ow) (hl:hs.length<m+1) (h:Int):∃ j,layClean.free m ow (turns m) (bits h % (m+1)) (bits h)=some j/\Own m (hs++[h]) (ow.setIfInBounds j (some hs.length)):=by
 obtain⟨j0,hj0,e0⟩:=O.room hl;obtain⟨k',hk',ek'⟩:=Zg6 hm h j0 hj0;obtain⟨j,N,f1,f2,f3,f4⟩:=Zfw O.sz (h:=h) (by rw[ek'];exact e0) (turns m) 0 0 ⟨rfl,rfl,rfl,rfl⟩ (fun l hl=>absurd hl (YbC _)) (YaW _) (by omega);have hjs:j<ow.size:=(Ya6.mp f3).1
 refine⟨j,f1,?_⟩;have get:∀ i:Nat,(ow.setIfInBounds j (some hs.length))[i]?=if j=i then some (some hs.length) else ow[i]?:=fun i=>by
  rw[Array.getElem?_setIfInBounds];by_cases z:j=i
  ·subst z;rw[if_pos rfl,if_pos hjs,if_pos rfl]
  ·rw[if_neg z,if_neg z]
 have occ':∀ i,Occ ow i->Occ (ow.setIfInBounds j (some hs.length)) i:=fun i ⟨l,e⟩=>by
  by_cases z:j=i
  ·exact⟨hs.length,by rw[get,if_pos z]⟩
  ·exact⟨l,by rw[get,if_neg z];exact e⟩
 refine⟨by rw[Array.size_setIfInBounds];exact O.sz,fun l hl2=>?_,fun i l hi=>?_,fun i i' l h1 h2=>?_⟩
 ·rw[Yak] at hl2;by_cases z:l=hs.length
  ·exact⟨j,by rw[get,if_pos rfl,z]⟩
  ·obtain⟨i,hi⟩:=O.hit l (by simp at hl2;omega);refine⟨i,?_⟩;rw[get,if_neg fun y=>?_]
   ·exact hi
   ·subst y;rw[f3] at hi;cases hi
 ·rw[get] at hi;by_cases z:j=i
  ·rw[if_pos z] at hi;cases hi;exact⟨h,by simp,N,by rw[f2,z],fun q hq=>occ' _ (f4 q hq)⟩
  ·rw[if_neg z] at hi;obtain⟨h',hh,n,a,b⟩:=O.own i l hi;refine⟨h',?_,n,a,fun q hq=>occ' _ (b q hq)⟩;rw[YaL (Yad.mp hh).1];exact hh
 ·have lt:∀ i:Nat,ow[i]?=some (some l)->l<hs.length:=fun i hi=>by
   obtain⟨h',hh,_⟩:=O.own i l hi;exact (Yad.mp hh).1
  rw[get] at h1 h2;by_cases z:j=i
  ·rw[if_pos z] at h1;cases h1;by_cases z2:j=i'
   ·exact z.symm.trans z2
   ·rw[if_neg z2] at h2;exact absurd (lt _ h2) (Ya7 _)
  ·rw[if_neg z] at h1;by_cases z2:j=i'
   ·rw[if_pos z2] at h2;cases h2;exact absurd (lt _ h1) (Ya7 _)
   ·rw[if_neg z2] at h2;exact O.inj i i' l h1 h2
theorem Zdh {m:Nat} (hm:Msk m):∀ (rest hs:List Int) (ow:Array (Option Nat)),Own m hs ow->hs.length+rest.length<m+1 ->
  ∃ ow',(rest.foldl (fun acc h=>do
    let __x <- acc
    match __x with
     | (owner,k)=>do
      let j <- layClean.free m owner (turns m) (bits h % (m+1)) (bits h)
      pure (owner.setIfInBounds j (some k),k+1)) (some (ow,hs.length)))=some (ow',hs.length+rest.length)/\Own m (hs++rest) ow'
 | [],hs,ow,O,h=>⟨ow,rfl,by rw[YbI];exact O⟩
 | x::rest,hs,ow,O,h=>by
  rw[YaU] at h;obtain⟨j,f,O'⟩:=O.step hm (by omega) x;obtain⟨ow',e,O2⟩:=Zdh hm rest (hs++[x]) _ O' (by rw[Yak];simp;omega);refine⟨ow',?_,by simpa using O2⟩;rw[Yeg];have:(do
    let __x <- (some (ow,hs.length):Option (Array (Option Nat) × Nat))
    match __x with
     | (owner,k)=>do
      let j <- layClean.free m owner (turns m) (bits x % (m+1)) (bits x)
      pure (owner.setIfInBounds j (some k),k+1))=some (ow.setIfInBounds j (some hs.length),(hs++[x]).length):=by
   show (layClean.free m ow (turns m) (bits x % (m+1)) (bits x) >>= fun j=>pure (ow.setIfInBounds j (some hs.length),hs.length+1))=_;rw[f];simp
  rw[this,e];simp;omega
theorem ZlJ {m:Nat} (hm:Msk m) {hashes:Array Int} (hl:hashes.size<m+1):∃ ow,layClean m hashes=some ow/\Own m hashes.toList ow:=by
 obtain⟨ow,e,O⟩:=Zdh hm hashes.toList [] _ (Own.start m) (by simpa using hl);refine⟨ow,?_,by simpa using O⟩;unfold layClean;rw[<- Array.foldl_toList];have e':=e;rw[Ydw] at e';rw[e'];rfl
end StT
namespace StT
open PySem PySem.SetTable
theorem Zb3 {α β:Type}{f:α->Option β}{g:α->β}:∀ {l:List α},(∀ x∈l,f x=some (g x))->l.filterMap f=l.map g
 | [],_=>rfl
 | x::l,h=>by rw[YbS,h x Yaq,YaH,Zb3 fun y hy=>h y (Yar _ hy)]
def Za1 (m:Nat) (ow:Array (Option Nat)):List (Nat × Nat):=(YaT (m+1)).filterMap fun j=>(ow.getD j none).map fun x=>(j,x)
theorem Zbu {m:Nat}{hs:List Int}{ow:Array (Option Nat)} (O:Own m hs ow) (j l:Nat):(j,l)∈Za1 m ow↔ow[j]?=some (some l):=by
 unfold Za1;rw[YdL];constructor
 ·rintro⟨i,hi,e⟩;have hi:=Ybg.mp hi;have hi':i<ow.size:=by rw[O.sz];exact hi
  cases q:ow[i] with
  | none=>simp[YbN,hi',q] at e
  | some x=>
   simp[YbN,hi',q] at e;obtain⟨rfl,rfl⟩:=e;rw[YaP hi',q]
 ·intro h;have hi:j<ow.size:=(Ya6.mp h).1
  refine⟨j,Ybg.mpr (by rw[<- O.sz];exact hi),?_⟩;have:ow[j]=some l:=(Ya6.mp h).2
  simp[YbN,hi,this]
theorem Zfk {m:Nat}{ow:Array (Option Nat)}:(Za1 m ow).Pairwise fun a b=>a.1<b.1:=by
 refine List.Pairwise.filterMap _ (fun a b hab x hx y hy=>?_) (YeT (n:=m+1))
 cases ha:ow.getD a none with
 | none=>rw[ha] at hx;simp at hx
 | some u=>
  cases hb:ow.getD b none with
  | none=>rw[hb] at hy;simp at hy
  | some v=>
   rw[ha] at hx;rw[hb] at hy;simp at hx hy;rw[<- hx,<- hy];exact hab
theorem Zjy {m:Nat}{hs:List Int}{ow:Array (Option Nat)} (O:Own m hs ow):((Za1 m ow).map (·.2)).Perm (YaT hs.length):=by
 refine (Yes ?_ Ycu).mpr fun l=>?_
 ·rw[Yc5,Ya1];refine Yci (fun {a b} ha hb hab z=>?_) (Zfk (m:=m) (ow:=ow));have h1:=(Zbu O a.1 a.2).mp ha;have h2:=(Zbu O b.1 b.2).mp hb;rw[<- z] at h2;have:=O.inj a.1 b.1 _ h1 h2;omega
 ·rw[Ybg];constructor
  ·intro h;obtain⟨q,hq,rfl⟩:=YaG.mp h;obtain⟨h',hh,_⟩:=O.own q.1 q.2 ((Zbu O q.1 q.2).mp hq);exact (Yad.mp hh).1
  ·intro h;obtain⟨j,hj⟩:=O.hit l h;exact YaG.mpr ⟨(j,l),(Zbu O j l).mpr hj,rfl⟩
theorem Znj {m fi mv:Nat}{led pl:Bool} (hm:Msk m) {es:Array (Int × Value)} (hf:es.size*5<m*3) :
  ∃ t' order,laid m fi mv led pl (es.map (·.1))=some (t',order)/\t'.led=led/\t'.plain=pl/\(order.filterMap (es[·]?)).size=es.size/\Tab t' (order.filterMap (es[·]?))/\(order.filterMap (es[·]?)).toList.Perm es.toList:=by
 have hml:7<=m:=by rcases hm with h | h | h | h | h <;> omega
 obtain⟨ow,e,O⟩:=ZlJ hm (hashes:=es.map (·.1)) (by rw[Array.size_map];omega);have hlen:((es.map (·.1)).toList).length=es.size:=by simp
 have hperm:=Zjy O;rw[hlen] at hperm;have hlt:∀ q∈Za1 m ow,q.2<es.size:=fun q hq=>by
  have:=hperm.mem_iff.mp (YaG.mpr ⟨q,hq,rfl⟩);exact Ybg.mp this
 have eo:((((Za1 m ow).map (·.2)).toArray).filterMap (es[·]?)).toList=(Za1 m ow).map fun q=>es.getD q.2 default:=by
  rw[Array.toList_filterMap];show ((Za1 m ow).map (·.2)).filterMap (es[·]?)=_;rw[Yc7];refine Zb3 fun q hq=>?_;have:=hlt q hq;show es[q.2]?=some (es.getD q.2 default);simp[YbN,this]
 have esz:((((Za1 m ow).map (·.2)).toArray).filterMap (es[·]?)).size=es.size:=by
  rw[<- Yax,eo,Yac];have:=hperm.length_eq
  rwa [Yac,Yb7] at this
 refine⟨{ mask:=m,place:=((Za1 m ow).map (·.1)).toArray,dummies:=#[],finger:=fi,led:=led,moves:=mv,plain:=pl },((Za1 m ow).map (·.2)).toArray,?_,rfl,rfl,esz,?_,?_⟩
 ·unfold laid;rw[e];rfl
 ·have pl':((Za1 m ow).map (·.1)).toArray.toList=(Za1 m ow).map (·.1):=rfl;have occ_in:∀ j,Occ ow j->j∈(Za1 m ow).map (·.1):=fun j ⟨l,hl⟩=>YaG.mpr ⟨(j,l),(Zbu O j l).mpr hl,rfl⟩;refine⟨hm,?_,rfl,?_,?_,?_,?_⟩
  ·show ((Za1 m ow).map (·.1)).Pairwise (·<·);rw[Ya1];exact Zfk
  ·show ((Za1 m ow).map (·.1)).toArray.size=_;rw[esz];have:=hperm.length_eq;rw[Yac,Yb7] at this;simp[this]
  ·rw[esz];exact hf
  ·intro j hj;obtain⟨q,hq,rfl⟩:=YaG.mp (show j∈(Za1 m ow).map (·.1) from hj);have:=(Ya6.mp ((Zbu O q.1 q.2).mp hq)).1
   rw[O.sz] at this;show q.1<=m;omega
  ·intro i j x h1 h2;have h1':((Za1 m ow).map (·.1))[i]?=some j:=by
    rw[<- Yaf] at h1;exact h1
   rw[<- Yaf,eo,Yam] at h2;rw[Yam] at h1'
   cases hq:(Za1 m ow)[i]? with
   | none=>rw[hq] at h1';cases h1'
   | some q=>
    rw[hq] at h1' h2;cases h1';cases h2;have hqm:=Yau hq;obtain⟨h',hh,n,a,b⟩:=O.own q.1 q.2 ((Zbu O q.1 q.2).mp hqm);have hq2:=hlt q hqm;have eh:(es.getD q.2 default).1=h':=by
     have:(es.map (·.1)).toList[q.2]?=some (es.getD q.2 default).1:=by simp[YbN,hq2]
     rw[hh] at this;exact (YaE this).symm
    rw[eh];exact⟨n,a,fun r hr=>occ_in _ (b r hr)⟩
 ·rw[eo];have h1:((YaT es.size).map fun l=>es.getD l default)=es.toList:=by
   refine Ybr (by simp) fun i h1 h2=>?_;have:i<es.size:=by simpa using h1
   simp[YbN,this]
  have h2:=hperm.map fun l=>es.getD l default;rw[Ych,h1] at h2;exact h2
theorem Znp {m n:Nat} (hm:Msk m) (h:n*5<m*3) (h4:n<=500) (hf:(n+1)*5 ≥ m*3):Msk (sizeAbove (grown (n+1)) - 1)/\(n+1)*5<(sizeAbove (grown (n+1)) - 1)*3/\sizeAbove (grown (n+1))<=4096:=by
 rcases hm with rfl | rfl | rfl | rfl | rfl
 ·obtain rfl:n=4:=by omega
  exact⟨.inr (.inl rfl),by decide,by decide⟩
 ·obtain rfl:n=18:=by omega
  exact⟨.inr (.inr (.inl rfl)),by decide,by decide⟩
 ·obtain rfl:n=76:=by omega
  exact⟨.inr (.inr (.inr (.inl rfl))),by decide,by decide⟩
 ·obtain rfl:n=306:=by omega
  exact⟨.inr (.inr (.inr (.inr rfl))),by decide +kernel,by decide +kernel⟩
 ·omega
end StT
namespace StT
open PySem PySem.SetTable PySem.Spec
section
variable {prog:Program}{w:World}{A:Around}{E:Value->Shared->Prop}{s:Shared}
abbrev TKey (prog:Program) (w:World) (h:Heap) (k:List Int) (b:Addr):Prop:=IsTupleKey (intKind prog w) h k b
abbrev Zay (prog:Program) (w:World) (k:List Int):Int:=tupleKeyHash (intKind prog w) k
theorem Zkm (n:Nat) (i:Int) (t:Tok):ofAClassStatement n (.int i t)=pure false:=by cases n <;> rfl
theorem ZeS {ks:List Int}{vs:List Value} (h:ItemsAre (intKind prog w) ks vs):∀ v∈vs,∃ i t,v=.int i t:=by
 induction h with
 | nil=>intro v hv;simp at hv
 | @cons k v' ks vs h1 _ ih=>
  intro v hv;rcases Yao.mp hv with rfl | hv
  ·cases v with
   | int i t=>exact⟨i,t,rfl⟩
   | _=>exact absurd h1 (by intro z;cases z)
  ·exact ih v hv
theorem Zdp {k:List Int}{b:Addr}{Q:Bool->Shared->Prop} (hk:TKey prog w s.heap k b) (h:Q false s):wpAny (model prog w) A (ofAClassStatement 8 (.ref b)) Q E s:=by
 have hT:=hk.typeIs;obtain⟨o,items,n,ho,_,hd,hi⟩:=hk;have hii:=ZeS hi;unfold ofAClassStatement;refine wpAny_bind (wpAny_typeOf hT ?_);show wpAny _ _ ((if ("tuple" == "tuple")=true then pure true else isSubtype (.type "tuple") (.type "tuple")) >>= _) _ _ s;rw[if_pos (by decide)];refine wpAny_bind (wpAny_pure ?_);simp only[Yb2,YaD,if_false];refine wpAny_bind (wpAny_seqItems ho hd ?_);show wpAny _ _ (forIn items _ _ >>= _) _ _ s;rw[<- Yfl];refine wpAny_bind (wpAny_forIn_list _ (fun rest r s'=>r.1=none/\s'=s/\∀ v∈rest,∃ i t,v=.int i t) _ ?_ ?_ _ _ ⟨rfl,rfl,hii⟩)
 ·rintro v rest r s' ⟨hr,rfl,hall⟩;obtain⟨i,t,rfl⟩:=hall v Yaq;rw[Zkm];refine wpAny_bind (wpAny_pure ?_);simp only[YaD,if_false];exact wpAny_pure ⟨rfl,rfl,fun u hu=>hall u (Yar _ hu)⟩
 ·rintro⟨r1,r2⟩ s' ⟨hr,rfl,_⟩;simp only at hr;subst hr;exact wpAny_pure h
theorem Zlt {k0:List Int}{b0:Addr}{ys:List Value}{Q:Bool->Shared->Prop} (h0:TKey prog w s.heap k0 b0) (hy:∀ y∈ys,∃ k b,y=.ref b/\TKey prog w s.heap k b) (h:Q false s) :
  wpAny (model prog w) A (searchCouldBeSeen (.ref b0) ys) Q E s:=by
 unfold searchCouldBeSeen;refine wpAny_bind (wpAny_forIn_list _ (fun rest r s'=>r.1=none/\s'=s/\∀ y∈rest,∃ k b,y=.ref b/\TKey prog w s.heap k b) _ ?_ ?_ _ _ ⟨rfl,rfl,hy⟩)
 ·rintro y rest r s' ⟨hr,rfl,hall⟩;obtain⟨k,b,rfl,hk⟩:=hall y Yaq;have hn:r.1=none/\s'=s'/\∀ y∈rest,∃ k b,y=.ref b/\TKey prog w s'.heap k b:=⟨hr,rfl,fun u hu=>hall u (Yar _ hu)⟩
  dsimp only;split
  ·exact wpAny_pure ⟨rfl,hn.2⟩
  ·refine wpAny_bind (wpAny_eqIsQuiet_tuple h0 ?_);simp only[Yb2,YaD,if_false];refine wpAny_bind (wpAny_eqIsQuiet_tuple hk ?_);simp only[Yb2,YaD,if_false];refine wpAny_bind (Zdp h0 ?_);simp only[YaD,if_false];refine wpAny_bind (Zdp hk ?_);simp only[YaD,if_false];exact wpAny_pure ⟨rfl,hn.2⟩
 ·rintro⟨r1,r2⟩ s' ⟨hr,rfl,_⟩;simp only at hr;subst hr;exact wpAny_pure h
theorem Zno (n:Nat) (i:Int) (t:Tok):hashByValue n (.int i t)=pure true:=by cases n <;> rfl
theorem ZlL {k:List Int}{b:Addr}{Q:Bool->Shared->Prop} (hk:TKey prog w s.heap k b) (h:Q true s):wpAny (model prog w) A (hashByValue 8 (.ref b)) Q E s:=by
 have hT:=hk.typeIs;obtain⟨o,items,n,ho,_,hd,hi⟩:=hk;have hii:=ZeS hi;unfold hashByValue;refine wpAny_bind (wpAny_specialOf hT F.slot_tuple_hash.lookup ?_);show wpAny _ _ (seqItems? (.ref b) >>= _) _ _ s;refine wpAny_bind (wpAny_seqItems ho hd ?_);show wpAny _ _ (forIn items _ _ >>= _) _ _ s;rw[<- Yfl];refine wpAny_bind (wpAny_forIn_list _ (fun rest r s'=>r.1=none/\s'=s/\∀ v∈rest,∃ i t,v=.int i t) _ ?_ ?_ _ _ ⟨rfl,rfl,hii⟩)
 ·rintro v rest r s' ⟨hr,rfl,hall⟩;obtain⟨i,t,rfl⟩:=hall v Yaq;rw[Zno];refine wpAny_bind (wpAny_pure ?_);simp only[Yb2,YaD,if_false];exact wpAny_pure ⟨rfl,rfl,fun u hu=>hall u (Yar _ hu)⟩
 ·rintro⟨r1,r2⟩ s' ⟨hr,rfl,_⟩;simp only at hr;subst hr;exact wpAny_pure h
end
end StT
namespace StT
open PySem PySem.SetTable PySem.Spec
def hAt (es:Array (Int × Value)) (i:Nat):Int:=(es[i]?.map (·.1)).getD 0
theorem ZkN (a:Addr) (x:Value) (h:Int) (adding:Bool) (fuel:Nat) (stand:Option Probe):setSearchFrom a x h adding (fuel+1) stand=(do
  let (es,_,t) <- setState a
  if t.gaveWay then unsupported "set:on-a-table-that-gave-way"
  let some met:=t.probe (hAt es) h (stand.getD (t.probeStart h)) | unsupported "internal:set-table-without-an-empty-slot"
  match met with
  | .empty j dummy=>
   match dummy with
   | none=>return .free j false
   | some d=>
    if adding && t.slot d != .dummy then rule "set.search.the-dummy-was-taken";return <- setSearchFrom a x h adding fuel none
    return .free d true
  | .candidate j i next=>
   if !t.led then
    if <- searchCouldBeSeen x ((es.filter (·.1 == h)).toList.map (·.2)) then unsupported "set:the-search-would-show-the-table"
   let some (_,y):=es[i]? | unsupported "internal:set-entry"
   let equal <- holding [y] (eqBool y x)
   let (es',_,t') <- setState a
   if adding && equal then return .there none
   let some same:=t'.sameMemory t.moves t.mask | unsupported "set.changed-during-lookup:is-the-new-block-at-the-old-address"
   let still <- match (if same then t'.slot j else .empty) with
    | .live i'=>match es'[i']? with
     | some (_,y')=>do pure (if <- isSame y' y then some i' else none)
     | none=>pure none
    | _=>pure none
   match still with
   | none=>rule "set.search.anew";setSearchFrom a x h adding fuel none
   | some i'=>if equal then return .there (some i') else setSearchFrom a x h adding fuel (some next)):=rfl
structure Held (prog:Program) (w:World) (h:Heap) (es:Array (Int × Value)) (L:List (List Int × Addr)):Prop where
 es:es.toList=L.map fun q=>(Zay prog w q.1,YaK q.2)
 key:∀ q∈L,TKey prog w h q.1 q.2
theorem Held.get {prog:Program}{w:World}{h:Heap}{es:Array (Int × Value)}{L:List (List Int × Addr)} (X:Held prog w h es L) {i:Nat}{e:Int × Value} (he:es[i]?=some e):∃ q,L[i]?=some q/\e=(Zay prog w q.1,YaK q.2)/\TKey prog w h q.1 q.2:=by
 rw[<- Yaf,X.es,Yam] at he
 cases hq:L[i]? with
 | none=>rw[hq] at he;cases he
 | some q=>rw[hq] at he;exact⟨q,rfl,(YaE he).symm,X.key q (Yau hq)⟩
theorem Held.at {prog:Program}{w:World}{h:Heap}{es:Array (Int × Value)}{L:List (List Int × Addr)} (X:Held prog w h es L) {i:Nat}{q:List Int × Addr} (hq:L[i]?=some q):es[i]?=some (Zay prog w q.1,YaK q.2):=by
 rw[<- Yaf,X.es,Yam,hq];rfl
section
variable {prog:Program}{w:World}{A:Around}{E:Value->Shared->Prop}{s:Shared}
theorem ZlZ {a:Addr}{o:Obj}{es:Array (Int × Value)}{ep:Nat}{t:SetTable}{L:List (List Int × Addr)}{k0:List Int}{b0:Addr} (hu:A.units<cLine)
  (ho:s.heap.get? a=some o) (hd:o.data=.set es ep t) (T:Tab t es) (X:Held prog w s.heap es L) (h0:TKey prog w s.heap k0 b0) {N:Nat} (hN:(pth t.mask (Zay prog w k0) N).j ∉ t.place.toList) (hb:∀ m,m<N->(pth t.mask (Zay prog w k0) m).j∈t.place.toList) (hlt:N<10*turns t.mask) {Q:SetFound->Shared->Prop}
  (qA:(∀ q∈L,q.1≠k0)->Q (.free (pth t.mask (Zay prog w k0) N).j false) s) (qB:(∃ q∈L,q.1=k0)->Q (.there none) s) :
  ∀ (fuel n:Nat) (stand:Option Probe),stand.getD (t.probeStart (Zay prog w k0))=pth t.mask (Zay prog w k0) n->n<=N->N - n<fuel->(∀ l,l<n->∀ (i:Nat) q,t.place[i]?=some (pth t.mask (Zay prog w k0) l).j->L[i]?=some q->q.1≠k0) ->
   wpAny (model prog w) A (setSearchFrom a (.ref b0) (Zay prog w k0) true fuel stand) Q E s
 | 0,n,stand,_,_,hf,_=>by omega
 | fuel+1,n,stand,hst,hnN,hf,hinv=>by
  rw[ZkN];refine wpAny_bind (wpAny_setState_of ho hd T.fits ?_);dsimp only;rw[T.odd];simp only[YaD,if_false];rw[hst];obtain⟨m,m1,m2,m3,m4⟩:=ZgT T.rise T.dm (hAt es) (Zay prog w k0) hN (10*turns t.mask) n hnN (by omega);have at_:∀ (i:Nat) j,t.place[i]?=some j->∃ q,L[i]?=some q/\hAt es i=Zay prog w q.1/\es[i]?=some (Zay prog w q.1,YaK q.2)/\TKey prog w s.heap q.1 q.2:=fun i j hi=>by
   have hil:i<es.size:=by rw[<- T.sz];exact (Ya6.mp hi).1
   obtain⟨q,hq,e,hk⟩:=X.get (YaP hil);refine⟨q,hq,?_,?_,hk⟩
   ·unfold hAt;rw[YaP hil,e];rfl
   ·rw[YaP hil,e]
  have hinv2:∀ l,l<m->∀ (i:Nat) q,t.place[i]?=some (pth t.mask (Zay prog w k0) l).j->L[i]?=some q->q.1≠k0:=fun l hl i q hi hq=>by
   rcases Ybl l n with z | z
   ·exact hinv l z i q hi hq
   ·intro e;obtain⟨q',hq',hh,_⟩:=at_ i _ hi;rw[hq] at hq';cases hq';exact m3 l z hl i hi (by rw[hh,e])
  unfold SetTable.probe;rcases m4 with ⟨hn,e⟩ | ⟨i,hi,hh,hmN,e⟩
  ·rw[e];dsimp only;have hmN:m=N:=by
    rcases Ybl m N with z | z
    ·exact absurd (hb m z) hn
    ·omega
   subst hmN;refine wpAny_pure (qA fun q hq e=>?_);obtain⟨i,hi⟩:=Yb0.mp hq;have hes:=X.at hi;have hil:i<t.place.size:=by rw[T.sz];exact (Ya6.mp hes).1
   have hpl:=YaP hil;obtain⟨n2,c1,c2⟩:=T.chain i _ _ hpl hes;dsimp only at c1 c2;rw[e] at c1 c2;have hn2:n2<m:=by
    rcases Ybl n2 m with z | z
    ·exact z
    ·rcases Ybl m n2 with y | y
     ·exact absurd (c2 m y) hn
     ·have:n2=m:=by omega
      subst this;exact absurd (show (pth t.mask (Zay prog w k0) n2).j∈t.place.toList by rw[c1];simp) hn
   exact hinv2 n2 hn2 i q (by rw[hpl,c1]) hi e
  ·rw[e];dsimp only;obtain⟨q,hq,_,hes,hk⟩:=at_ i _ hi;have main:wpAny (model prog w) A (do
     let some (_,y):=es[i]? | unsupported "internal:set-entry"
     let equal <- holding [y] (eqBool y (.ref b0))
     let (es',_,t') <- setState a
     if true && equal then return Yfm none
     let some same:=t'.sameMemory t.moves t.mask | unsupported "set.changed-during-lookup:is-the-new-block-at-the-old-address"
     let still <- match (if same then t'.slot (pth t.mask (Zay prog w k0) m).j else .empty) with
      | .live i'=>match es'[i']? with
       | some (_,y')=>do pure (if <- isSame y' y then some i' else none)
       | none=>pure none
      | _=>pure none
     match still with
     | none=>rule "set.search.anew";setSearchFrom a (.ref b0) (Zay prog w k0) true fuel none
     | some i'=>if equal then return Yfm (some i') else setSearchFrom a (.ref b0) (Zay prog w k0) true fuel (some (pth t.mask (Zay prog w k0) (m+1)))) Q E s:=by
    rw[hes];dsimp only;refine wpAny_bind (wpAny_holding (wpAny_eqBool_tuple hu hk h0 ?_));refine wpAny_bind (wpAny_setState_of ho hd T.fits ?_);dsimp only;by_cases hkk:q.1=k0
    ·rw[decide_eq_true hkk];simp only[Bool.and_self,if_true];exact wpAny_pure (qB ⟨q,Yau hq,hkk⟩)
    ·rw[decide_eq_false hkk];simp only[Bool.and_false,YaD,if_false];have hsm:t.sameMemory t.moves t.mask=some true:=by unfold SetTable.sameMemory;simp
     rw[hsm];dsimp only;rw[if_pos rfl,Ze7 T.rise hi];dsimp only;rw[hes];dsimp only;have hsame:isSame (.ref q.2) (.ref q.2)=pure true:=by unfold isSame;simp
     rw[hsame];refine wpAny_bind (wpAny_bind (wpAny_pure (wpAny_pure ?_)));simp only[if_true];refine ZlZ hu ho hd T X h0 hN hb hlt qA qB fuel (m+1) _ rfl (by omega) (by omega) fun l hl i' q' hi' hq'=>?_;rcases Ybl l m with z | z
     ·exact hinv2 l z i' q' hi' hq'
     ·have:l=m:=by omega
      subst this;have b1:=ZbV T.rise hi;have b2:=ZbV T.rise hi';have:i=i':=by omega
      subst this;rw[hq] at hq';cases hq';exact hkk
   by_cases hl:t.led=true
   ·rw[hl];simp only[Yb2,YaD,if_false];exact main
   ·have hl:t.led=false:=by simpa using hl
    rw[hl];simp only[YeJ,if_true];refine wpAny_bind (Zlt h0 (fun y hy=>?_) ?_)
    ·obtain⟨e',he',rfl⟩:=YaG.mp hy;have he':e'∈es.toList:=by
      have:=YdD.mp he';exact YdD.mpr (Array.mem_filter.mp this).1
     rw[X.es] at he';obtain⟨q',hq',rfl⟩:=YaG.mp he';exact⟨q'.1,q'.2,rfl,X.key q' hq'⟩
    ·simp only[YaD,if_false];exact main
end
end StT
namespace StT
open PySem PySem.SetTable PySem.Spec
def Zn3 (es:Array (Int × Value)) (laid:Option (SetTable × Array Nat)):Sem (Array (Int × Value) × SetTable):=do
 let some (t,order):=laid | unsupported "internal:set-table-without-room"
 let es':=order.filterMap (es[·]?)
 if es'.size != es.size then unsupported "internal:set-table-lost-an-element"
 pure (es',t)
theorem ZkV (a:Addr) (wanted:Nat):setRelay a wanted=(do
  let (es,_,t) <- setState a
  if SetTable.sizeAbove wanted > sizeLine then unsupported "set:memory"
  let (es,t) <- Zn3 es (t.relaid (es.map (·.1)) wanted)
  storeSet a es t):=rfl
def SetT (prog:Program) (w:World) (h:Heap) (a:Addr) (L:List (List Int × Addr)):Prop :=
 ∃ o es ep t,h.get? a=some o/\o.ExactSet/\o.data=.set es ep t/\Tab t es/\Held prog w h es L/\(L.map (·.1)).Nodup
section
variable {prog:Program}{w:World}{A:Around}{E:Value->Shared->Prop}{s:Shared}
theorem Zit {h h':Heap}{k:List Int}{b a:Addr}{o:Obj}{es:Array (Int × Value)}{ep:Nat}{t:SetTable} (x:TKey prog w h k b) (ho:h.get? a=some o) (hd:o.data=.set es ep t) (hs:Yck a h h'):TKey prog w h' k b:=by
 obtain⟨o',items,n,ho',hc,hd',hi⟩:=x;have hne:b≠a:=by
  rintro rfl;obtain rfl:o'=o:=YaE (ho'.symm.trans ho);rw[hd] at hd';exact nomatch hd'
 exact⟨o',items,n,(hs.2 b hne).trans ho',hc,hd',hi⟩
theorem ZgH {h:Heap}{a:Addr}{o:Obj}{es:Array (Int × Value)}{ep:Nat}{t:SetTable} (ho:h.get? a=some o) (hd:o.data=.set es ep t) (es':Array (Int × Value)) (t':SetTable) :
  (h.update a (YeM es' t')).get? a=some { o with data:=.set es' (ep+1) t' }:=by
 have:=Ydx (YeM es' t') ho (by rw[putSet_of es' t' hd];rfl);rw[putSet_of es' t' hd] at this;exact this
theorem ZjW {h:Heap}{es es':Array (Int × Value)}{L:List (List Int × Addr)} (X:Held prog w h es L) (p:es'.toList.Perm es.toList):∃ L',Held prog w h es' L'/\L'.Perm L:=by
  rw[X.es] at p;obtain⟨L',e,hp⟩:∃ L':List (List Int × Addr),es'.toList=L'.map (fun q=>(Zay prog w q.1,YaK q.2))/\L'.Perm L:=by
    generalize es'.toList=l at p;clear X;have aux:∀ {l m:List (Int × Value)},l.Perm m->∀ L:List (List Int × Addr),m=L.map (fun q=>(Zay prog w q.1,YaK q.2))->∃ L':List (List Int × Addr),l=L'.map (fun q=>(Zay prog w q.1,YaK q.2))/\L'.Perm L:=by
      intro l m h
      induction h with
      | nil=>intro L e;cases L with
        | nil=>exact⟨[],rfl,Ycn _⟩
        | cons _ _=>cases e
      | cons x _ ih=>intro L e;cases L with
        | nil=>cases e
        | cons q L=>
          rw[YaH] at e;obtain⟨e1,e2⟩:=YdA e;obtain⟨L',a,b⟩:=ih L e2;exact⟨q::L',by rw[YaH,e1,a],b.cons q⟩
      | swap x y l=>intro L e;cases L with
        | nil=>cases e
        | cons q L=>cases L with
          | nil=>cases e
          | cons r L=>
            rw[YaH,YaH] at e;obtain⟨e1,e2⟩:=YdA e;obtain⟨e3,e4⟩:=YdA e2;exact⟨r::q::L,by rw[YaH,YaH,e1,e3,e4],YcE _ _ _⟩
      | trans _ _ ih1 ih2 => intro L e
                             obtain⟨L2,a,b⟩:=ih2 L e;obtain⟨L1,c,d⟩:=ih1 L2 a;exact⟨L1,c,d.trans b⟩
    exact aux p L rfl
  exact⟨L',⟨e,fun q hq=>X.key q (hp.mem_iff.mp hq)⟩,hp⟩
theorem ZlC {h:Heap}{es:Array (Int × Value)}{L:List (List Int × Addr)}{k0:List Int}{b0:Addr} (X:Held prog w h es L) (h0:TKey prog w h k0 b0) (p:Nat):Held prog w h (insertAt es p (Zay prog w k0,.ref b0)) (L.take p++(k0,b0)::L.drop p):=by
 refine⟨?_,fun q hq=>?_⟩
 ·rw[ZaA,X.es,Yay,YaH,Ydi,YdM]
 ·rcases Yaj.mp hq with hq | hq
  ·exact X.key q (Ybt hq)
  ·rcases Yao.mp hq with rfl | hq
   ·exact h0
   ·exact X.key q (Ybz hq)
theorem Zft {h h':Heap}{a:Addr}{o:Obj}{es es2:Array (Int × Value)}{ep:Nat}{t:SetTable}{L:List (List Int × Addr)} (X:Held prog w h es2 L) (ho:h.get? a=some o) (hd:o.data=.set es ep t) (hs:Yck a h h'):Held prog w h' es2 L :=
 ⟨X.es,fun q hq=>Zit (X.key q hq) ho hd hs⟩
theorem Zie {a:Addr}{L:List (List Int × Addr)}{k0:List Int}{b0:Addr} (hu:A.units<cLine) (S:SetT prog w s.heap a L) (h0:TKey prog w s.heap k0 b0) (h5:L.length<=500) {Q:Bool->Shared->Prop}
  (h:∀ c h' L',Yck a s.heap h'->SetT prog w h' a L'->(∀ k,k∈L'.map (·.1)↔k∈L.map (·.1)∨k=k0)->L'.length<=L.length+1->(∀ q∈L',q∈L∨q=(k0,b0))->Q c { s with heap:=h' }) :
  wpAny (model prog w) A (setAddHashed a (.ref b0) (Zay prog w k0)) Q E s:=by
 obtain⟨o,es,ep,t,ho,hex,hd,T,X,nd⟩:=S;have hsz:es.size=L.length:=by rw[<- Yax,X.es,Yac]
 unfold setAddHashed;refine wpAny_holding ?_;show wpAny _ _ (setAddHashedIn a (.ref b0) (Zay prog w k0) (99999+1)) _ _ _;unfold setAddHashedIn;refine wpAny_bind (wpAny_setState_of ho hd T.fits ?_);dsimp only;have hscan:byScan (.ref b0) es=false:=by unfold byScan Value.scannable;simp
 rw[hscan];simp only[YaD,if_false];obtain⟨N,n1,n2,n3⟩:=T.free (Zay prog w k0);refine wpAny_bind ?_;show wpAny _ _ (setSearchFrom a (.ref b0) (Zay prog w k0) true 100000 none) _ _ _;refine ZlZ hu ho hd T X h0 n2 n3 n1 (fun hnew=>?_) (fun hold=>?_) 100000 0 none rfl (YaW _) (by have:=T.msk1;unfold turns at n1;omega) (fun l hl=>absurd hl (YbC _))
 ·dsimp only;refine wpAny_bind (wpAny_setState_of ho hd T.fits ?_);dsimp only;have ndk:k0 ∉ L.map (·.1):=fun z=>by
   obtain⟨q,hq,e⟩:=YaG.mp z;exact hnew q hq e
  have X1:=ZlC X h0 (t.put (pth t.mask (Zay prog w k0) N).j).2;generalize hp:(t.put (pth t.mask (Zay prog w k0) N).j).2=p at X1;have nd1:((L.take p++(k0,b0)::L.drop p).map (·.1)).Nodup:=by
   rw[Yay,YaH];have e:L.map (·.1)=(L.take p).map (·.1)++(L.drop p).map (·.1):=by rw[<- Yay,YaM]
   rw[e] at nd ndk;obtain⟨d1,d2,d3⟩:=Ydd.mp nd;rw[Yaj,not_or] at ndk;refine Ydd.mpr ⟨d1,YbL.mpr ⟨ndk.2,d2⟩,fun x hx y hy=>?_⟩;rcases Yao.mp hy with rfl | hy
   ·exact fun z=>ndk.1 (z ▸ hx)
   ·exact d3 x hx y hy
  have mem1:∀ k,k∈(L.take p++(k0,b0)::L.drop p).map (·.1)↔k∈L.map (·.1)∨k=k0:=fun k=>by
   have e:L.map (·.1)=(L.take p).map (·.1)++(L.drop p).map (·.1):=by rw[<- Yay,YaM]
   rw[e,Yay,YaH,Yaj,Yao,Yaj];constructor
   ·rintro (h | h | h)
    ·exact .inl (.inl h)
    ·exact .inr h
    ·exact .inl (.inr h)
   ·rintro ((h | h) | h)
    ·exact .inl h
    ·exact .inr (.inr h)
    ·exact .inr (.inl h)
  have in1:∀ q∈L.take p++(k0,b0)::L.drop p,q∈L∨q=(k0,b0):=fun q hq=>by
   rcases Yaj.mp hq with hq | hq
   ·exact .inl (Ybt hq)
   ·rcases Yao.mp hq with hq | hq
    ·exact .inr hq
    ·exact .inl (Ybz hq)
  have len1:(L.take p++(k0,b0)::L.drop p).length=L.length+1:=by
   rw[Yak,YaU,Yaz,Ybp];omega
  have hm:=T.msk1;have esz:(insertAt es p (Zay prog w k0,YaK b0)).size=es.size+1:=by
   rw[<- Yax,X1.es,Yac,len1,hsz]
  have fin:∀ pl:Bool,wpAny (model prog w) A (do
    storeSet a (insertAt es p (Zay prog w k0,YaK b0)) { (t.put (pth t.mask (Zay prog w k0) N).j).1 with plain:=pl }
    if (!false && ({ (t.put (pth t.mask (Zay prog w k0) N).j).1 with plain:=pl }:SetTable).tooFull)=true then do
     setRelay a (grown (es.size+1))
     pure true
    else pure true) Q E s:=fun pl=>by
   rw[ZiO T.dm];dsimp only;refine wpAny_bind (wpAny_storeSet_of ho hd ?_ (by rw[esz];have:=T.few;rw[sizeLine_eq];omega));have hsb1:=YcM s.heap a (YeM (insertAt es p (Zay prog w k0,YaK b0)) { t with place:=insertAt t.place (below t.place (pth t.mask (Zay prog w k0) N).j) (pth t.mask (Zay prog w k0) N).j,plain:=pl });have hg1:=ZgH ho hd (insertAt es p (Zay prog w k0,YaK b0)) { t with place:=insertAt t.place (below t.place (pth t.mask (Zay prog w k0) N).j) (pth t.mask (Zay prog w k0) N).j,plain:=pl };have hfl:({ t with place:=insertAt t.place (below t.place (pth t.mask (Zay prog w k0) N).j) (pth t.mask (Zay prog w k0) N).j,plain:=pl }:SetTable).tooFull=decide ((es.size+1)*5 ≥ t.mask*3):=by
    unfold SetTable.tooFull Yd9;dsimp only;have hpz:(insertAt t.place (below t.place (pth t.mask (Zay prog w k0) N).j) (pth t.mask (Zay prog w k0) N).j).size=es.size+1:=by
     rw[<- Yax,ZaA,Yak,YaU,Yaz,Ybp,Yax,T.sz];have:=(ZbU T.rise (pth t.mask (Zay prog w k0) N).j).1
     rw[T.sz] at this;omega
    rw[hpz,T.dm];rfl
   rw[hfl];simp only[YeJ,Bool.true_and];by_cases hfull:(es.size+1)*5 ≥ t.mask*3
   ·rw[if_pos (decide_eq_true hfull)];obtain⟨g1,g2,g3⟩:=Znp T.msk T.few (by omega) hfull;have sz1:=esz;refine wpAny_bind ?_;rw[ZkV];refine wpAny_bind (wpAny_setState_of hg1 rfl ?_ ?_)
    ·unfold Yfw Yd9;dsimp only;have hpz:(insertAt t.place (below t.place (pth t.mask (Zay prog w k0) N).j) (pth t.mask (Zay prog w k0) N).j).size=es.size+1:=by
      rw[<- Yax,ZaA,Yak,YaU,Yaz,Ybp,Yax,T.sz];have:=(ZbU T.rise (pth t.mask (Zay prog w k0) N).j).1
      rw[T.sz] at this;omega
     rw[hpz,T.dm,esz];have:=T.few;simp;omega
    dsimp only;rw[if_neg (by rw[sizeLine_eq];omega)];obtain⟨t',order,e1,_,_,e2,T',e3⟩:=Znj (fi:=t.finger) (mv:=({ t with place:=insertAt t.place (below t.place (pth t.mask (Zay prog w k0) N).j) (pth t.mask (Zay prog w k0) N).j,plain:=pl }:SetTable).movedTo (sizeAbove (grown (es.size+1)) - 1)) (led:=t.led) (pl:=pl) g1 (es:=insertAt es p (Zay prog w k0,YaK b0)) (by rw[esz];exact g2);unfold SetTable.relaid;dsimp only;rw[e1];unfold Zn3;dsimp only;have:((order.filterMap ((insertAt es p (Zay prog w k0,YaK b0))[·]?)).size != (insertAt es p (Zay prog w k0,YaK b0)).size)=false:=by simp[e2]
    rw[this];simp only[YaD,if_false];refine wpAny_bind (wpAny_pure ?_);dsimp only;refine wpAny_storeSet_of hg1 rfl ?_ (by rw[e2,esz];have:=T.few;rw[sizeLine_eq];omega);have hg2:=ZgH hg1 rfl (order.filterMap ((insertAt es p (Zay prog w k0,YaK b0))[·]?)) t';have hsb2:=hsb1.trans (YcM _ a (YeM (order.filterMap ((insertAt es p (Zay prog w k0,YaK b0))[·]?)) t'));obtain⟨L2,X2,p2⟩:=ZjW X1 e3;refine wpAny_pure (h true _ L2 hsb2 ⟨_,_,_,_,hg2,hex,rfl,T',Zft X2 ho hd hsb2,?_⟩ (fun k=>?_) (by rw[p2.length_eq,len1];exact Yag _) fun q hq=>in1 q (p2.mem_iff.mp hq))
    ·exact (p2.map (·.1)).nodup_iff.mpr nd1
    ·rw[(p2.map (·.1)).mem_iff];exact mem1 k
   ·rw[if_neg (by simpa using hfull)];have Tp:=T.put n2 n3 (x:=YaK b0) hfull;rw[hp,ZiO T.dm] at Tp;dsimp only at Tp;refine wpAny_pure (h true _ _ hsb1 ⟨_,_,_,_,hg1,hex,rfl,⟨Tp.msk,Tp.rise,Tp.dm,Tp.sz,Tp.few,Tp.le,Tp.chain⟩,Zft X1 ho hd hsb1,nd1⟩ mem1 (by rw[len1];exact Yag _) in1)
  have plain_eta:∀ x:SetTable,({ x with plain:=x.plain }:SetTable)=x:=fun x=>rfl;by_cases hpl:(t.put (pth t.mask (Zay prog w k0) N).j).1.plain=true
  ·rw[if_pos hpl];refine wpAny_bind (ZlL h0 ?_);simp only[if_true];exact fin (t.put (pth t.mask (Zay prog w k0) N).j).1.plain
  ·rw[if_neg hpl];refine wpAny_bind (wpAny_pure ?_);simp only[if_true];exact fin (t.put (pth t.mask (Zay prog w k0) N).j).1.plain
 ·dsimp only;refine wpAny_pure ?_;have e:s={ s with heap:=s.heap }:=by cases s;rfl
  rw[e];refine h false s.heap L (Heap.SameBut.refl a s.heap) ⟨o,es,ep,t,ho,hex,hd,T,X,nd⟩ (fun k=>⟨.inl,fun z=>z.elim id fun e=>?_⟩) (Ydm _) fun q hq=>.inl hq;obtain⟨q,hq,e2⟩:=hold;rw[e,<- e2];exact YaG.mpr ⟨q,hq,rfl⟩
end
end StT
namespace StT
open PySem PySem.SetTable PySem.Spec PyProof.Rows
section
variable {prog:Program}{w:World}{A:Around}{E:Value->Shared->Prop}{s:Shared}
theorem ZbB {h h':Heap}{k:List Int}{b:Addr} (x:TKey prog w h k b) (e:∀ o,h.get? b=some o->h'.get? b=some o):TKey prog w h' k b:=by
 obtain⟨o,items,n,ho,r⟩:=x;exact⟨o,items,n,e _ ho,r⟩
theorem Ze9 {h h':Heap}{a:Addr}{L:List (List Int × Addr)} (S:SetT prog w h a L) (e:∀ o,h.get? a=some o->h'.get? a=some o) (k:∀ q∈L,∀ o,h.get? q.2=some o->h'.get? q.2=some o):SetT prog w h' a L:=by
 obtain⟨o,es,ep,t,ho,hex,hd,T,X,nd⟩:=S;exact⟨o,es,ep,t,e _ ho,hex,hd,T,⟨X.es,fun q hq=>ZbB (X.key q hq) (k q hq)⟩,nd⟩
def Keys (key:Nat->List Int) (adr:Nat->Addr) (i:Nat) (L:List (List Int × Addr)):Prop:=(∀ k,k∈L.map (·.1)↔∃ j,j<i/\key j=k)/\L.length<=i/\∀ q∈L,∃ j,q.2=adr j/\j<i
theorem Zoj {R:Result->Shared->Prop}{I:Addr}{fp wr:List Addr}{G:Array GenState->Array GenState->Prop}{n:Nat}{P:Nat->Value->Prop}{St:Nat->Shared->Prop}
  (hu:A.in1.units<cLine) (W:WalksS prog w A.in1 I fp wr G n P St) (S:Addr) (hSf:S ∉ fp) (key:Nat->List Int) (adr:Nat->Addr) (hval:∀ i v,P i v->v=.ref (adr i)) (hadr:∀ i,i<n->adr i ∉ fp/\adr i≠S) (hb:n<=500) :
  ∀ (k i:Nat) (s:Shared) (L:List (List Int × Addr)),n - i=k->i<=n->St i s->SetT prog w s.heap S L->Keys key adr i L->(∀ j,j<n->TKey prog w s.heap (key j) (adr j)) ->
   (∀ s' L',Moved (S::wr) G s s'->SetT prog w s'.heap S L'->Keys key adr n L'->R (.ok (.ret .none)) s') ->
   codeAny (model prog w) A (.builtin "set.update.loop" ⟨[.ref S,.ref I],[]⟩) R s:=by
 have hSw:S ∉ wr:=fun h=>hSf (W.sub _ h);have hsub:∀ b∈wr,b∈S::wr:=fun b hb=>Yar _ hb;have haw:∀ i,i<n->adr i ∉ wr:=fun i hi h=>(hadr i hi).1 (W.sub _ h)
 intro k
 induction k with
 | zero=>
  intro i s L hk hi hst hS hK hT hR;have hin:i=n:=by omega
  subst hin;refine codeAny_builtin F.entry_set_update_loop ?_;rw[YeV F.plain_set_update_loop _];show wpAny _ A.in1 (pyNext (.ref I) >>= _) _ _ s;refine wpAny_bind (W.done s _ _ hst fun s' hm=>?_);show wpAny _ A.in1 (ret Ycb) _ _ s';exact wpAny_pure (hR s' L (hm.mono hsub) (Ze9 hS (fun o e=>hm.heap S _ hSw e) fun q hq o e=>by
   obtain⟨j,e1,hj⟩:=hK.2.2 q hq;rw[e1] at e ⊢;exact hm.heap _ _ (haw j hj) e) hK)
 | succ k ih=>
  intro i s L hk hi hst hS hK hT hR;have hlt:i<n:=by omega
  refine codeAny_builtin F.entry_set_update_loop ?_;rw[YeV F.plain_set_update_loop _];show wpAny _ A.in1 (pyNext (.ref I) >>= _) _ _ s;refine wpAny_bind (W.item i s _ _ hlt hst fun v s' hP hst' hm=>?_);obtain rfl:=hval i v hP;have hS':SetT prog w s'.heap S L:=Ze9 hS (fun o e=>hm.heap S _ hSw e) fun q hq o e=>by
   obtain⟨j,e1,hj⟩:=hK.2.2 q hq;rw[e1] at e ⊢;exact hm.heap _ _ (haw j (by omega)) e
  have hT':∀ j,j<n->TKey prog w s'.heap (key j) (adr j):=fun j hj=>ZbB (hT j hj) fun o e=>hm.heap _ _ (haw j hj) e;show wpAny _ A.in1 (holding [YaK (adr i)] (setAdd S (.ref (adr i))) >>= _) _ _ s';refine wpAny_bind (wpAny_holding ?_);unfold setAdd;refine wpAny_holding ?_;refine wpAny_bind (wpAny_pyHash_tuple hu (hT' i hlt) ?_);refine Zie (s:={ s' with toks:=s'.toks+((key i).length+1) }) hu hS' (hT' i hlt) (by have:=hK.2.1;omega) fun c h' L' hsb hS2 hmem hlen hin=>?_;have hT2:∀ j,j<n->TKey prog w h' (key j) (adr j):=fun j hj=>ZbB (hT' j hj) fun o e=>by rw[hsb.2 _ (hadr j hj).2];exact e
  have hK2:Keys key adr (i+1) L':=by
   refine⟨fun k=>?_,by have:=hK.2.1;omega,fun q hq=>?_⟩
   ·rw[hmem,hK.1];constructor
    ·rintro (⟨j,hj,e⟩ | e)
     ·exact⟨j,by omega,e⟩
     ·exact⟨i,by omega,e.symm⟩
    ·rintro⟨j,hj,e⟩;by_cases z:j=i
     ·subst z;exact .inr e.symm
     ·exact .inl ⟨j,by omega,e⟩
   ·rcases hin q hq with hq | rfl
    ·obtain⟨j,e1,hj⟩:=hK.2.2 q hq;exact⟨j,e1,by omega⟩
    ·exact⟨i,rfl,Ybs _⟩
  refine wpAny_pure ⟨plainId_quiet F.plain_set_update_loop _,ih (i+1) _ L' (by omega) hlt (W.frame _ s' _ _ hst' (Ydq _ _) fun b hb o e=>?_) hS2 hK2 hT2 fun s'' L'' hm'' hS'' hK''=>?_⟩
  ·rw[hsb.2 b (fun h:b=S=>hSf (by rw[<- h];exact hb))];exact e
  ·refine hR s'' L'' (Moved.trans W.gtrans ((hm.mono hsub).then_heap (Ydq _ _) fun b o hb e=>?_) hm'') hS'' hK'';rw[hsb.2 b (fun h:b=S=>hb (by rw[h];exact Yaq))];exact e
end
end StT
namespace StT
open PySem PySem.SetTable PySem.Spec PyProof.Rows
theorem Zdw:isSubtype (.type "tuple") (.type "set")=pure false:=by rw[isSubtype_type];kernel_rfl
theorem ZbW:isSubtype (.type "tuple") (.type "frozenset")=pure false:=by rw[isSubtype_type];kernel_rfl
section
variable {prog:Program}{w:World}{A:Around}{E:Value->Shared->Prop}{s:Shared}
theorem Zdz {l:Addr}{items:Array Value}{ks:List (List Int)}{bs:List Addr}{Q:Value->Shared->Prop}
  (hu:A.units+8<cLine) (hh:A.handled=none) (hl:s.heap.IsList l items) (hi:items.toList=bs.map YaK) (hlen:bs.length=ks.length) (h5:ks.length<=500)
  (hk:∀ (i:Nat) b k,bs[i]?=some b->ks[i]?=some k->TKey prog w s.heap k b)
  (h:∀ (h':Heap) (tk:Nat) (L:List (List Int × Addr)),SetT prog w h' s.heap.objs.size L->(∀ k,k∈L.map (·.1)↔k∈ks) ->
   (∀ b o,b<s.heap.objs.size->s.heap.get? b=some o->h'.get? b=some o)->Q (.ref s.heap.objs.size) { s with heap:=h',toks:=tk }) :
  wpAny (model prog w) A (call (.type "set") [.ref l]) Q E s:=by
 obtain⟨c,tl,hmro⟩:=F.called_set.mro;have hmade:=F.called_set.made;have hsub:=F.called_set.sub;refine wpAny_call (codeAny_of_tree ?_);show wpAny _ _ (callAny (.type "set") _) _ _ _;refine wpAny_pure ⟨Yft _ (by decide +kernel),codeAny_builtin F.entry_type_call ?_⟩;rw[Yfg (weight_type_call_type "set" [.ref l] []) rfl];have h1:=F.called_set.notType;have h2:=F.called_set.canCreate;have hct:=F.typeCall_set_1 (.ref l)
 repeat (any_goals (first | assumption | wp_step))
 refine codeAny_mono (code_set_new_1 (.ref l) (E:=E) (Q₁:=fun obj s₁=>∃ led:Bool,obj=.ref s.heap.objs.size/\s₁={ s with heap:=s.heap.push { cls:=.type "set",dict:=none,data:=.set #[] 0 (.fresh 0 0 led) } }) fun led=>⟨led,rfl,rfl⟩) fun r s₁ hr=>?_
 cases r with
 | error e=>exact hr
 | ok fl=>
  cases fl with
  | ret obj=>
   obtain⟨led,rfl,rfl⟩:=hr;have hS:(s.heap.push { cls:=.type "set",dict:=none,data:=.set #[] 0 (.fresh 0 0 led) }).get? s.heap.objs.size=some { cls:=.type "set",dict:=none,data:=.set #[] 0 (.fresh 0 0 led) }:=Yas _ rfl;have hT:Shared.TypeIs { s with heap:=s.heap.push { cls:=.type "set",dict:=none,data:=.set #[] 0 (.fresh 0 0 led) } } (.ref s.heap.objs.size) "set":=⟨_,hS,rfl⟩
   have hli:=F.called_set.init.lookup;have hbi:=F.called_set.init.bind (.ref s.heap.objs.size)
   repeat (any_goals (first | assumption | wp_step))
   refine codeAny_mono (codeAny_call_builtin (R:=wants (fun r s₂=>r=.none/\∃ h' tk,s₂={ s with heap:=h',toks:=tk } /\
     (∃ L,SetT prog w h' s.heap.objs.size L/\(∀ k,k∈L.map (·.1)↔k∈ks)) /\
     (∀ b o,b<s.heap.objs.size->s.heap.get? b=some o->h'.get? b=some o)) E) F.called_set.init.plain F.entry_set_init (check_set_init_1 hT ?_)) fun r₂ s₂ hr₂=>?_
   ·obtain⟨ol,hol,hcl,nl,hdl⟩:=hl;obtain⟨ocls,odict,odata,oslots⟩:=ol;simp only at hcl hdl;subst hcl;subst hdl;have hol':(s.heap.push { cls:=.type "set",dict:=none,data:=.set #[] 0 (.fresh 0 0 led) }).get? l=some { cls:=.type "list",dict:=odict,data:=.seq items nl,slots:=oslots }:=Yab _ hol;have hsls:=F.sub_list_set;have hslf:=F.sub_list_frozenset;have hne:(YbV "list" == YbV "dict")=false:=by decide
    have hl1:(s.heap.push { cls:=.type "set",dict:=none,data:=.set #[] 0 (.fresh 0 0 led) }).IsList l items:=⟨_,hol',rfl,nl,rfl⟩
    unfold Builtin.«set.__init__» noKeywords Yds;generalize hPI:pyIter=PI
    wp_walk
    subst hPI;refine wpAny_pyIter_list hl1 ?_;refine wpAny_bind (wpAny_runValue ?_);have hlS:l<s.heap.objs.size:=Yah hol;have hh3:A.in1.in1.in1.handled=none:=by simp[hh]
    have hneI:l≠(s.heap.push { cls:=.type "set",dict:=none,data:=.set #[] 0 (.fresh 0 0 led) }).objs.size:=by
     rw[YaY];exact Yaw (Yby hlS)
    have hSf:s.heap.objs.size ∉ [(s.heap.push { cls:=.type "set",dict:=none,data:=.set #[] 0 (.fresh 0 0 led) }).objs.size,l]:=by
     rw[YaY];simp only[Yao,YaF,Ybm,or_false,not_or];exact⟨Yaw (Ybs _),YbA hlS⟩
    have hsz:items.size=bs.length:=by rw[<- Yax,hi,Yac]
    have hval:∀ (i:Nat) (v:Value),items[i]?=some v->v=.ref ((fun i=>bs.getD i 0) i):=fun i v hv=>by
     rw[<- Yaf,hi,Yam] at hv
     cases e:bs[i]? with
     | none=>rw[e] at hv;cases hv
     | some b=>rw[e] at hv;cases hv;simp[Ydf,e]
    have hat:∀ i,i<items.size->∃ b k,bs[i]?=some b/\ks[i]?=some k/\bs.getD i 0=b/\ks.getD i []=k/\TKey prog w s.heap k b:=fun i h=>by
     have h1:i<bs.length:=by omega
     have h2:i<ks.length:=by omega
     exact⟨bs[i],ks[i],Yaa h1,Yaa h2,by simp[Ydf,h1],by simp[Ydf,h2],hk i _ _ (Yaa h1) (Yaa h2)⟩
    have hold:∀ b k,TKey prog w s.heap k b->b<s.heap.objs.size/\TKey prog w ((s.heap.push { cls:=.type "set",dict:=none,data:=.set #[] 0 (.fresh 0 0 led) }).push { cls:=.type "list_iterator",data:=.fields #[.ref l,.int 0 0] }) k b:=fun b k x=>by
     refine⟨?_,ZbB x fun o e=>Yab _ (Yab _ e)⟩;obtain⟨o,_,_,ho,_⟩:=x;exact Yah ho
    have hget:((s.heap.push { cls:=.type "set",dict:=none,data:=.set #[] 0 (.fresh 0 0 led) }).push { cls:=.type "list_iterator",data:=.fields #[.ref l,.int 0 0] }).get? s.heap.objs.size
      = some { cls:=.type "set",dict:=none,data:=.set #[] 0 (.fresh 0 0 led) }:=Yab _ hS
    refine Zoj (by show A.units+1+1+1<cLine;omega) ((Yey hh3 _ l hneI items).toS) s.heap.objs.size
     hSf (fun i=>ks.getD i []) (fun i=>bs.getD i 0) hval (fun i h=>?hadr) (by omega) (items.size - 0) 0 _ [] (by omega) (YaW _)
     ⟨⟨_,Yas _ rfl,rfl,rfl⟩,(hl1.push _)⟩ ?hS0 ⟨fun k=>by simp,Yag _,fun q hq=>by simp at hq⟩ (fun j hj=>?hTK) ?hR
    case hadr=>
     obtain⟨b,k,e1,e2,e3,e4,x⟩:=hat i h;obtain⟨hlt,_⟩:=hold b k x;rw[e3];have hbl:b≠l:=fun z=>by
      obtain⟨o,its,n,ho,hc,hd,hii⟩:=x;subst z;rw[hol] at ho;cases ho;simp at hc
     refine⟨?_,Yaw hlt⟩;rw[YaY];simp only[Yao,YaF,Ybm,or_false,not_or];exact⟨Yaw (Yby hlt),hbl⟩
    case hTK=>
     obtain⟨b,k,e1,e2,e3,e4,x⟩:=hat j hj;dsimp only;rw[e3,e4];exact (hold b k x).2
    case hS0=>
     refine⟨_,#[],0,_,hget,⟨rfl,rfl,rfl⟩,rfl,⟨.inl rfl,YbM,rfl,rfl,by show 0*5<7*3;decide,fun j hj=>by simp[Ydt] at hj,fun i j e h1=>by simp[Ydt] at h1⟩,⟨rfl,fun q hq=>by simp at hq⟩,Yda⟩
    case hR=>
     intro s' L' hm hS' hK';obtain⟨h',g',d',tk',os'⟩:=s';have eg:g'=s.gens:=hm.gens;have ed:d'=s.drawn:=hm.drawn;have eo:os'=s.os:=hm.os;subst eg;subst ed;subst eo;show wpAny _ _ _ _ _ _;refine wpAny_pure ?_;show wpAny _ _ (ret Ycb) _ _ _;refine wpAny_pure ⟨rfl,h',tk',rfl,⟨L',hS',fun k=>?_⟩,fun b o hb e=>?_⟩
     ·rw[hK'.1];constructor
      ·rintro⟨j,hj,rfl⟩;obtain⟨b,k,e1,e2,e3,e4,x⟩:=hat j hj;dsimp only;rw[e4];exact Yau e2
      ·intro hk2;obtain⟨j,hj,e⟩:=Ybu hk2;exact⟨j,by omega,by simp[Ydf,hj,e]⟩
     ·have hb1:b≠s.heap.objs.size:=Yaw hb;have hb2:b≠(s.heap.push { cls:=.type "set",dict:=none,data:=.set #[] 0 (.fresh 0 0 led) }).objs.size:=by
       rw[YaY];exact Yaw (Yby hb)
      exact hm.heap b o (by simp only[Yao,YaF,Ybm,or_false,not_or];exact⟨hb1,hb2⟩) (Yab _ (Yab _ e))
   ·cases r₂ with
    | error e=>exact hr₂
    | ok fl₂=>
     cases fl₂ with
     | ret r=>
      obtain⟨rfl,h',tk,rfl,⟨L,hS',hL⟩,hk'⟩:=hr₂
      repeat (any_goals (first | assumption | wp_step))
      exact h _ _ L hS' hL hk'
     | _=>exact hr₂.elim
  | _=>exact hr.elim
theorem ZeO {l:Addr}{items:Array Value}{ks:List (List Int)}{bs:List Addr}{Q:Value->Shared->Prop}
  (hu:A.units+8<cLine) (hh:A.handled=none) (hl:s.heap.IsTuple l items) (hi:items.toList=bs.map YaK) (hlen:bs.length=ks.length) (h5:ks.length<=500)
  (hk:∀ (i:Nat) b k,bs[i]?=some b->ks[i]?=some k->TKey prog w s.heap k b)
  (h:∀ (h':Heap) (tk:Nat) (L:List (List Int × Addr)),SetT prog w h' s.heap.objs.size L->(∀ k,k∈L.map (·.1)↔k∈ks) ->
   (∀ b o,b<s.heap.objs.size->s.heap.get? b=some o->h'.get? b=some o)->Q (.ref s.heap.objs.size) { s with heap:=h',toks:=tk }) :
  wpAny (model prog w) A (call (.type "set") [.ref l]) Q E s:=by
 obtain⟨c,tl,hmro⟩:=F.called_set.mro;have hmade:=F.called_set.made;have hsub:=F.called_set.sub;refine wpAny_call (codeAny_of_tree ?_);show wpAny _ _ (callAny (.type "set") _) _ _ _;refine wpAny_pure ⟨Yft _ (by decide +kernel),codeAny_builtin F.entry_type_call ?_⟩;rw[Yfg (weight_type_call_type "set" [.ref l] []) rfl];have h1:=F.called_set.notType;have h2:=F.called_set.canCreate;have hct:=F.typeCall_set_1 (.ref l)
 repeat (any_goals (first | assumption | wp_step))
 refine codeAny_mono (code_set_new_1 (.ref l) (E:=E) (Q₁:=fun obj s₁=>∃ led:Bool,obj=.ref s.heap.objs.size/\s₁={ s with heap:=s.heap.push { cls:=.type "set",dict:=none,data:=.set #[] 0 (.fresh 0 0 led) } }) fun led=>⟨led,rfl,rfl⟩) fun r s₁ hr=>?_
 cases r with
 | error e=>exact hr
 | ok fl=>
  cases fl with
  | ret obj=>
   obtain⟨led,rfl,rfl⟩:=hr;have hS:(s.heap.push { cls:=.type "set",dict:=none,data:=.set #[] 0 (.fresh 0 0 led) }).get? s.heap.objs.size=some { cls:=.type "set",dict:=none,data:=.set #[] 0 (.fresh 0 0 led) }:=Yas _ rfl;have hT:Shared.TypeIs { s with heap:=s.heap.push { cls:=.type "set",dict:=none,data:=.set #[] 0 (.fresh 0 0 led) } } (.ref s.heap.objs.size) "set":=⟨_,hS,rfl⟩
   have hli:=F.called_set.init.lookup;have hbi:=F.called_set.init.bind (.ref s.heap.objs.size)
   repeat (any_goals (first | assumption | wp_step))
   refine codeAny_mono (codeAny_call_builtin (R:=wants (fun r s₂=>r=.none/\∃ h' tk,s₂={ s with heap:=h',toks:=tk } /\
     (∃ L,SetT prog w h' s.heap.objs.size L/\(∀ k,k∈L.map (·.1)↔k∈ks)) /\
     (∀ b o,b<s.heap.objs.size->s.heap.get? b=some o->h'.get? b=some o)) E) F.called_set.init.plain F.entry_set_init (check_set_init_1 hT ?_)) fun r₂ s₂ hr₂=>?_
   ·obtain⟨ol,hol,hcl,nl,hdl⟩:=hl;obtain⟨ocls,odict,odata,oslots⟩:=ol;simp only at hcl hdl;subst hcl;subst hdl;have hol':(s.heap.push { cls:=.type "set",dict:=none,data:=.set #[] 0 (.fresh 0 0 led) }).get? l=some { cls:=.type "tuple",dict:=odict,data:=.seq items nl,slots:=oslots }:=Yab _ hol;have hsls:=Zdw;have hslf:=ZbW;have hne:(YbV "tuple" == YbV "dict")=false:=by decide
    have hl1:(s.heap.push { cls:=.type "set",dict:=none,data:=.set #[] 0 (.fresh 0 0 led) }).IsTuple l items:=⟨_,hol',rfl,nl,rfl⟩
    unfold Builtin.«set.__init__» noKeywords Yds;generalize hPI:pyIter=PI
    wp_walk
    subst hPI;refine wpAny_pyIter_tuple hl1 ?_;refine wpAny_bind (wpAny_runValue ?_);have hlS:l<s.heap.objs.size:=Yah hol;have hh3:A.in1.in1.in1.handled=none:=by simp[hh]
    have hneI:l≠(s.heap.push { cls:=.type "set",dict:=none,data:=.set #[] 0 (.fresh 0 0 led) }).objs.size:=by
     rw[YaY];exact Yaw (Yby hlS)
    have hSf:s.heap.objs.size ∉ [(s.heap.push { cls:=.type "set",dict:=none,data:=.set #[] 0 (.fresh 0 0 led) }).objs.size,l]:=by
     rw[YaY];simp only[Yao,YaF,Ybm,or_false,not_or];exact⟨Yaw (Ybs _),YbA hlS⟩
    have hsz:items.size=bs.length:=by rw[<- Yax,hi,Yac]
    have hval:∀ (i:Nat) (v:Value),items[i]?=some v->v=.ref ((fun i=>bs.getD i 0) i):=fun i v hv=>by
     rw[<- Yaf,hi,Yam] at hv
     cases e:bs[i]? with
     | none=>rw[e] at hv;cases hv
     | some b=>rw[e] at hv;cases hv;simp[Ydf,e]
    have hat:∀ i,i<items.size->∃ b k,bs[i]?=some b/\ks[i]?=some k/\bs.getD i 0=b/\ks.getD i []=k/\TKey prog w s.heap k b:=fun i h=>by
     have h1:i<bs.length:=by omega
     have h2:i<ks.length:=by omega
     exact⟨bs[i],ks[i],Yaa h1,Yaa h2,by simp[Ydf,h1],by simp[Ydf,h2],hk i _ _ (Yaa h1) (Yaa h2)⟩
    have hold:∀ b k,TKey prog w s.heap k b->b<s.heap.objs.size/\TKey prog w ((s.heap.push { cls:=.type "set",dict:=none,data:=.set #[] 0 (.fresh 0 0 led) }).push { cls:=.type "tuple_iterator",data:=.fields #[.ref l,.int 0 0] }) k b:=fun b k x=>by
     refine⟨?_,ZbB x fun o e=>Yab _ (Yab _ e)⟩;obtain⟨o,_,_,ho,_⟩:=x;exact Yah ho
    have hget:((s.heap.push { cls:=.type "set",dict:=none,data:=.set #[] 0 (.fresh 0 0 led) }).push { cls:=.type "tuple_iterator",data:=.fields #[.ref l,.int 0 0] }).get? s.heap.objs.size
      = some { cls:=.type "set",dict:=none,data:=.set #[] 0 (.fresh 0 0 led) }:=Yab _ hS
    refine Zoj (by show A.units+1+1+1<cLine;omega) ((Ye3 hh3 _ l hneI items).toS) s.heap.objs.size
     hSf (fun i=>ks.getD i []) (fun i=>bs.getD i 0) hval (fun i h=>?hadr) (by omega) (items.size - 0) 0 _ [] (by omega) (YaW _)
     ⟨⟨_,Yas _ rfl,rfl,rfl⟩,(hl1.push _)⟩ ?hS0 ⟨fun k=>by simp,Yag _,fun q hq=>by simp at hq⟩ (fun j hj=>?hTK) ?hR
    case hadr=>
     obtain⟨b,k,e1,e2,e3,e4,x⟩:=hat i h;obtain⟨hlt,_⟩:=hold b k x;rw[e3];have hbl:b≠l:=fun z=>by
      obtain⟨o,its,n,ho,hc,hd,hii⟩:=x;subst z;rw[hol] at ho;cases ho;cases hd;have hb0:=Yau e1;have hv:YaK b∈items.toList:=by rw[hi];exact YaG.mpr ⟨b,hb0,rfl⟩
      obtain⟨i0,t0,e0⟩:=ZeS hii _ hv;cases e0
     refine⟨?_,Yaw hlt⟩;rw[YaY];simp only[Yao,YaF,Ybm,or_false,not_or];exact⟨Yaw (Yby hlt),hbl⟩
    case hTK=>
     obtain⟨b,k,e1,e2,e3,e4,x⟩:=hat j hj;dsimp only;rw[e3,e4];exact (hold b k x).2
    case hS0=>
     refine⟨_,#[],0,_,hget,⟨rfl,rfl,rfl⟩,rfl,⟨.inl rfl,YbM,rfl,rfl,by show 0*5<7*3;decide,fun j hj=>by simp[Ydt] at hj,fun i j e h1=>by simp[Ydt] at h1⟩,⟨rfl,fun q hq=>by simp at hq⟩,Yda⟩
    case hR=>
     intro s' L' hm hS' hK';obtain⟨h',g',d',tk',os'⟩:=s';have eg:g'=s.gens:=hm.gens;have ed:d'=s.drawn:=hm.drawn;have eo:os'=s.os:=hm.os;subst eg;subst ed;subst eo;show wpAny _ _ _ _ _ _;refine wpAny_pure ?_;show wpAny _ _ (ret Ycb) _ _ _;refine wpAny_pure ⟨rfl,h',tk',rfl,⟨L',hS',fun k=>?_⟩,fun b o hb e=>?_⟩
     ·rw[hK'.1];constructor
      ·rintro⟨j,hj,rfl⟩;obtain⟨b,k,e1,e2,e3,e4,x⟩:=hat j hj;dsimp only;rw[e4];exact Yau e2
      ·intro hk2;obtain⟨j,hj,e⟩:=Ybu hk2;exact⟨j,by omega,by simp[Ydf,hj,e]⟩
     ·have hb1:b≠s.heap.objs.size:=Yaw hb;have hb2:b≠(s.heap.push { cls:=.type "set",dict:=none,data:=.set #[] 0 (.fresh 0 0 led) }).objs.size:=by
       rw[YaY];exact Yaw (Yby hb)
      exact hm.heap b o (by simp only[Yao,YaF,Ybm,or_false,not_or];exact⟨hb1,hb2⟩) (Yab _ (Yab _ e))
   ·cases r₂ with
    | error e=>exact hr₂
    | ok fl₂=>
     cases fl₂ with
     | ret r=>
      obtain⟨rfl,h',tk,rfl,⟨L,hS',hL⟩,hk'⟩:=hr₂
      repeat (any_goals (first | assumption | wp_step))
      exact h _ _ L hS' hL hk'
     | _=>exact hr₂.elim
  | _=>exact hr.elim
end
end StT
namespace L2
open PySem PySem.Spec PyProof.Rows StT
def SetN (a:Addr) (n:Nat):HO:=.ext fun h=>∃ o es ep t,h.get? a=some o/\o.ExactSet/\o.data=.set es ep t/\t.fits es.size=true/\es.size=n/\n<=500
theorem ZmC {P:Program}{w:World}{H:Hp}{h:Heap}{a:Addr}{L:List (List Int × Addr)} (S:SetT P w h a L) (h5:L.length<=500):ObjOk P w H h a (SetN a L.length):=by
 obtain⟨o,es,ep,t,ho,hex,hd,T,X,nd⟩:=S;exact⟨⟨o,es,ep,t,ho,hex,hd,T.fits,by rw[<- Yax,X.es,Yac],h5⟩,⟨o,ho⟩,fun _ _ ⟨o,es,ep,t,e,r⟩ k=>⟨o,es,ep,t,k o e,r⟩⟩
theorem Zmd {P:Program}{w:World}:∀ {ks:List Int}{us:List Value},Vals (ks.map V.int) us->ItemsAre (intKind P w) ks us
 | [],_,r=>by rw[Yb9] at r;cases r;exact .nil
 | k::ks,_,r=>by
  rw[YaH] at r
  cases r with
  | cons h t=>
   obtain⟨tk,rfl⟩:=h;exact .cons (by show Yd0 k (.int k tk)=true;simp[Yd0]) (Zmd t)
theorem ZmN:∀ {qs:List Addr}{us:List Value},Vals (qs.map V.ref) us->us=qs.map YaK
 | [],_,r=>by rw[Yb9] at r;cases r;rfl
 | q::qs,_,r=>by
  rw[YaH] at r
  cases r with
  | cons h t=>
   cases h;rw[YaH,ZmN t]
theorem ZoH {P:Program}{w:World}{H:Hp}{h:Heap}{a:Addr}{k:List Int} (ok:HOk P w H h) (e:H a=some (.tup (k.map V.int))):TKey P w h k a:=by
 obtain⟨_,its,r,o,h1,h2,_,n,h3⟩:=(show ObjOk P w H h a (.tup (k.map V.int)) from ok a _ e)
 exact⟨o,its.toArray,n,h1,h2,h3,by simpa using Zmd r⟩
section
variable {X:Cx}
theorem Zkq (hc:X.calm=true) (hu:X.A.units+8<cLine):ZbK X (.type "set") (fun xs H Q=>∃ (a:Addr) (b:Bool) (qs:List Addr) (ks:List (List Int)),xs=[.ref a]/\SqB b X.K H a (qs.map V.ref)/\TTs H qs ks/\ks.length<=500 /\
  ∀ (l:Addr) (L:List (List Int)),H l=none->L.Nodup->(∀ k,k∈L↔k∈ks)->Q (.ref l) (upd H l (SetN l L.length))):=by
 intro pins s σ H xs us Q I r h;obtain⟨a,b,qs,ks,rfl,hq,hT,h5,q⟩:=h;obtain⟨u,rfl,rx⟩:=ZcR r;cases rx;have hk:∀ (i:Nat) b k,qs[i]?=some b->ks[i]?=some k->TKey X.prog X.w s.heap k b:=fun i b k h1 h2=>ZoH I.hok (hT.2 i b k h1 h2);have fin:∀ (h':Heap) (tk:Nat) (L:List (List Int × Addr)),SetT X.prog X.w h' s.heap.objs.size L->(∀ k,k∈L.map (·.1)↔k∈ks) ->
   (∀ b o,b<s.heap.objs.size->s.heap.get? b=some o->h'.get? b=some o)->EP X pins σ Q (.ref s.heap.objs.size) { s with heap:=h',toks:=tk }:=fun h' tk L hS hm kp=>by
  have nd:(L.map (·.1)).Nodup:=by obtain⟨_,_,_,_,_,_,_,_,_,nd⟩:=hS;exact nd
  have hl:(L.map (·.1)).length<=ks.length:=nd.length_le_of_subset fun k hk=>(hm k).mp hk;rw[Yac] at hl;have I1:=I.laid (a:=s.heap.objs.size) (o:=SetN s.heap.objs.size L.length) (h':=h') (t':=tk) (fun b o e=>kp b o (Yah e) e) (Yag _) (ZmC hS (by omega));have hq2:=q s.heap.objs.size (L.map (·.1)) (I.hok.fresh (Yag _)) nd hm;rw[Yac] at hq2;exact⟨.ref s.heap.objs.size,_,I1,rfl,hq2⟩
 cases b
 ·obtain⟨its,r',pl,hz⟩:=I.tuple hq;exact ZeO hu (I.ok.hd hc) (show s.heap.IsTuple a its.toArray from pl) (ZmN r') hT.1 h5 hk fin
 ·obtain⟨its,r',pl,hz⟩:=I.list hq;exact Zdz hu (I.ok.hd hc) pl.isList (ZmN r') hT.1 h5 hk fin
theorem Zks:ZbK X (.builtin "len") (fun xs H Q=>∃ (a:Addr) (n:Nat),xs=[.ref a]/\H a=some (SetN a n)/\Q (.int (n:Int)) H):=by
 intro pins s σ H xs us Q I r h;obtain⟨a,n,rfl,ha,q⟩:=h;obtain⟨u,rfl,rx⟩:=ZcR r;cases rx;obtain⟨⟨o,es,ep,t,ho,hex,hd,hf,hn,h5⟩,_⟩:=(show ObjOk X.prog X.w H s.heap a (SetN a n) from I.hok a _ ha)
 have hm:=Zfl;exact PySem.call_len_set ho hex hd hf (by omega) ⟨.int (n:Int),H,I.tok _,⟨s.toks+1,by rw[hn]⟩,q⟩
theorem Zpd:bootBuiltins "set"=some (.type "set"):=by decide +kernel
end
end L2
namespace L2
open PySem PySem.Spec PyProof.Rows PySem.SeqAt
section
variable {prog:Program}{w:World}{A:Around}{E:Value->Shared->Prop}{s:Shared}
set_option maxRecDepth 100000 in
end
section
variable {X:Cx}
end
end L2
namespace L2
open PySem PySem.Spec PyProof.Rows
end L2
namespace PySem.AutoSeq1
open PySem PySem.Spec PyProof.Rows
end PySem.AutoSeq1
namespace L2
open PySem PySem.Spec PyProof.Rows
section
variable {X:Cx}
end
end L2
namespace L2
open PySem PySem.Spec PyProof.Rows
section
variable {own:List Str}{js:List Nat}{g:TG}{te:TE}{σ:St}{H1:Hp}{Q:VK}
theorem LLs.snocC {H:Hp}{rs:List Addr}{N:List (List Int)}{q:Addr}{xs:List Int} (h:LLs H rs N) (e:H q=some (.lst (xs.map V.int))):LLs H (rs++[q]) (N++[xs]):=⟨by rw[Yak,Yak,h.1];rfl,fun j r ys a b=>by
 have hl:=h.1;by_cases hj:j<rs.length
 ·rw[YaL hj] at a;rw[YaL (by omega)] at b;exact h.2 j r ys a b
 ·rw[YaI (by omega)] at a b;have e0:j - rs.length=0:=by
   have:=(Yad.mp a).1
   simp at this;omega
  rw[e0] at a;rw[<- hl,e0] at b;cases a;cases b;exact e⟩
theorem ZfC {lo:Int}{n:Nat} (N:List (List Int)) (hN:N.length=n) (hlen:n<=20000)
  (hs:∀ i xs,i<n->N[i]?=some xs->∀ H,Same H1 H->∀ R:VK,(∀ q H',H q=none->Same H H'->H' q=some (.lst (xs.map V.int))->R (.ref q) H')->g (.int (lo+(i:Nat))) (blkσ own js σ) H fun τ H4=>te τ H4 R)
  (hd:∀ acc (qs:List Addr) H,H1 acc=none->Same H1 H->H acc=some (.lst (qs.map V.ref))->LLs H qs N->(∀ q∈qs,q≠acc/\H1 q=none)->Q (.ref acc) H):Zbp own js g ZcZ te σ (Itr lo n) H1 Q:=by
 refine ZbS (fun acc i H=>Same H1 H/\∃ qs:List Addr,H acc=some (.lst (qs.map V.ref))/\LLs H qs (N.take i)/\∀ q∈qs,q≠acc/\H1 q=none) (fun acc h0=>⟨Same.new h0,[],Zab,⟨rfl,fun j r xs a=>(nomatch a)⟩,fun q h=>nomatch h⟩) ?_ fun acc H h0 ⟨s1,qs,hacc,hL,hq⟩=>hd acc qs H h0 s1 hacc (by rwa [<- hN,YaO] at hL) hq;rintro acc i H h0 hi ⟨s1,qs,hacc,hL,hq⟩;have hy':=Yaa (l:=N) (i:=i) (by omega);have hql:qs.length=i:=by rw[hL.1,Yaz];omega
 refine (cast ?_ (hs i _ hi hy' H s1 (fun y H6=>∃ zs',H6 acc=some (.lst zs')/\zs'.length<sizeLine/\(i+1<=n/\(Same H1 (upd H6 acc (.lst (zs'++[y])))/\∃ qs:List Addr,upd H6 acc (.lst (zs'++[y])) acc=some (.lst (qs.map V.ref))/\LLs (upd H6 acc (.lst (zs'++[y]))) qs (N.take (i+1))/\∀ q∈qs,q≠acc/\H1 q=none))) fun q H' nq s' hq'=>?_))
 ·unfold ZcZ;simp only[if_true]
 ·have hqa:q≠acc:=fun e=>by rw[e,hacc] at nq;cases nq
  refine⟨_,s' _ _ hacc,?_,hi,(s1.trans s').put h0,qs++[q],by rw[Zab,Yay];rfl,?_,fun x hx=>?_⟩
  ·rw[sizeLine_eq,Yac];omega
  ·rw[Ybe,hy'];have h5:=(hL.same s').snocC hq';refine⟨h5.1,fun j r xs a b=>?_⟩;have hne:r≠acc:=by
    rcases Yaj.mp (Yau a) with z | z
    ·exact (hq r z).1
    ·rw[YaF.mp z];exact hqa
   rw[Zaf hne];exact h5.2 j r xs a b
  ·rcases Yaj.mp hx with z | z
   ·exact hq x z
   ·rw[YaF.mp z];exact⟨hqa,s1.free nq⟩
theorem TTs.snocC {H:Hp}{rs:List Addr}{N:List (List Int)}{q:Addr}{xs:List Int} (h:TTs H rs N) (e:H q=some (.tup (xs.map V.int))):TTs H (rs++[q]) (N++[xs]):=⟨by rw[Yak,Yak,h.1];rfl,fun j r ys a b=>by
 have hl:=h.1;by_cases hj:j<rs.length
 ·rw[YaL hj] at a;rw[YaL (by omega)] at b;exact h.2 j r ys a b
 ·rw[YaI (by omega)] at a b;have e0:j - rs.length=0:=by
   have:=(Yad.mp a).1
   simp at this;omega
  rw[e0] at a;rw[<- hl,e0] at b;cases a;cases b;exact e⟩
theorem Zkg {lo:Int}{n:Nat} (N:List (List Int)) (hN:N.length=n) (hlen:n<=20000)
  (hs:∀ i xs,i<n->N[i]?=some xs->∀ H,Same H1 H->∀ R:VK,(∀ q H',H q=none->Same H H'->H' q=some (.tup (xs.map V.int))->R (.ref q) H')->g (.int (lo+(i:Nat))) (blkσ own js σ) H fun τ H4=>te τ H4 R)
  (hd:∀ acc (qs:List Addr) H,H1 acc=none->Same H1 H->H acc=some (.lst (qs.map V.ref))->TTs H qs N->(∀ q∈qs,q≠acc/\H1 q=none)->Q (.ref acc) H):Zbp own js g ZcZ te σ (Itr lo n) H1 Q:=by
 refine ZbS (fun acc i H=>Same H1 H/\∃ qs:List Addr,H acc=some (.lst (qs.map V.ref))/\TTs H qs (N.take i)/\∀ q∈qs,q≠acc/\H1 q=none) (fun acc h0=>⟨Same.new h0,[],Zab,⟨rfl,fun j r xs a=>(nomatch a)⟩,fun q h=>nomatch h⟩) ?_ fun acc H h0 ⟨s1,qs,hacc,hL,hq⟩=>hd acc qs H h0 s1 hacc (by rwa [<- hN,YaO] at hL) hq;rintro acc i H h0 hi ⟨s1,qs,hacc,hL,hq⟩;have hy':=Yaa (l:=N) (i:=i) (by omega);have hql:qs.length=i:=by rw[hL.1,Yaz];omega
 refine (cast ?_ (hs i _ hi hy' H s1 (fun y H6=>∃ zs',H6 acc=some (.lst zs')/\zs'.length<sizeLine/\(i+1<=n/\(Same H1 (upd H6 acc (.lst (zs'++[y])))/\∃ qs:List Addr,upd H6 acc (.lst (zs'++[y])) acc=some (.lst (qs.map V.ref))/\TTs (upd H6 acc (.lst (zs'++[y]))) qs (N.take (i+1))/\∀ q∈qs,q≠acc/\H1 q=none))) fun q H' nq s' hq'=>?_))
 ·unfold ZcZ;simp only[if_true]
 ·have hqa:q≠acc:=fun e=>by rw[e,hacc] at nq;cases nq
  refine⟨_,s' _ _ hacc,?_,hi,(s1.trans s').put h0,qs++[q],by rw[Zab,Yay];rfl,?_,fun x hx=>?_⟩
  ·rw[sizeLine_eq,Yac];omega
  ·rw[Ybe,hy'];have h5:=(hL.same s').snocC hq';refine⟨h5.1,fun j r xs a b=>?_⟩;have hne:r≠acc:=by
    rcases Yaj.mp (Yau a) with z | z
    ·exact (hq r z).1
    ·rw[YaF.mp z];exact hqa
   rw[Zaf hne];exact h5.2 j r xs a b
  ·rcases Yaj.mp hx with z | z
   ·exact hq x z
   ·rw[YaF.mp z];exact⟨hqa,s1.free nq⟩
end
end L2
namespace Lv
open PySem L2
theorem ZgL {α:Type}:∀ (ys:List α) (i:Nat) (h:i<ys.length) (z:α),(ys++[z]).Perm (ys[i]::ys.set i z)
 | [],i,h,z=>absurd h (YbC _)
 | y::ys,0,_,z=>by
  show (y::(ys++[z])).Perm (y::z::ys);exact (Yet z ys).cons y
 | y::ys,i+1,h,z=>by
  have hi:i<ys.length:=by simpa using h
  show (y::(ys++[z])).Perm (ys[i]::y::ys.set i z);exact ((ZgL ys i hi z).cons y).trans (YcE _ _ _)
def ZhM {α:Type} (xs:List α) (i:Nat) (z:α):List α:=(xs.set i z).dropLast
theorem ZhL {α:Type}{xs:List α}{i:Nat}{x z:α} (hx:xs[i]?=some x) (hz:xs[xs.length - 1]?=some z):xs.Perm (x::ZhM xs i z):=by
 obtain⟨hi,rfl⟩:=Yad.mp hx;have hne:xs≠[]:=fun e=>by rw[e] at hi;exact YbC _ hi
 obtain⟨ys,y,rfl⟩:∃ ys y,xs=ys++[y]:=⟨xs.dropLast,xs.getLast hne,(YcV hne).symm⟩
 have:y=z:=by simpa using hz
 subst this;unfold ZhM;by_cases h:i<ys.length
 ·rw[List.set_append_left _ _ h,Yfe];have:=ZgL ys i h y
  rwa [show (ys++[y])[i]=ys[i] from List.getElem_append_left h]
 ·have hi':i=ys.length:=by simp at hi;omega
  subst hi';rw[List.set_append_right _ _ (Yag _)];simp only[Nat.sub_self,List.set_cons_zero,Yfe,List.getElem_concat_length];exact Yet y ys
theorem ZiQ {α:Type}{xs:List α}{i:Nat}{z:α}:(ZhM xs i z).length=xs.length - 1:=by unfold ZhM;simp
theorem TuM.perm {H:Hp}{a b:List Addr}{ks:List (List Int)} (h:TuM H a ks) (e:a.Perm b):∃ ks',TuM H b ks'/\ks.Perm ks':=⟨b.map (kf H),⟨fun p hp=>h.1 p (e.mem_iff.mpr hp),rfl⟩,by rw[<- h.2];exact e.map _⟩
theorem TuM.app {H:Hp}{a b:List Addr}{ks js:List (List Int)} (h:TuM H a ks) (g:TuM H b js):TuM H (a++b) (ks++js):=⟨fun p hp=>(Yaj.mp hp).elim (h.1 p) (g.1 p),by rw[Yay,h.2,g.2]⟩
theorem TuM.ofTT {H:Hp}{qs:List Addr}{N:List (List Int)} (h:TTs H qs N) (hne:∀ k∈N,k≠[]):TuM H qs N:=by
 refine⟨fun p hp=>?_,?_⟩
 ·obtain⟨j,hj,rfl⟩:=Ybu hp;have hN:j<N.length:=by rw[<- h.1];exact hj
  exact⟨N[j],hne _ (Ybw hN),h.2 j _ _ (Yaa hj) (Yaa hN)⟩
 ·refine Ybr (by rw[Yac,h.1]) fun j h1 h2=>?_;rw[YcQ];have hj:j<qs.length:=by simpa using h1
  exact Zfo (h.2 j _ _ (Yaa hj) (Yaa h2))
def plcs (N:List (List Int)) (i:Nat):List (List Int):=((YaT i).map fun r=>(YaT (N.getD r []).length).map fun (j:Nat)=>[(r:Int),(j:Int)]).flatten
theorem Zco (N:List (List Int)) (i:Nat):plcs N (i+1)=plcs N i++(YaT (N.getD i []).length).map fun (j:Nat)=>[(i:Int),(j:Int)]:=by
 unfold plcs;rw[List.range_succ,Yay,Ycz];simp
theorem ZgU {N:List (List Int)}{i:Nat}{k:List Int} (h:k∈plcs N i):∃ r j:Nat,k=[(r:Int),(j:Int)]/\r<i/\j<(N.getD r []).length:=by
 unfold plcs at h;obtain⟨l,hl,hk⟩:=Ydp.mp h;obtain⟨r,hr,rfl⟩:=YaG.mp hl;obtain⟨j,hj,rfl⟩:=YaG.mp hk;exact⟨r,j,rfl,Ybg.mp hr,Ybg.mp hj⟩
theorem ZmW {N:List (List Int)}{k:List Int} (h:k∈plcs N N.length):InN N k:=by
 obtain⟨r,j,e,hr,hj⟩:=ZgU h;rw[Yat,Yaa hr] at hj;exact⟨r,j,N[r],e,Yaa hr,hj⟩
theorem ZdZ (N:List (List Int)):∀ i,(plcs N i).Nodup
 | 0=>Yda
 | i+1=>by
  rw[Zco];refine Ydd.mpr ⟨ZdZ N i,?_,fun a ha b hb e=>?_⟩
  ·rw[Yc5,Ya1];refine Ycu.imp fun {a b} h z=>h ?_;have z2:(a:Int)=b:=by simpa using z
   omega
  ·obtain⟨r,j,e1,hr,_⟩:=ZgU ha;obtain⟨j',_,rfl⟩:=YaG.mp hb;rw[e1] at e;have:(r:Int)=(i:Int):=by simpa using (YdA e).1
   omega
theorem Zew (N:List (List Int)):∀ i,i<=N.length->(plcs N i).length=((N.take i).map Ycx).sum
 | 0,_=>rfl
 | i+1,h=>by
  rw[Zco,Yak,Zew N i (by omega),YcG (by omega),Yay,YcW,Yac,Yb7];rw[Yat,Yaa (by omega)];simp
end Lv
namespace L2
open PySem PySem.Spec PyProof.Rows PySem.SeqAt
end L2
namespace L2
open PySem PySem.Spec PyProof.Rows PySem.SeqAt Lv
end L2
namespace Fk41
open PySem L2 Lv
def top (i:Nat):Stmt:=PySem.Challenge.pw_fewreels_k41_whole_no_placing_reads_less.main.body.getD i (.Pass ⟨0,0,0,0⟩)
abbrev ZdK:Stmt:=top 7
abbrev ZdN:Stmt:=top 8
abbrev Zcy:Stmt:=top 9
abbrev ZdL:Stmt:=top 10
abbrev ZhE:Stmt:=top 15
abbrev ZdR:Stmt:=top 16
abbrev ZdT:Stmt:=top 17
abbrev Zf7:Stmt:=top 18
abbrev ZcF:Stmt:=top 19
abbrev ZdM:Stmt:=top 20
abbrev sTot:Stmt:=top 23
abbrev Zcx:Stmt:=top 24
abbrev ZcE:Stmt:=top 25
abbrev ZcM:Stmt:=top 26
abbrev ZdW:Stmt:=top 27
abbrev ZdP:Stmt:=top 28
abbrev Zbq:Stmt:=top 29
abbrev ZhF:Stmt:=top 30
abbrev sLN:Stmt:=top 31
abbrev ZcA:Stmt:=top 32
abbrev ZcB:Stmt:=top 34
abbrev Za5:Stmt:=top 35
abbrev Zb8:Stmt:=top 36
abbrev ZbP:Stmt:=top 37
abbrev ZhH:Stmt:=top 38
abbrev ZcG:Stmt:=top 39
abbrev sBPl:Stmt:=top 40
abbrev ZaQ:Stmt:=top 41
abbrev ZcD:Stmt:=top 43
abbrev ZdV:Stmt:=top 44
abbrev Zc7:Stmt:=top 45
abbrev ZdO:Stmt:=top 46
abbrev ZcH:Stmt:=top 47
abbrev ZhG:Stmt:=top 48
abbrev Zcz:Stmt:=top 49
abbrev sLR:Stmt:=top 51
abbrev ZdQ:Stmt:=top 53
abbrev ZdU:Stmt:=top 54
abbrev Zbf:Stmt:=top 55
abbrev Zbs:Stmt:=top 56
abbrev ZdS:Stmt:=top 57
abbrev Zc6:Stmt:=top 58
abbrev ZcC:Stmt:=top 59
abbrev ZaF:Stmt:=top 60
abbrev sLaw:Stmt:=top 61
end Fk41
namespace Fk41
open PySem L2 Lv
section
variable {P:Program}{w:World}{K:Yae}{mg:Str->Option Value}{base:Heap}
theorem scTold:FnScope ["p","following","told","numbers"] ["p","following"] (Zac ZhF):=⟨rfl,rfl,rfl,by decide +kernel,rfl,by decide +kernel,by decide +kernel⟩
theorem Zlf {f fA fB fC:Addr}{fd dA dB dC:FuncData}{t4:Tok} (F:Fun K "numbers_told" "numbers_told" ZhF f fd) (T:Txt mg) (hM:mg "MOST_PLACES"=some (.int 4000 t4)) (CB:Cal P w K mg base 1 "first_numbers" ["p"] ZcU fB dB) (CP:Cal P w K mg base 1 "places_in" ["numbers"] ZbO fC dC) (CA:Cal P w K mg base 1 "next_numbers" ["numbers"] Zcw fA dA):FnOk P w K mg base CX0 2 f fd ["p","following"] (ZfX fA):=by
 refine F.ok scTold (fun vs H Q E h=>?_) (fun cdv A outer s H vs Q E hr h=>?_)
 ·obtain⟨p,rfl,_⟩:=h;rfl
 ·obtain⟨p,rfl,h2,h7,k⟩:=h;refine⟨_,Zan (Zaq (i:=2) scTold.nd rfl (YaJ rfl) (ZaI Zad))
   (Zan (Zaq (i:=3) scTold.nd rfl (YaJ rfl) (Zap CB hr rfl (Zaa (pv 0) Zad)))
   (Zan (ZgS Ybf (ZaO Zgb (Zap CP hr rfl (Zaa (pv 3) Zad)) (Zez rfl hM) (ZaS _))
    (Zan (ZaX (ZhO YbH Yb4 Yb3 Zbl (pv 2) (Zaa (pv 3) Zad)))
    (Zao (Zaq (i:=3) scTold.nd rfl (YaJ rfl) (Zf9 1 CA hr (Zaa (pv 3) Zad))))))
   (Zao (Zav (pv 2))))),?_⟩
  have hz:5000<sizeLine:=by decide
  refine⟨YaW _,fun l nl=>?_⟩;have x1:upd H l (.lst []) l=some (.lst (([]:List Addr).map V.ref)):=Zab;have u1:Same H (upd H l (.lst [])):=Same.new nl;generalize upd H l (.lst [])=H1 at x1 u1 ⊢;refine⟨_,rfl,p,rfl,h2,h7,fun q qs H2 nq hq hTT s2=>?_⟩;refine⟨fun m σ Hx=>∃ (i:Nat) (as:List Addr) (q:Addr) (qs:List Addr),m=4001 - i/\σ=[some (.int p),some (.ref fA),some (.ref l),some (.ref q)]/\Hx l=some (.lst (as.map V.ref))/\LvsT Hx as (Zci p i)/\(∀ j,j<i->(num p j).flatten.length<=4000)/\Hx q=some (.tup (qs.map V.ref))/\TTs Hx qs (num p i)/\Same H Hx,
   ⟨4001,0,[],q,qs,rfl,rfl,s2 _ _ x1,⟨rfl,fun j x N a=>(nomatch a)⟩,fun j hj=>absurd hj (YbC _),hq,hTT,u1.trans s2⟩,?_⟩
  rintro m σ Hx ⟨i,as,q,qs,rfl,rfl,hl,hLv,hall,hq,hTT,sx⟩;have hlen:=ZbG (p:=p) (by omega) i;have hg:=ZfQ h2 i;have hfl:=Za8 p i;refine⟨_,rfl,q,qs,num p i,rfl,hq,hTT,by omega,fun H3 s3=>?_⟩;refine⟨_,_,rfl,rfl,_,rfl,?_⟩;have sx3:=sx.trans s3;refine ite2 (fun hle=>?_) (fun hgt=>?_)
  ·have hle:((num p i).flatten.length:Int)<=4000:=of_decide_eq_true hle;have asl:as.length=i:=by rw[hLv.1,Ze3]
   have hl3:=s3 _ _ hl;refine⟨fun σ' H'=>∃ (i':Nat) (as:List Addr) (q:Addr) (qs:List Addr),i'=i+1/\σ'=[some (.int p),some (.ref fA),some (.ref l),some (.ref q)]/\H' l=some (.lst (as.map V.ref))/\LvsT H' as (Zci p i')/\(∀ j,j<i'->(num p j).flatten.length<=4000)/\H' q=some (.tup (qs.map V.ref))/\TTs H' qs (num p i')/\Same H H',fun σ' H' ⟨i',as,q,qs,e,r⟩=>⟨4001 - i',by omega,i',as,q,qs,rfl,r⟩,?_⟩;refine⟨_,rfl,.inl ⟨rfl,_,SqL.of hl3⟩,_,rfl,l,_,_,rfl,rfl,hl3,by rw[Yac];omega,?_⟩;have hq4:upd H3 l (.lst (as.map V.ref++[.ref q])) q=some (.tup (qs.map V.ref)):=by
    rw[Zaf fun z=>by have:=s3 _ _ hq;rw[z,hl3] at this;cases this];exact s3 _ _ hq
   have hT4:TTs (upd H3 l (.lst (as.map V.ref++[.ref q]))) qs (num p i):=TTs.lst (hTT.same s3) hl3;have hLv4:=((hLv.same s3).lst (ys:=as.map V.ref++[.ref q]) hl3).snoc hq4 hT4;rw[<- Zhw] at hLv4;have hl4:upd H3 l (.lst (as.map V.ref++[.ref q])) l=some (.lst ((as++[q]).map V.ref)):=by rw[Zab,Yay];rfl
   have sx4:Same H (upd H3 l (.lst (as.map V.ref++[.ref q]))):=sx3.put nl;generalize upd H3 l (.lst (as.map V.ref++[.ref q]))=H4 at hq4 hT4 hLv4 hl4 sx4 ⊢;refine⟨rfl,_,rfl,q,qs,num p i,rfl,hq4,hT4,by omega,by omega,?_,fun xs hx=>?_,fun l3 qs3 H5 h30 h3 hq3 s5=>?_⟩
   ·obtain⟨x,r,e,hx,_⟩:=Zg1 h2 i;rw[e];exact hx
   ·have:=Zg0 hx;omega
   ·exact⟨i+1,as++[q],l3,qs3,rfl,rfl,s5 _ _ hl4,hLv4.same s5,fun j hj=>by
     by_cases e:j=i
     ·subst e;omega
     ·exact hall j (by omega),h3,hq3,sx4.trans s5⟩
  ·have hgt:¬ ((num p i).flatten.length:Int)<=4000:=fun z=>hgt (decide_eq_true z);exact⟨_,rfl,k l as i H3 nl (s3 _ _ hl) (hLv.same s3) hall (by omega) sx3⟩
theorem scBestBy:FnScope ["levels","lengths","best","n","numbers","reading","placing"] ["levels","lengths"] (Zac ZcG):=⟨rfl,rfl,rfl,by decide +kernel,rfl,by decide +kernel,by decide +kernel⟩
theorem SqB.sameB {b:Bool}{H H':Hp}{a:Addr}{xs:List V} (e:Same H H') (h:SqB b K H a xs):SqB b K H' a xs:=by
 cases b
 ·exact e.tup h
 ·exact e.seq h
theorem SqB.orB {b:Bool}{H:Hp}{a:Addr}{xs:List V} (h:SqB b K H a xs):SqL K H a xs∨SqT K H a xs:=by
 cases b
 ·exact .inr h
 ·exact .inl h
theorem ZhT {f f1 f2:Addr}{fd d1 d2:FuncData} (F:Fun K "best_by" "best_by" ZcG f fd) (T:Txt mg) (Te:mg "enumerate"=none) (CP:Cal P w K mg base 1 "places_in" ["numbers"] ZbO f1 d1) (CL:Cal P w K mg base 2 "least_by" ["numbers","lengths"] (Zc3 K) f2 d2):FnOk P w K mg base CX0 3 f fd ["levels","lengths"] (Zc5 K):=by
 refine F.ok scBestBy (fun vs H Q E h=>?_) (fun cdv A outer s H vs Q E hr h=>?_)
 ·obtain⟨lv,ll,b,as,L,ls,rfl,_⟩:=h;rfl
 ·obtain⟨lv,ll,b,as,L,ls,rfl,hV,hLv,hL,hN,hb1,k⟩:=h;have hr1:Room 1 _:=hr.mono (by decide);refine⟨_,Zan (Zaq (i:=2) scBestBy.nd rfl (YaJ rfl) Zi0)
   (Zan (Zbd Ybf rfl (Zcp rfl Te (Zaa (pv 0) Zad)) (ZbF rfl (Zar (Zaj (i:=3) scBestBy.nd rfl (YaJ rfl)) (Zar (Zaj (i:=4) scBestBy.nd rfl (YaJ rfl)) ZaT)))
    (Zao (Zfe (ZaO Zk9 (Zap CP hr1 rfl (Zaa (pv 4) Zad)) (Zam Zas rfl T.len Ybj (Zaa (pv 1) Zad)) (ZaS _))
     (Zan (ZdY (Zap CL hr rfl (Zaa (pv 4) (Zaa (pv 1) Zad))) (ZbF rfl (Zar (Zaj (i:=5) scBestBy.nd rfl (YaJ rfl)) (Zar (Zaj (i:=6) scBestBy.nd rfl (YaJ rfl)) ZaT))))
     (Zao (Zfe (PW.pt (Zfd (Zl2 (Zl6 (pv 2))) (Zda (ZaO Zk8 (pv 5) (ZaK Zb2 (pv 2) Zae (fun _ _=>rfl)) (ZaS _))))) (Zao (Zaq (i:=2) scBestBy.nd rfl (YaJ rfl) (ZbY (Zaa (pv 5) (Zaa (pv 3) (Zaa (pv 6) Zad)))))) Zb9))) Zb9)))
   (Zao (Zav (pv 2)))),?_⟩
  refine⟨_,rfl,lv,true,rfl,⟨_,SqL.of hV⟩,?_⟩;refine Zfx (b:=true) (xs:=as.map V.ref) (fun i σ H2=>∃ (o:Option (Int × Nat)) (v:V) (o3 o4 o5 o6:Option V),σ=[some (.ref lv),some (.ref ll),some v,o3,o4,o5,o6]/\BestOf ls L i o/\BestVP ls L H2 o v/\Same H H2)
   ⟨none,.non,_,_,_,_,rfl,fun j N hj=>absurd hj (YbC _),rfl,Same.refl _⟩ (fun i σ H2 _ ⟨_,_,_,_,_,_,_,_,_,s2⟩=>SqL.of (s2 _ _ hV)) ?_ ?_
  ·rintro i x u σ H2 hx ⟨o,v,o3,o4,o5,o6,rfl,hO,hBv,s2⟩ nu;obtain⟨q,hq,rfl⟩:=ZcL hx;have hi:=(Yad.mp hq).1
   obtain⟨N,hNi⟩:∃ N,L[i]?=some N:=⟨_,Yaa (by rw[<- hLv.1];exact hi)⟩
   obtain⟨n7,n9,nb⟩:=hN N (Yau hNi);obtain⟨rs,hqa,hTT⟩:=hLv.2 i q N hq hNi;have su:Same H2 (upd H2 u (.tup [.int i,.ref q])):=Same.new nu;have hu3:upd H2 u (.tup [.int i,.ref q]) u=some (.tup [.int i,.ref q]):=Zab;generalize upd H2 u (.tup [.int i,.ref q])=H3 at su hu3 ⊢;have s3:=s2.trans su;refine⟨u,_,rfl,SqT.of hu3,rfl,_,_,rfl,_,_,rfl,rfl,?_⟩;refine⟨_,rfl,q,rs,N,rfl,s3 _ _ hqa,hTT.same s3,n7,fun H4 s4=>?_⟩;have s04:=s3.trans s4;have hBv4:=hBv.same (su.trans s4);refine⟨_,rfl,ll,_,rfl,SqB.orB (SqB.sameB s04 hL),_,_,rfl,rfl,_,rfl,?_⟩;rw[Yac];refine ite2 (fun hf=>?_) (fun hf=>?_)
   ·have hf:(ls.length:Int)<=(N.flatten.length:Int):=of_decide_eq_true hf;have hfit:Fit ls N:=by unfold Fit;omega
    refine⟨_,rfl,_,rfl,q,ll,b,rs,N,ls,rfl,s04 _ _ hqa,hTT.same s04,n7,n9,SqB.sameB s04 hL,hfit,hb1,nb,fun t pl qs ks lf lp H5 nt ht npl hpl hM hin hst s5=>?_⟩;have s05:=s04.trans s5;have hBv5:=hBv4.same s5;have hrd:Zdv ls N (ZaU N ls ks).sum:=⟨ks,lf,lp,hst,hin,rfl⟩
    generalize hR:(ZaU N ls ks).sum=R at ht hrd;refine⟨t,_,rfl,SqT.of ht,rfl,_,_,rfl,_,_,rfl,rfl,?_⟩
    match o,hO,hBv5 with
    | none,hO,hBv5=>
     have hv:v=.non:=hBv5;subst hv;refine⟨_,rfl,true,rfl,iteT ?_⟩;refine iteT ⟨_,rfl,_,rfl,_,rfl,(by show 3<=sizeLine;decide),fun bt nbt=>?_⟩;exact⟨some (R,i),.ref bt,_,_,_,_,rfl,hO.first hNi hfit hrd,⟨bt,pl,qs,N,ks,lf,lp,rfl,Zab,(Same.new nbt) _ _ hpl,hM.same (Same.new nbt),hNi,hst,hin,hfit,hR.symm⟩,s05.trans (Same.new nbt)⟩
    | some (R',n),hO,⟨bt0,pl0,qs0,N0,ks0,lf0,lp0,hv,hbt0,hrest⟩=>
     subst hv;refine⟨_,rfl,false,rfl,iteF ?_⟩;refine⟨_,rfl,_,rfl,bt0,_,0,.int R',rfl,rfl,SqT.of hbt0,rfl,R,R',rfl,rfl,_,rfl,?_⟩;refine ite2 (fun hlt=>?_) (fun hge=>?_)
     ·have hlt:R<R':=of_decide_eq_true hlt;refine⟨_,rfl,_,rfl,_,rfl,(by show 3<=sizeLine;decide),fun bt nbt=>?_⟩;exact⟨some (R,i),.ref bt,_,_,_,_,rfl,hO.better hNi hfit hrd hlt,⟨bt,pl,qs,N,ks,lf,lp,rfl,Zab,(Same.new nbt) _ _ hpl,hM.same (Same.new nbt),hNi,hst,hin,hfit,hR.symm⟩,s05.trans (Same.new nbt)⟩
     ·have hge:¬ R<R':=fun z=>hge (decide_eq_true z);exact⟨some (R',n),.ref bt0,_,_,_,_,rfl,hO.worse hNi hfit hrd hge,⟨bt0,pl0,qs0,N0,ks0,lf0,lp0,rfl,hbt0,hrest⟩,s05⟩
   ·have hf:¬ (ls.length:Int)<=(N.flatten.length:Int):=fun z=>hf (decide_eq_true z);exact⟨o,v,_,_,_,_,rfl,hO.skip hNi (fun z=>hf (by unfold Fit at z;omega)),hBv4,s04⟩
  ·rintro σ H2 ⟨o,v,o3,o4,o5,o6,rfl,hO,hBv,s2⟩;rw[Yac,hLv.1] at hO;exact⟨_,rfl,k o v H2 hO hBv s2⟩
theorem ZoQ:FnScope ["p","lengths"] ["p","lengths"] (Zac sBPl):=⟨rfl,rfl,rfl,by decide +kernel,rfl,by decide +kernel,by decide +kernel⟩
theorem Zl7 {f f1 f2 f3 f4:Addr}{fd d1 d2 d3 d4:FuncData} (F:Fun K "best_placing" "best_placing" sBPl f fd) (T:Txt mg) (CW:Cal P w K mg base 2 "check_ways" ["p"] ZdI f1 d1) (CN:Cal P w K mg base 1 "next_numbers" ["numbers"] Zcw f2 d2) (CT:Cal P w K mg base 2 "numbers_told" ["p","following"] (ZfX f2) f3 d3) (CB:Cal P w K mg base 3 "best_by" ["levels","lengths"] (Zc5 K) f4 d4):FnOk P w K mg base CX0 4 f fd ["p","lengths"] (ZkO K):=by
 refine F.ok ZoQ (fun vs H Q E h=>?_) (fun cdv A outer s H vs Q E hr h=>?_)
 ·obtain⟨p,ll,b,ls,rfl,_⟩:=h;rfl
 ·obtain⟨p,ll,b,ls,rfl,h2,h7,hL,hl5,hb,k⟩:=h;have hr2:Room 2 _:=hr.mono (by decide);have hr3:Room 3 _:=hr.mono (by decide);refine⟨_,(Zan (ZaX (Zap CW hr2 rfl (Zaa (pv 0) Zad)))
   (Zao (Zav (Zap CB hr3 rfl (Zaa (Zap CT hr2 rfl (Zaa (pv 0) (Zaa (Zi2 CN rfl) Zad))) (Zaa (pv 1) Zad)))))),?_⟩
  refine⟨_,rfl,p,rfl,by omega,by omega,?_⟩;refine⟨_,rfl,p,rfl,h2,h7,fun l as m H1 nl hl hLv hall hmore s1=>?_⟩;obtain⟨hm1,hm5⟩:=Zhv h2 h7 hmore;have hm9:∀ i,i<m->tot p i<=4000:=fun i hi=>by
   have:=hall i hi;have:=Za8 p i;omega
  have hN:∀ N∈Zci p m,N.length<=7/\N.flatten.length<=100000/\∀ xs∈N,∀ z∈xs,Ya3 z<=8000:=fun N hm=>by
   unfold Zci at hm;obtain⟨i,hi,rfl⟩:=YaG.mp hm;have hi:=Ybg.mp hi;have ht:=hall i hi;have hg:=ZfQ h2 i;have hfl:=Za8 p i;refine⟨by rw[ZbG (by omega)];exact h7,by omega,fun xs hx z hz=>?_⟩;have h8:((p:Int))*i<=7*i:=YbB (by omega) (by omega);have:=Zdt p i xs hx z hz;exact Zbi (by omega) (by omega)
  refine⟨_,rfl,l,ll,b,as,Zci p m,ls,rfl,hl,hLv,SqB.sameB s1 hL,hN,hb,fun o v H2 hO hV s2=>?_⟩;rw[Ze3] at hO
  match o,hO,hV with
  | none,hO,hV=>
   exfalso;exact hO (m - 1) _ (by omega) (Ze4 (by omega)) (by unfold Fit;omega)
  | some (R,n),hO,⟨t,pl,qs,N,ks,lf,lp,hv,ht,hpl,hM,hNn,hst,hin,hfit,hR⟩=>
   subst hv;have hn:n<m:=hO.1;rw[Ze4 hn] at hNn;cases hNn;subst hR;have:=Za8 p m;exact k t pl qs ks lf lp n m H2 (.inr trivial) ht hpl hM hst hin hfit (hm9 n hn) hn hO hm9 (by omega) (s1.trans s2)
theorem Zn1:FnScope ["p","n","lengths","placing"] ["p","n","lengths","placing"] (Zac ZhH):=⟨rfl,rfl,rfl,by decide +kernel,rfl,by decide +kernel,by decide +kernel⟩
def ZiB (K:Yae):Sp:=fun vs H Q _=>∃ (p n:Nat) (ll pl:Addr) (b:Bool) (qs:List Addr) (ls:List Int) (ks:List (List Int)),vs=[.int p,.int n,.ref ll,.ref pl]/\2<=p/\p<=7/\n<=300/\tot p n<=4000/\SqB b K H ll (ls.map V.int)/\H pl=some (.lst (qs.map V.ref))/\TuM H qs ks/\(∀ k∈ks,InN (num p n) k)/\(ls.length=ks.length/\ls.length<=100000)/\(∀ l∈ls,Ya3 l<=8000)/\∀ H',Same H H'->Q (.int (ZaU (num p n) ls ks).sum) H'
theorem Zm8 {f f1 f2:Addr}{fd d1 d2:FuncData} (F:Fun K "placing_reading" "placing_reading" ZhH f fd) (T:Txt mg) (CR:Cal P w K mg base 1 "reading_by" ["numbers","lengths","placing"] (Zck K) f1 d1) (CN:Cal P w K mg base 6 "level_numbers" ["p","n"] Zf0 f2 d2):FnOk P w K mg base CX0 7 f fd ["p","n","lengths","placing"] (ZiB K):=by
 refine F.ok Zn1 (fun vs H Q E h=>?_) (fun cdv A outer s H vs Q E hr h=>?_)
 ·obtain⟨p,n,ll,pl,b,qs,ls,ks,rfl,_⟩:=h;rfl
 ·obtain⟨p,n,ll,pl,b,qs,ls,ks,rfl,p2,p7,hn,h4,hL,hpl,hM,hin,hlen0,hb,k⟩:=h;have hr1:Room 1 _:=hr.mono (by decide);have hr6:Room 6 _:=hr.mono (by decide);refine⟨_,(Zao (Zav (Zap CR hr1 rfl (Zaa (Zap CN hr6 rfl (Zaa (pv 0) (Zaa (pv 1) Zad))) (Zaa (pv 2) (Zaa (pv 3) Zad)))))),?_⟩;refine⟨_,rfl,_,rfl,p,n,rfl,p2,p7,hn,h4,fun na ns H1 nna hna hNs s1=>?_⟩;refine⟨_,rfl,_,rfl,na,ll,pl,b,ns,qs,num p n,ls,ks,rfl,hna,hNs,SqB.sameB s1 hL,s1 _ _ hpl,hM.same s1,hin,hlen0.1,hlen0.2,hb,fun xs hx z hz=>?_,fun H2 s2=>k H2 (s1.trans s2)⟩
  ·have:=Zdt p n xs hx z hz;exact Zbi (by omega) (by omega)
end
end Fk41
namespace Fk41
open PySem L2 Lv
section
variable {P:Program}{w:World}{K:Yae}{mg:Str->Option Value}{base:Heap}
theorem ZkT:FnScope ["p"] ["p"] (Zac ZcD):=⟨rfl,rfl,rfl,by decide +kernel,rfl,by decide +kernel,by decide +kernel⟩
theorem Zjh {f:Addr}{fd:FuncData} (F:Fun K "first_spreads" "first_spreads" ZcD f fd) (T:Txt mg):FnOk P w K mg base CX0 1 f fd ["p"] Zen:=by
 refine okW F ZkT (fun vs H Q E h=>?_) (fun cdv A outer s H vs Q E hr h=>?_)
 ·obtain⟨p,rfl,_⟩:=h;rfl
 ·obtain⟨p,rfl,h1,h2,k⟩:=h;refine⟨_,Zax (Zih (ZnE Zbb (ZeU (Zgy rfl (ZkD ZlS ZlS) ZeV))
   (we (Za0 (own:=["reel"]) (js:=[]) (CompOk.bare (by decide +kernel)) rfl (ZaH rfl T.range (Zaa (Zal ZbZ (pv 0) Zae) Zad)) ZaB
    (fun _ _ _ _ _=>Zaj (i:=0) (by show (["reel"]:List Str).Nodup;decide +kernel) rfl (YaJ rfl) (.inr rfl)) (fun _ _ _ _ _=>ZaM) (fun _ _ _ _ _=>ZgY))))),?_⟩
  intro d hd;refine⟨Zab,[(YbE 0,.int 1)],rfl,by decide,(by show 1<=sizeLine;decide),fun l hl=>?_⟩;rw[Zmt] at hl ⊢;have r0:Rep (ZcO [] [(YbE 0,.int 1)]) (cn [0]):=(Rep.nil.put (m:=0) (c:=1) (by decide)).congr fun m=>by
   rw[Zgs,Zkk];split <;> rfl
  generalize ZcO [] [(YbE 0,V.int 1)]=kv at r0 hl ⊢;have s1:Same H (upd H d (.dK kv)):=Same.new hd;have e1:upd H d (.dK kv) d=some (.dK kv):=Zab;generalize upd H d (.dK kv)=H1 at s1 e1 hl ⊢;have s2:Same H1 (upd H1 l (.lst [.ref d])):=Same.new hl;have e2:upd H1 l (.lst [.ref d]) l=some (.lst [.ref d]):=Zab;generalize upd H1 l (.lst [.ref d])=H2 at s2 e2 ⊢;refine⟨_,rfl,_,_,rfl,rfl,(p:Int) - 1,rfl,by omega,by omega,?_⟩;have en:((p:Int) - 1).toNat=p - 1:=by omega
  rw[en];refine ZbS (fun acc i H3=>∃ qs:List Addr,Same H2 H3/\H3 acc=some (.lst (qs.map V.ref))/\DDs H3 qs (Yai i [])) (fun acc h0=>⟨[],Same.new h0,Zab,DDs.nil⟩) ?_ ?_
  ·rintro acc i H3 h0 hi ⟨qs,s3,hacc,hq⟩;intro q hq0;have hne:q≠acc:=fun z=>by rw[z,hacc] at hq0;cases hq0
   refine⟨_,(Same.new hq0) acc _ hacc,Zau (by have:=hq.1;simp at this ⊢;omega),hi,qs++[q],?_,?_,?_⟩
   ·exact (s3.put (q:=q) (s3.free hq0)).put h0
   ·rw[Zab];simp
   ·rw[List.replicate_succ'];have hq':DDs (upd (upd H3 q (.dK [])) acc (.lst (qs.map V.ref++[V.ref q]))) qs (Yai i []):=⟨hq.1,fun j r xs a b=>by
     obtain⟨kvs,e,rr⟩:=hq.2 j r xs a b;have n1:r≠q:=Zag e hq0;have n2:r≠acc:=Znd e hacc (fun z=>nomatch z);exact⟨kvs,by rw[Zaf n2,Zaf n1];exact e,rr⟩⟩
    exact hq'.snoc (kvs:=[]) (by rw[Zaf hne,Zab]) (Rep.nil.congr fun m=>by rw[Zkk])
  ·rintro acc H3 h0 ⟨qs,s3,hacc,hq⟩;have hql:=hq.1;rw[Ybk] at hql;refine⟨l,acc,_,_,rfl,rfl,s3 l _ e2,hacc,?_,fun r hr=>?_⟩
   ·exact Ya2 (Zau (by simp;omega))
   have s4:Same H3 (upd H3 r (.lst ([V.ref d]++qs.map V.ref))):=Same.new hr;refine k r (d::qs) _ (s1.free (s2.free (s3.free hr))) (by rw[Zab];rfl) ?_ (((s1.trans s2).trans s3).trans s4);exact (hq.same s4).cons (s4 _ _ (s3 _ _ (s2 _ _ e1))) r0
theorem ZoC:bootBuiltins "dict"=some (.type "dict"):=by decide +kernel
theorem scBothS:FnScope ["one","other","both","number","many"] ["one","other"] (Zac ZdV):=⟨rfl,rfl,rfl,by decide +kernel,rfl,by decide +kernel,by decide +kernel⟩
theorem Zlr {f:Addr}{fd:FuncData} (F:Fun K "both_spreads" "both_spreads" ZdV f fd) (T:Txt mg) (Td:mg "dict"=none):FnOk P w K mg base CX0 1 f fd ["one","other"] Zeq:=by
 refine F.ok scBothS (fun vs H Q E h=>?_) (fun cdv A outer s H vs Q E hr h=>?_)
 ·obtain⟨a,b,k1,k2,f,g,rfl,_⟩:=h;rfl
 ·obtain⟨a,b,k1,k2,f,g,rfl,ha,hb,r1,r2,f0,g0,fb,gb,k⟩:=h;have hu:=Zpa hr;refine⟨_,Zan (Zaq (i:=2) scBothS.nd rfl (YaJ rfl) (Zba Zgt rfl Td ZoC (Zaa (pv 0) Zad)))
   (Zan (Zn7 (Zbd Ybf rfl (ZgV (Zey (pv 1))) (ZbF rfl (Zar (Zaj (i:=3) scBothS.nd rfl (YaJ rfl)) (Zar (Zaj (i:=4) scBothS.nd rfl (YaJ rfl)) ZaT)))
    (Zao (ZmS hu (pv 2) (pv 3) (Zal ZaP (Zk5 hu (pv 2) (pv 3) Zae ⟨rfl,rfl,rfl,rfl⟩) (pv 4)) rfl))))
   (Zao (Zav (pv 2)))),?_⟩
  refine⟨_,rfl,a,k1,rfl,.inl ha,fun d hd=>?_⟩;have nbd:b≠d:=Zag hb hd;refine .inl ⟨b,k2,by rw[Zaf nbd];exact hb,fun o=>?_⟩;refine⟨_,rfl,b,k2,rfl,.inr ⟨o,Zab⟩,fun v hv=>⟨v,b,o,k2,rfl,Zab,by rw[Zaf (Zag Zab hv)];exact Zab,?_⟩⟩;have nvb:v≠b:=fun z=>by rw[z,Zab] at hv;cases hv
  have hvH:H v=none:=by
   have:=hv;rw[Zaf nvb] at this;exact (Same.new hd).free this
  have nvd:v≠d:=fun z=>by rw[z,Zaf (Ybq nbd),Zab] at hv;cases hv
  refine ZjZ (kvs:=k2) (fun i σ H2=>∃ (kvs:List (Key × V)) (o3 o4:Option V),σ=[some (.ref a),some (.ref b),some (.ref d),o3,o4]/\H2 b=some (.frz o (.dK k2))/\H2 d=some (.dK kvs)/\(∀ c u,H c=some u->c≠b->H2 c=some u) /\
   Rep kvs (fun m=>f m+tkn g ((k2.take i).map (·.1)) m)) ?_ (fun i σ H2 _ z=>by obtain⟨_,_,_,_,e,_⟩:=z;exact e) ?_ ?_
  ·refine⟨k1,none,none,rfl,?_,?_,fun c u hc nc=>?_,r1.congr fun m=>?_⟩
   ·rw[Zaf (Ybq nvb),Zab]
   ·rw[Zaf (Ybq nvd),Zaf (Ybq nbd),Zab]
   ·rw[Zaf (Zag hc hvH),Zaf nc,Zaf (Zag hc hd)];exact hc
   ·rw[YbQ,Yb9,Zir,YdZ]
  ·rintro i kk vv p σ H2 hi ⟨kvs,o3,o4,rfl,eb,ed,sm,rr⟩ hp;obtain⟨m,rfl,rfl,hz⟩:=r2.at (Yau hi);have npd:d≠p:=Zag ed hp;have hnot:=ZjH r2.2.1 hi;refine⟨p,_,rfl,SqT.of Zab,rfl,_,_,rfl,_,_,rfl,rfl,?_⟩;refine⟨_,rfl,d,rfl,.inl ⟨kvs,.inl (by rw[Zaf npd];exact ed)⟩,_,rfl,_,DGet.k (k:=YbE m) (by rw[Zaf npd];exact ed),_,rfl,?_⟩;rw[rr.get m,Zea hnot,YdZ];refine⟨_,_,rfl,rfl,_,rfl,_,rfl,d,_,rfl,DPut.k (k:=YbE m) (by rw[Zaf npd];exact ed) ?_,?_⟩
   ·have:=rr.len (B:=400) fun j hj=>by
     by_cases e:f j=0
     ·exact gb j fun z=>hj (by rw[e,ZgD z];rfl)
     ·exact fb j e
    exact Zau (by omega)
   ·refine⟨_,_,_,rfl,?_,Zab,fun c u hc nc=>?_,(rr.put (m:=m) (c:=f m+g m) ?_).congr fun j=>?_⟩
    ·rw[Zaf nbd,Zaf (Zag eb hp)];exact eb
    ·rw[Zaf (Zag hc hd),Zaf (Zag (sm c u hc nc) hp)];exact sm c u hc nc
    ·have:=f0 m;have:=g0 m;omega
    ·rw[Zfp hi,ZgE hnot];by_cases e:j=m
     ·rw[if_pos e,if_pos e,e]
     ·rw[if_neg e,if_neg e]
  ·rintro σ H2 ⟨kvs,o3,o4,rfl,eb,ed,sm,rr⟩;refine⟨eb,_,rfl,?_⟩;refine k d kvs _ hd (by rw[Zaf (Ybq nbd)];exact ed) (rr.congr fun m=>?_) fun c u hc=>?_
   ·rw[YaO,Zis r2]
   ·by_cases e:c=b
    ·subst e;rw[Zab,<- hb,hc]
    ·rw[Zaf e];exact sm c u hc e
theorem scNextS:FnScope ["spreads","first"] ["spreads"] (Zac Zc7):=⟨rfl,rfl,rfl,by decide +kernel,rfl,by decide +kernel,by decide +kernel⟩
theorem cutT {r0:Addr}{rr:List Addr}:cutV ((r0::rr).map V.ref) (some 1) none=rr.map V.ref:=by
 unfold cutV;show (((r0::rr).map V.ref).drop (HT.sIx ((r0::rr).map V.ref).length 0 (some ((1:Nat):Int)))).take (HT.sIx ((r0::rr).map V.ref).length ((r0::rr).map V.ref).length none - HT.sIx ((r0::rr).map V.ref).length 0 (some ((1:Nat):Int)))=_;rw[HT.sIx_nat];rw[show min 1 ((r0::rr).map V.ref).length=1 by simp];show (rr.map V.ref).take (((r0::rr).map V.ref).length - 1)=_;rw[Ybn (by simp)]
theorem Zlj {f f1:Addr}{fd d1:FuncData} (F:Fun K "next_spreads" "next_spreads" Zc7 f fd) (T:Txt mg) (CB:Cal P w K mg base 1 "both_spreads" ["one","other"] Zeq f1 d1):FnOk P w K mg base CX0 2 f fd ["spreads"] (Zeh Zdy):=by
 refine okW F scNextS (fun vs H Q E h=>?_) (fun cdv A outer s H vs Q E hr h=>?_)
 ·obtain⟨a,rs,N,rfl,_⟩:=h;rfl
 ·obtain⟨a,rs,N,rfl,hA,hD,hN,hN7,hB,k⟩:=h;refine⟨_,Zah (Zgw (i:=1) scNextS.nd rfl (Ydb rfl) (ZnG (we (Zk6 (own:=["number","many"]) (js:=[]) (CompOk.bare (by decide +kernel)) rfl (ZgV (Zey (ZaK Zaz (pv 0) Zae (fun _ _=>rfl)))) (Zfv (i:=0) (k:=1) (K:=K))
    (fun _ _ _ _ _=>ZcJ K rfl (Zar (Zaj (i:=0) (by show (["number","many"]:List Str).Nodup;decide +kernel) rfl (YaJ rfl) (.inr rfl)) (Zar (Zaj (i:=1) (by show (["number","many"]:List Str).Nodup;decide +kernel) rfl (YaJ rfl) (.inr rfl)) ZaT))) (fun _ _ _ _ _=>ZaM)
    (fun _ _ _ _ _=>Zal ZaP (pv 0) Zae) (fun _ _ _ _ _=>pv 1)))))
   (Zax (Zih (ZnE Zbb (we (Za0 (own:=["spread"]) (js:=[1]) (CompOk.by (sc:=Zac Zc7) (N:=["spreads","first"]) rfl rfl (by decide +kernel)) rfl (ZiV (Za7 Zb7 (pv 0) (Zbk Zae) Zbn)) ZaB
    (fun _ _ _ _ _=>Zaj (i:=0) (by show (["spread","first"]:List Str).Nodup;decide +kernel) rfl (YaJ rfl) (.inr rfl)) (fun _ _ _ _ _=>ZaM) (fun _ _ _ _ _=>Zap CB hr rfl (Zaa (pv 1) (Zaa (pv 0) Zad)))))
    (ZeU (Zgy rfl (we (pv 1)) ZeV))))),?_⟩
  obtain⟨x0,Nr,rfl⟩:∃ x0 Nr,N=x0::Nr:=by
   cases N with
   | nil=>simp at hN
   | cons x y=>exact⟨x,y,rfl⟩
  obtain⟨r0,rr,rfl⟩:∃ r0 rr,rs=r0::rr:=by
   cases rs with
   | nil=>have:=hD.1;simp at this
   | cons x y=>exact⟨x,y,rfl⟩
  obtain⟨k0,hr0,rp0⟩:=hD.2 0 r0 x0 rfl rfl;have nar:a≠r0:=Znd hA hr0 (fun z=>nomatch z);refine .inl ⟨r0,k0,hr0,fun o=>?_⟩;refine⟨_,rfl,a,_,0,.ref r0,rfl,rfl,SqL.of (by rw[Zaf nar];exact hA),Zbx (j:=0) rfl,r0,k0,rfl,.inr ⟨o,Zab⟩,fun v hv=>⟨v,r0,o,k0,rfl,Zab,by rw[Zaf (Zag Zab hv)];exact Zab,?_⟩⟩;have nvr:v≠r0:=fun z=>by rw[z,Zab] at hv;cases hv
  have hvH:H v=none:=by rw[Zaf nvr] at hv;exact hv
  have hnn:∀ acc,upd (upd H r0 (.frz o (.dK k0))) v (VwI v r0) acc=none->acc≠r0/\H acc=none:=fun acc z=>by
   have n1:acc≠v:=fun y=>by rw[y,Zab] at z;cases z
   rw[Zaf n1] at z;have n2:acc≠r0:=fun y=>by rw[y,Zab] at z;cases z
   rw[Zaf n2] at z;exact⟨n2,z⟩
  refine Zgo (kvs:=k0) (fun acc i H2=>∃ kvs:List (Key × V),H2 acc=some (.dK kvs)/\H2 r0=some (.frz o (.dK k0))/\(∀ c u,H c=some u->c≠r0->H2 c=some u)/\Rep kvs (fun m=>tkn (cn x0) ((k0.take i).map (·.1)) (m - 1))) ?_ (fun acc i H2 h0 _ z=>by obtain⟨_,_,e,_⟩:=z;exact e) ?_ ?_
  ·intro acc h0;obtain⟨n2,hacc⟩:=hnn acc h0;refine⟨[],Zab,?_,fun c u hc nc=>?_,Rep.nil.congr fun m=>?_⟩
   ·rw[Zaf (Ybq n2),Zaf (Ybq nvr),Zab]
   ·rw[Zaf (Zag hc hacc),Zaf (Zag hc hvH),Zaf nc];exact hc
   ·rw[YbQ,Yb9,Zir]
  ·rintro acc i kk vv p H2 h0 hi ⟨kvs,ea,er,sm,rp⟩ hp;obtain⟨n2,hacc⟩:=hnn acc h0;obtain⟨m,rfl,rfl,hz⟩:=rp0.at (Yau hi);have hi':=(Yad.mp hi).1
   have hnot:=ZjH rp0.2.1 hi;refine⟨p,_,rfl,SqT.of Zab,rfl,_,_,rfl,_,_,rfl,rfl,?_⟩;refine⟨_,rfl,_,_,rfl,rfl,_,rfl,YbE (m+1),kvs,rfl,by rw[Zaf (Zag ea hp)];exact ea,?_,hi',_,Zab,?_,fun c u hc nc=>?_,(rp.put (m:=m+1) (c:=cn x0 m) hz).congr fun j=>?_⟩
   ·have:=rp.len (B:=400) fun j hj=>by
     have h1:cn x0 (j - 1)≠0:=fun z=>hj (ZgD z);have:=hB x0 Yaq _ (cn_ne.mp h1);omega
    exact Zau (by omega)
   ·rw[Zaf (Ybq n2),Zaf (Zag er hp)];exact er
   ·rw[Zaf (Zag hc hacc),Zaf (Zag (sm c u hc nc) hp)];exact sm c u hc nc
   ·rw[Zfp hi,ZgE hnot];by_cases e:j=m+1
    ·rw[if_pos e,if_pos (by omega)]
    ·rw[if_neg e,if_neg (by omega)]
  ·rintro acc H2 h0 ⟨k1,ea,er,sm,rp⟩;obtain⟨n2,hacc⟩:=hnn acc h0;have rp1:Rep k1 (cn (fstN (x0::Nr))):=rp.congr fun m=>by
    rw[YaO,Zis rp0,fstN,List.headD_cons,Zhm]
   refine⟨er,?_⟩;have s1:Same H (upd H2 r0 (.dK k0)):=fun c u hc=>by
    by_cases e:c=r0
    ·subst e;rw[Zab,<- hr0,hc]
    ·rw[Zaf e];exact sm c u hc e
   have e1:upd H2 r0 (.dK k0) acc=some (.dK k1):=by rw[Zaf n2];exact ea
   generalize upd H2 r0 (.dK k0)=H3 at s1 e1 ⊢;have hD3:=(hD.same s1).tail;refine⟨_,rfl,1,rfl,a,_,rfl,SqL.of (s1 a _ hA),fun p1 hp1=>⟨p1,rfl,⟨_,SqL.of Zab⟩,?_⟩⟩;rw[cutT];have s2:Same H3 (upd H3 p1 (.lst (rr.map V.ref))):=Same.new hp1;have e2:upd H3 p1 (.lst (rr.map V.ref)) p1=some (.lst (rr.map V.ref)):=Zab;generalize upd H3 p1 (.lst (rr.map V.ref))=H4 at s2 e2 ⊢;have hrl:=hD3.1;have hNr:Nr.length<=6:=by simpa using hN7
   refine Zki (xs:=rr.map V.ref) (fun acc2 i H5=>∃ qs:List Addr,Same H4 H5/\H5 acc2=some (.lst (qs.map V.ref))/\(∀ q∈qs,q≠acc2)/\DDs H5 qs ((Nr.take i).map (fstN (x0::Nr)++·))) (fun acc2 h2=>⟨[],Same.new h2,Zab,(fun q hq=>nomatch hq),DDs.nil⟩) (fun acc2 i H5 h2 _ z=>by obtain⟨_,sz,_⟩:=z;exact SqL.of (sz _ _ e2)) ?_ ?_
   ·rintro acc2 i x H5 h2 hx ⟨qs,s5,e5,ne5,hq5⟩;obtain⟨r,hr',rfl⟩:=Za6 hx;have hi:=(Yad.mp hr').1
    obtain⟨xs,k2,hxs,hk2,rp2⟩:=(hD3.same (s2.trans s5)).at hr';refine⟨_,rfl,_,rfl,acc,r,k1,k2,cn (fstN (x0::Nr)),cn xs,rfl,s5 _ _ (s2 _ _ e1),hk2,rp1,rp2,ZfE _,ZfE _,fun m hm=>?_,fun m hm=>?_,fun l kvs H6 hl6 e6 rp6 s6=>?_⟩
    ·rw[fstN,List.headD_cons,Zhm] at hm;have:=hB x0 Yaq _ (cn_ne.mp hm);omega
    ·have:=hB xs (Yar _ (Yau hxs)) _ (cn_ne.mp hm);omega
    ·have nla:l≠acc2:=fun z=>by rw[z,e5] at hl6;cases hl6
     refine⟨_,s6 _ _ e5,Zau (by have:=hq5.1;simp at this ⊢;omega),by rw[Yac];exact hi,qs++[l],(s5.trans s6).put h2,by rw[Zab];simp,fun q hq=>?_,?_⟩
     ·rcases Yaj.mp hq with z | z
      ·exact ne5 q z
      ·rw[YaF.mp z];exact nla
     ·rw[Ybe,hxs];have hq6:DDs (upd H6 acc2 (.lst (qs.map V.ref++[V.ref l]))) qs ((Nr.take i).map (fstN (x0::Nr)++·)):=⟨hq5.1,fun j q ys a b=>by
       obtain⟨kv,e,rr⟩:=hq5.2 j q ys a b;exact⟨kv,by rw[Zaf (ne5 q (Yau a))];exact s6 _ _ e,rr⟩⟩
      rw[Yay];exact hq6.snoc (by rw[Zaf nla];exact e6) (rp6.congr fun m=>by rw[Zmi])
   ·rintro acc2 H5 h2 ⟨qs,s5,e5,ne5,hq5⟩;have e5a:=s5 _ _ (s2 _ _ e1);have ql:=hq5.1;rw[Yac,Yac,hrl,YaO] at ql;refine⟨_,rfl,(by show 1<=sizeLine;decide),fun p2 hp2=>?_⟩;have s6:Same H5 (upd H5 p2 (.lst [V.ref acc])):=Same.new hp2;refine⟨acc2,p2,_,_,rfl,rfl,s6 _ _ e5,Zab,?_,fun p3 hp3=>?_⟩
    ·exact Ya2 (Zau (by simp;omega))
    have s7:=s6.trans (Same.new (o:=.lst (qs.map V.ref++[V.ref acc])) hp3);have sAll:=((s1.trans s2).trans s5).trans s7;refine k p3 (qs++[acc]) _ (((s1.trans s2).trans s5).trans s6 |>.free hp3) (by rw[Zab];simp) ?_ sAll;rw[Yac,hrl,YaO] at hq5;exact (hq5.same s7).snoc (s7 _ _ e5a) rp1
theorem scOverS:FnScope ["spreads","spread","on_reel"] ["spreads"] (Zac ZdO):=⟨rfl,rfl,rfl,by decide +kernel,rfl,by decide +kernel,by decide +kernel⟩
theorem Zlh {f f1:Addr}{fd d1:FuncData} (F:Fun K "spread_over" "spread_over" ZdO f fd) (T:Txt mg) (CB:Cal P w K mg base 1 "both_spreads" ["one","other"] Zeq f1 d1):FnOk P w K mg base CX0 2 f fd ["spreads"] ZfZ:=by
 refine okW F scOverS (fun vs H Q E h=>?_) (fun cdv A outer s H vs Q E hr h=>?_)
 ·obtain⟨a,rs,N,rfl,_⟩:=h;rfl
 ·obtain⟨a,rs,N,rfl,hA,hD,hN7,hB,k⟩:=h;refine⟨_,Zah (Zgw (i:=1) scOverS.nd rfl (YaJ rfl) (we ZgY))
   (Zah (ws (Zbd Ybf rfl (ZiV (pv 0)) (Zaj (i:=2) scOverS.nd rfl (YaJ rfl)) (Zao (Zaq (i:=1) scOverS.nd rfl (YaJ rfl) (Zap CB hr rfl (Zaa (pv 1) (Zaa (pv 2) Zad)))))))
   (Zax (Zih (we (Zba ZaR rfl T.tuple ZbJ (Zaa (Zam (Zh9 rfl) rfl T.sorted ZeR (Zaa (Zey (pv 1)) Zad)) Zad)))))),?_⟩
  intro d hd;have s1:Same H (upd H d (.dK [])):=Same.new hd;have e1:upd H d (.dK []) d=some (.dK []):=Zab;generalize upd H d (.dK [])=H1 at s1 e1 ⊢;refine⟨_,rfl,a,rfl,⟨_,SqL.of (s1 _ _ hA)⟩,ZlF (xs:=rs.map V.ref) (fun i σ H2=>∃ (d:Addr) (kvs:List (Key × V)) (o2:Option V),σ=[some (.ref a),some (.ref d),o2]/\H2 d=some (.dK kvs)/\Rep kvs (cn (N.take i).flatten)/\Same H H2)
   ⟨d,[],none,rfl,e1,Rep.nil.congr fun m=>by rw[YbQ,List.flatten_nil,Zkk],s1⟩ (fun i σ H2 _ z=>by obtain⟨_,_,_,_,_,_,sz⟩:=z;exact SqL.of (sz _ _ hA)) ?_ ?_⟩
  ·rintro i x σ H2 hx ⟨d,kvs,o2,rfl,e2,rp,s2⟩;obtain⟨r,hr',rfl⟩:=Za6 hx;obtain⟨xs,k2,hxs,hk2,rp2⟩:=(hD.same s2).at hr';refine⟨_,rfl,_,rfl,d,r,kvs,k2,_,_,rfl,e2,hk2,rp,rp2,ZfE _,ZfE _,?_,?_,fun l kv H6 hl6 e6 rp6 s6=>?_⟩
   ·exact fun m hm=>ZnA (N:=N.take i) (fun ys hy=>hB ys (Ybt hy)) m hm
   ·exact fun m hm=>hB xs (Yau hxs) m (cn_ne.mp hm)
   ·refine⟨l,kv,_,rfl,e6,rp6.congr fun m=>?_,s2.trans s6⟩;rw[Ybe,hxs,Ycz,Zmi];simp
  ·rintro σ H2 ⟨d,kvs,o2,rfl,e2,rp,s2⟩;rw[Yac,hD.1,YaO] at rp;refine⟨_,rfl,d,kvs,rfl,.inl e2,fun v hv=>⟨v,d,kvs.map Lv.dec,rfl,Zab,.inl ?_,fun l qs ms H3 hl hq hp hs e3 ht s3=>?_⟩⟩
   ·rw[Zaf (Zag e2 hv),e2];exact congrArg (fun z=>some (HO.dK z)) rp.dec
   ·have s4:Same H2 H3:=(Same.new hv).trans s3;refine⟨l,_,rfl,.inl ⟨SqL.of e3,fun l2 hl2=>?_⟩⟩;have s5:=s4.trans (Same.new (o:=.tup (qs.map V.ref)) hl2);refine k l2 qs ms _ (s2.free (s4.free hl2)) Zab (TTs.same ht (Same.new hl2)) (ZnW rp hp hs) (s2.trans s5)
theorem scAfterS:FnScope ["p","n","following","spreads","level"] ["p","n","following"] (Zac ZcH):=⟨rfl,rfl,rfl,by decide +kernel,rfl,by decide +kernel,by decide +kernel⟩
theorem Zjk {f f1 f2 f3:Addr}{fd d1 d2 d3:FuncData}{y:Str}{S:Nat->Nat->List (List Int)}{nx:List (List Int)->List (List Int)}{top:Nat} (htop:top<=300) (S0:∀ p,S p 0=num0 p) (S1:∀ p n,S p (n+1)=nx (S p n)) (SB:∀ p n:Nat,2<=p->Bd n (S p n)) (SL:∀ p n:Nat,2<=p->(S p n).length=p)
  (F:Fun K "spread_after" "spread_after" ZcH f fd) (T:Txt mg) (CF:Cal P w K mg base 1 "first_spreads" ["p"] Zen f1 d1) (CN:Cal P w K mg base 2 y ["spreads"] (Zeh nx) f2 d2) (CO:Cal P w K mg base 2 "spread_over" ["spreads"] ZfZ f3 d3):FnOk P w K mg base CX0 3 f fd ["p","n","following"] (Zer f2 S):=by
 refine F.ok scAfterS (fun vs H Q E h=>?_) (fun cdv A outer s H vs Q E hr h=>?_)
 ·obtain⟨p,n,rfl,_⟩:=h;rfl
 ·obtain⟨p,n,rfl,h1,h2,h3,k⟩:=h;have hr1:Room 1 _:=hr.mono (by decide);refine⟨_,Zan (Zaq (i:=3) scAfterS.nd rfl (YaJ rfl) (Zap CF hr1 rfl (Zaa (pv 0) Zad)))
   (Zan (Zbd Ybf rfl (ZaH rfl T.range (Zaa (pv 1) Zad)) (Zaj (i:=4) scAfterS.nd rfl (YaJ rfl)) (Zao (Zaq (i:=3) scAfterS.nd rfl (YaJ rfl) (Zf9 2 CN hr (Zaa (pv 3) Zad)))))
   (Zao (Zav (Zap CO hr rfl (Zaa (pv 3) Zad))))),?_⟩
  refine⟨_,rfl,p,rfl,h1,h2,fun l qs H1 hl0 hl1 hq1 s1=>?_⟩;refine⟨_,rfl,n,rfl,by omega,by omega,Za2 (fun i σ H2=>∃ (l:Addr) (qs:List Addr) (o:Option V),σ=[some (.int p),some (.int n),some (.ref f2),some (.ref l),o]/\H l=none/\H2 l=some (.lst (qs.map V.ref))/\DDs H2 qs (S p i)/\Same H H2)
   ⟨l,qs,none,rfl,hl0,hl1,by rw[S0];exact hq1,s1⟩ ?_ ?_⟩
  ·rintro i σ H2 hi ⟨l,qs,o,rfl,hl0,hl2,hq,s2⟩;have hlen:=SL p i h1;refine⟨rfl,_,rfl,l,qs,S p i,rfl,hl2,hq,by omega,by omega,(SB p i h1).mono (by omega),fun l3 qs3 H3 h30 h3 hq3 s3=>?_⟩;exact⟨l3,qs3,_,rfl,s2.free h30,h3,by rw[S1];exact hq3,s2.trans s3⟩
  ·rintro σ H2 ⟨l,qs,o,rfl,hl0,hl2,hq,s2⟩;have en:((n:Int)).toNat=n:=by omega
   rw[en] at hq;have hlen:=SL p n h1;refine⟨_,rfl,l,qs,S p n,rfl,hl2,hq,by omega,(SB p n h1).mono (by omega),fun l3 qs3 L H3 h30 h3 ht sp s3=>?_⟩;exact k l3 qs3 L H3 (s2.free h30) h3 ht sp (s2.trans s3)
theorem Zn0:FnScope ["p","n"] ["p","n"] (Zac ZhG):=⟨rfl,rfl,rfl,by decide +kernel,rfl,by decide +kernel,by decide +kernel⟩
theorem Zm7 {f f1 f2 f3 f4:Addr}{fd d1 d2 d3 d4:FuncData} (F:Fun K "spread_of" "spread_of" ZhG f fd) (T:Txt mg) (CW:Cal P w K mg base 2 "check_ways" ["p"] ZdI f1 d1) (CL:CalD P w K mg base 2 "check_level" ["n","last"] [.int 300] ZcT f2 d2) (CN:Cal P w K mg base 2 "next_spreads" ["spreads"] (Zeh Zdy) f3 d3) (CA:Cal P w K mg base 3 "spread_after" ["p","n","following"] (Zer f3 num) f4 d4):FnOk P w K mg base CX0 4 f fd ["p","n"] (ZiA num 300):=by
 refine F.ok Zn0 (fun vs H Q E h=>?_) (fun cdv A outer s H vs Q E hr h=>?_)
 ·obtain⟨p,n,rfl,_⟩:=h;rfl
 ·obtain⟨p,n,rfl,h1,h2,h3,k⟩:=h;have hr2:Room 2 _:=hr.mono (by decide);refine⟨_,Zan (ZaX (Zap CW hr2 rfl (Zaa (pv 0) Zad))) (Zan (ZaX (Zi4 CL hr2 rfl (Zaa (pv 1) Zad)))
   (Zao (Zav (Zap CA hr rfl (Zaa (pv 0) (Zaa (pv 1) (Zaa (Zi2 CN rfl) Zad))))))),?_⟩
  refine⟨_,rfl,(p:Int),rfl,by omega,by omega,?_⟩;refine⟨_,rfl,(n:Int),300,rfl,by omega,by omega,?_⟩;exact⟨_,rfl,_,rfl,p,n,rfl,h1,h2,h3,k⟩
theorem scLeastS:FnScope ["spread","rows","reading","left","number","many"] ["spread","rows"] (Zac Zcz):=⟨rfl,rfl,rfl,by decide +kernel,rfl,by decide +kernel,by decide +kernel⟩
theorem ZmU {H:Hp}{qs:List Addr}{L:List (Int × Int)} (ht:TTs H qs (L.map pr2)) {i:Nat}{x:V} (hx:(qs.map V.ref)[i]?=some x):∃ (q:Addr) (m c:Int),x=.ref q/\L[i]?=some (m,c)/\H q=some (.tup [.int m,.int c])/\i<qs.length:=by
 obtain⟨q,hq,rfl⟩:=Za6 hx;have hi:=(Yad.mp hq).1
 have hi2:i<L.length:=by have:=ht.1;rw[Yac] at this;omega
 have e:L[i]?=some L[i]:=Yaa hi2;exact⟨q,_,_,rfl,e,ht.2 i q (pr2 L[i]) hq (by rw[Yam,e];rfl),hi⟩
theorem Zjd {f:Addr}{fd:FuncData} (F:Fun K "least_of_spread" "least_of_spread" Zcz f fd) (T:Txt mg):FnOk P w K mg base CX0 1 f fd ["spread","rows"] Zej:=by
 refine okW F scLeastS (fun vs H Q E h=>?_) (fun cdv A outer s H vs Q E hr h=>?_)
 ·obtain⟨l,qs,M,r,rfl,_⟩:=h;rfl
 ·obtain⟨l,qs,M,r,rfl,hl,ht,hb,k⟩:=h;refine⟨_,(Zah (ws (Zaq (i:=2) scLeastS.nd rfl (YaJ rfl) Zae))
   (Zah (ws (Zaq (i:=3) scLeastS.nd rfl (YaJ rfl) (pv 1)))
   (Zah (ws (Zbd Ybf rfl (Zff (pv 0)) (ZbF rfl (Zar (Zaj (i:=4) scLeastS.nd rfl (YaJ rfl)) (Zar (Zaj (i:=5) scLeastS.nd rfl (YaJ rfl)) ZaT)))
   (WSs.out (Zah (ws (Zl3 (i:=2) scLeastS.nd rfl (YaJ rfl) (Zal Zb1 (pv 4) (Zam (Zdr rfl) rfl T.min ZlO (Zaa (pv 5) (Zaa (pv 3) Zad)))) Zor))
    (Zax (ws (Zl3 (i:=3) scLeastS.nd rfl (YaJ rfl) (Zam (Zdr rfl) rfl T.min ZlO (Zaa (pv 5) (Zaa (pv 3) Zad))) Zoq)))))))
   (Zax (ws (Zav (Zk3 (ZaO Zi7 (pv 3) Zae (ZaS _)) Zi0 (pv 2)))))))),?_⟩
  refine⟨_,rfl,?_⟩;refine⟨_,rfl,l,rfl,⟨_,SqT.of hl⟩,?_⟩;have hql:qs.length=M.length:=by have:=ht.1;rwa [Yac] at this
  refine Znt (xs:=qs.map V.ref) (fun i σ H2=>∃ (o4 o5:Option V),σ=[some (.ref l),some (.int r),some (.int (lsF (M.take i) (0,r)).1),some (.int (lsF (M.take i) (0,r)).2),o4,o5]/\Same H H2)
   ⟨_,_,rfl,Same.refl _⟩ (fun i σ H2 _ z=>by obtain⟨_,_,_,sz⟩:=z;exact SqT.of (sz _ _ hl)) ?_ ?_
  ·rintro i x σ H2 hx ⟨o4,o5,rfl,s2⟩;obtain⟨q,m,c,rfl,hMi,hq,hi⟩:=ZmU ht hx;have hmb:=hb _ (Yau hMi);refine⟨q,_,rfl,SqT.of (s2 _ _ hq),rfl,_,_,rfl,_,_,rfl,rfl,?_⟩;refine⟨_,rfl,_,rfl,_,rfl,_,rfl,_,_,rfl,_,_,rfl,rfl,.inl ⟨by omega,by omega⟩,_,_,rfl,rfl,?_⟩;refine⟨_,rfl,_,rfl,_,rfl,_,_,rfl,_,_,rfl,rfl,?_⟩;refine⟨some (.int m),some (.int c),?_,s2⟩;rw[Zlx hMi];rfl
  ·rintro σ H2 ⟨o4,o5,rfl,s2⟩;rw[Yac,hql,YaO];refine⟨_,rfl,_,_,rfl,rfl,_,rfl,ite2 (fun hc=>?_) fun hc=>?_⟩
   ·have:=k H2 s2
    rwa [if_pos (of_decide_eq_true hc)] at this
   ·have:=k H2 s2;rw[if_neg (fun z=>hc (decide_eq_true z))] at this;exact⟨_,rfl,this⟩
end
end Fk41
namespace Fk41
open PySem L2 Lv
section
variable {P:Program}{w:World}{K:Yae}{mg:Str->Option Value}{base:Heap}
theorem ZkQ:FnScope ["numbers","lengths","placing"] ["numbers","lengths","placing"] (Zac Zb8):=⟨rfl,rfl,rfl,by decide +kernel,rfl,by decide +kernel,by decide +kernel⟩
theorem SqB.sameP {b:Bool}{H H':Hp}{a:Addr}{xs:List V} (e:Same H H') (h:SqB b K H a xs):SqB b K H' a xs:=by
 cases b
 ·exact e.tup h
 ·exact e.seq h
theorem Zi8 {f:Addr}{fd:FuncData} (F:Fun K "reading_by" "reading_by" Zb8 f fd) (T:Txt mg):FnOk P w K mg base CX0 1 f fd ["numbers","lengths","placing"] (Zck K):=by
 refine F.ok ZkQ (fun vs H Q E h=>?_) (fun cdv A outer s H vs Q E hr h=>?_)
 ·obtain⟨a,ll,pl,b,rs,qs,N,ls,ks,rfl,_⟩:=h;rfl
 ·obtain⟨a,ll,pl,b,rs,qs,N,ls,ks,rfl,hA,hT,hL,hP,hM,hin,hlen,hl9,hb1,hb2,k⟩:=h;refine⟨_,Zao (Zav (Zam (ZbI rfl) rfl T.sum Zib (Zaa (Za0 (own:=["length","reel","place"]) (js:=[0]) (CompOk.by (sc:=Zac Zb8) (N:=["numbers","lengths","placing"]) rfl rfl (by decide +kernel)) rfl (ZiT rfl T.zip (Zaa (pv 1) (Zaa (pv 2) Zad))) (Zh2 (i:=0) (k:=1) (m:=2) (K:=K))
    (fun _ _ _ _ _=>ZcJ K rfl (Zar (Zaj (i:=0) (by show (["length","reel","place","numbers"]:List Str).Nodup;decide +kernel) rfl (YaJ rfl) (.inr rfl)) (Zar (ZcJ K rfl (Zar (Zaj (i:=1) (by show (["length","reel","place","numbers"]:List Str).Nodup;decide +kernel) rfl (YaJ rfl) (.inr rfl)) (Zar (Zaj (i:=2) (by show (["length","reel","place","numbers"]:List Str).Nodup;decide +kernel) rfl (YaJ rfl) (.inr rfl)) ZaT))) ZaT))) (fun _ _ _ _ _=>ZaM)
    (fun _ _ _ _ _=>Zal Zm2 (pv 0) (ZaK (Zg9 K) (ZaK (Zg9 K) (pv 3) (pv 1) (fun _ _=>rfl)) (pv 2) (fun _ _=>rfl)))) Zad))),?_⟩
  have hz:100000<sizeLine:=by decide
  refine⟨_,rfl,_,rfl,b,true,ll,pl,rfl,⟨_,hL⟩,⟨_,SqL.of hP⟩,?_⟩;refine ZlI (b1:=b) (b2:=true) (xs:=ls.map V.int) (ys:=qs.map V.ref) (by rw[Yac,Yac,hM.len];omega) (fun acc i H2=>Same H H2/\H2 acc=some (.lst ((ZaU N (ls.take i) (ks.take i)).map V.int))) (fun acc h0=>⟨Same.new h0,Zab⟩) (fun acc i H2 h0 _ p=>⟨SqB.sameP p.1 hL,SqL.of (p.1 _ _ hP)⟩) ?_ ?_
  ·rintro acc i x y u H2 h0 hx hy ⟨s2,hacc⟩ nu;obtain⟨l,hl,rfl⟩:=Zcc hx;obtain⟨q,hq,rfl⟩:=ZcL hy;have hil:=(Yad.mp hl).1
   obtain⟨kk,hk,hqk⟩:=hM.at hq;obtain⟨r,p,xs,rfl,hr',hp⟩:=hin kk (Yau hk);have su:Same H2 (upd H2 u (.tup [.int l,.ref q])):=Same.new nu;have hu3:upd H2 u (.tup [.int l,.ref q]) u=some (.tup [.int l,.ref q]):=Zab;generalize upd H2 u (.tup [.int l,.ref q])=H3 at su hu3 ⊢;have s3:=s2.trans su;have hq3:H3 q=some (.tup [.int (r:Int),.int (p:Int)]):=s3 _ _ hqk;have hrl:=(Yad.mp hr').1
   obtain⟨ra,hra⟩:∃ ra,rs[r]?=some ra:=⟨_,Yaa (by rw[hT.1];exact hrl)⟩
   have hrow:=s3 _ _ (hT.2 r ra xs hra hr');have hnum:numV N [(r:Int),(p:Int)]=xs[p]:=by
    unfold numV;simp[Yat,hr',hp]
   refine⟨u,_,rfl,SqT.of hu3,rfl,_,_,rfl,_,_,rfl,q,_,rfl,SqT.of hq3,rfl,_,_,rfl,_,_,rfl,rfl,rfl,?_⟩;refine⟨_,rfl,_,rfl,_,rfl,a,_,(r:Int),.ref ra,rfl,rfl,SqT.of (s3 _ _ hA),Zbx (by rw[Yam,hra];rfl),_,rfl,ra,_,(p:Int),.int xs[p],rfl,rfl,SqT.of hrow,Zbx (by rw[Yam,Yaa hp];rfl),?_⟩;refine⟨l,xs[p],rfl,rfl,⟨8000,8000,hb1 l (Yau hl),hb2 xs (Yau hr') _ (Ybw hp),by decide⟩,?_⟩;refine⟨_,su _ _ hacc,?_,by rw[Yac];exact hil,s3.put h0,?_⟩
   ·rw[Yac];unfold ZaU;rw[List.length_zipWith,Yaz,Yaz];omega
   ·rw[Zab,ZhK hl hk,Yay,hnum];rfl
  rintro acc H2 h0 ⟨s2,hacc⟩;rw[Yac,YaO,hlen,YaO] at hacc;exact⟨acc,_,rfl,SqL.of hacc,k H2 s2⟩
theorem Zgh {K:Yae}:Yd3 K (.type "tuple") (["list","tuple"].map YbV)=some true:=by with_unfolding_all rfl
theorem ZkS:FnScope ["thing"] ["thing"] (Zac Zcy):=⟨rfl,rfl,rfl,by decide +kernel,rfl,by decide +kernel,by decide +kernel⟩
theorem ZhQ {f:Addr}{fd:FuncData} (F:Fun K "is_listed" "is_listed" Zcy f fd) (T:Txt mg):FnOk P w K mg base CX0 1 f fd ["thing"] Zc2:=by
 refine F.ok ZkS (fun vs H Q E h=>?_) (fun cdv A outer s H vs Q E hr h=>?_)
 ·obtain⟨a,xs,bb,rfl,_⟩:=h;rfl
 ·obtain⟨a,xs,bb,rfl,hA,k⟩:=h;refine⟨_,Zao (Zav (Zam ZfG rfl T.isinstance Zbm (Zaa (pv 0) (Zaa (ZbY (Zaa (ZiZ rfl T.list ZoB) (Zaa (ZiZ rfl T.tuple ZbJ) Zad))) Zad)))),?_⟩;refine⟨_,rfl,(by show 2<=sizeLine;decide),fun tp htp=>?_⟩
  cases bb with
  | true=>exact⟨.ref a,tp,["list","tuple"],_,true,rfl,Zab,.lst ((Same.new htp) a _ hA),ZhY,k _ (Same.new htp)⟩
  | false=>exact⟨.ref a,tp,["list","tuple"],_,true,rfl,Zab,.tup ((Same.new htp) a _ hA),Zgh,k _ (Same.new htp)⟩
theorem ZmH:FnScope ["thing","many"] ["thing","many"] (Zac ZdN):=⟨rfl,rfl,rfl,by decide +kernel,rfl,by decide +kernel,by decide +kernel⟩
theorem Zjb {f fW:Addr}{fd dW:FuncData} (F:Fun K "is_place" "is_place" ZdN f fd) (T:Txt mg) (CW:Cal P w K mg base 1 "is_whole" ["thing"] Zcv fW dW):FnOk P w K mg base CX0 2 f fd ["thing","many"] Zef:=by
 refine F.ok ZmH (fun vs H Q E h=>?_) (fun cdv A outer s H vs Q E hr h=>?_)
 ·obtain⟨i,n,rfl,_⟩:=h;rfl
 ·obtain⟨i,n,rfl,k⟩:=h;refine⟨_,Zao (Zav (Zd1 (Zap CW hr rfl (Zaa (pv 0) Zad)) (Zd0 (Zk7 Zgb Zk8 Zae (pv 0) (pv 1))))),?_⟩;refine⟨_,rfl,i,rfl,true,rfl,iteT ⟨_,rfl,0,i,rfl,rfl,_,rfl,?_⟩⟩;by_cases h1:(0:Int)<=i
  ·rw[decide_eq_true h1];refine iteT ⟨_,rfl,i,n,rfl,rfl,?_⟩;show Q (.bl (decide (i<n))) H;rw[show decide (0<=i/\i<n)=decide (i<n) from by simp[h1]] at k;exact k
  ·rw[decide_eq_false h1];refine iteF ?_;rw[decide_eq_false (fun z=>h1 z.1)] at k;exact k
theorem ZmF:FnScope ["thing","many"] ["thing","many"] (Zac ZdL):=⟨rfl,rfl,rfl,by decide +kernel,rfl,by decide +kernel,by decide +kernel⟩
theorem Zld {f:Addr}{fd:FuncData} (F:Fun K "is_tuple_of" "is_tuple_of" ZdL f fd) (T:Txt mg):FnOk P w K mg base CX0 1 f fd ["thing","many"] Zed:=by
 refine F.ok ZmF (fun vs H Q E h=>?_) (fun cdv A outer s H vs Q E hr h=>?_)
 ·obtain⟨a,xs,n,rfl,_⟩:=h;rfl
 ·obtain⟨a,xs,n,rfl,hA,hn,k⟩:=h;refine⟨_,Zao (Zav (Zd1 (Zam Zcf rfl T.isinstance Zbm (Zaa (pv 0) (Zaa (ZiZ rfl T.tuple ZbJ) Zad))) (Zd0 (Zdc Zm4 (Zam Zas rfl T.len Ybj (Zaa (pv 0) Zad)) (pv 1) (ZaS _))))),?_⟩;refine⟨_,rfl,.ref a,"tuple",_,true,rfl,.tup hA,Zdi,true,rfl,iteT ⟨_,rfl,a,_,rfl,.inr (SqT.of hA),_,rfl,rfl,?_⟩⟩;rw[hn];simpa using k
end
end Fk41
namespace Fk41
open PySem L2 Lv
section
variable {P:Program}{w:World}{K:Yae}{mg:Str->Option Value}{base:Heap}
theorem scIsSpot:FnScope ["numbers","pair","reel","place"] ["numbers","pair"] (Zac ZcB):=⟨rfl,rfl,rfl,by decide +kernel,rfl,by decide +kernel,by decide +kernel⟩
def Zel:Sp:=fun vs H Q _=>∃ (a q:Addr) (rs:List Addr) (N:List (List Int)) (k:List Int),vs=[.ref a,.ref q]/\H a=some (.tup (rs.map V.ref))/\TTs H rs N/\H q=some (.tup (k.map V.int))/\InN N k/\Q (.bl true) H
theorem Zjf {f f1 f2:Addr}{fd d1 d2:FuncData} (F:Fun K "is_spot" "is_spot" ZcB f fd) (T:Txt mg) (CT:Cal P w K mg base 1 "is_tuple_of" ["thing","many"] Zed f1 d1) (CP:Cal P w K mg base 2 "is_place" ["thing","many"] Zef f2 d2):FnOk P w K mg base CX0 3 f fd ["numbers","pair"] Zel:=by
 refine okW F scIsSpot (fun vs H Q E h=>?_) (fun cdv A outer s H vs Q E hr h=>?_)
 ·obtain⟨a,q,rs,N,k,rfl,_⟩:=h;rfl
 ·obtain⟨a,q,rs,N,k,rfl,hA,hT,hq,hin,kk⟩:=h;have hr1:Room 1 _:=hr.mono (by decide);have hr2:Room 2 _:=hr.mono (by decide);refine⟨_,(Zah (ZcQ (ZbE (Zcn (Zap CT hr1 rfl (Zaa (pv 1) (Zaa Zae Zad)))))
   (Zax (ws (Zav Zga)))
   Zbc)
   (Zah (ws (ZdY (pv 1) (ZbF rfl (Zar (Zaj (i:=2) scIsSpot.nd rfl (YaJ rfl)) (Zar (Zaj (i:=3) scIsSpot.nd rfl (YaJ rfl)) ZaT)))))
   (Zax (ws (Zav (Zd1 (Zap CP hr2 rfl (Zaa (pv 2) (Zaa (Zam Zas rfl T.len Ybj (Zaa (pv 0) Zad)) Zad))) (Zd0 (Zap CP hr2 rfl (Zaa (pv 3) (Zaa (Zam Zas rfl T.len Ybj (Zaa (ZaK Zb2 (pv 0) (pv 2) (fun _ _=>rfl)) Zad)) Zad)))))))))),?_⟩
  obtain⟨r,p,xs,rfl,hr',hp⟩:=hin;have hrl:=(Yad.mp hr').1
  obtain⟨ra,hra⟩:∃ ra,rs[r]?=some ra:=⟨_,Yaa (by rw[hT.1];exact hrl)⟩
  have hrow:=hT.2 r ra xs hra hr';refine⟨_,rfl,q,_,2,rfl,hq,rfl,true,rfl,?_⟩;refine iteF ?_;refine⟨_,rfl,q,_,rfl,SqT.of hq,rfl,_,_,rfl,_,_,rfl,rfl,?_⟩;refine⟨_,rfl,_,rfl,a,_,rfl,.inr (SqT.of hA),(r:Int),(rs.length:Int),by rw[Yac];rfl,_,rfl,?_⟩;rw[decide_eq_true (show 0<=(r:Int)/\(r:Int)<rs.length from⟨by omega,by rw[hT.1];omega⟩)];refine iteT ⟨_,rfl,_,rfl,_,rfl,a,_,(r:Int),.ref ra,rfl,rfl,SqT.of hA,Zbx (by rw[Yam,hra];rfl),ra,_,rfl,.inr (SqT.of hrow),(p:Int),(xs.length:Int),by rw[Yac];rfl,?_⟩;rw[decide_eq_true (show 0<=(p:Int)/\(p:Int)<xs.length from⟨by omega,by omega⟩)];exact kk
theorem Zf6:FnScope ["numbers","rows","placing"] ["numbers","rows","placing"] (Zac Za5):=⟨rfl,rfl,rfl,by decide +kernel,rfl,by decide +kernel,by decide +kernel⟩
theorem sqOf {K:Yae}{b:Bool}{H:Hp}{a:Addr}{xs:List V} (h:H a=some (if b then .lst xs else .tup xs)):SqB b K H a xs:=by
 cases b
 ·exact SqT.of h
 ·exact SqL.of h
theorem sqOr {K:Yae}{b:Bool}{H:Hp}{a:Addr}{xs:List V} (h:H a=some (if b then .lst xs else .tup xs)):SqL K H a xs∨SqT K H a xs:=by
 cases b
 ·exact .inr (SqT.of h)
 ·exact .inl (SqL.of h)
def Zb6 (K:Yae):Sp:=fun vs H Q _=>∃ (a pl:Addr) (b:Bool) (rs qs:List Addr) (N ks:List (List Int)),vs=[.ref a,.int ks.length,.ref pl]/\H a=some (.tup (rs.map V.ref))/\TTs H rs N/\H pl=some (if b then .lst (qs.map V.ref) else .tup (qs.map V.ref))/\TTs H qs ks/\(∀ k∈ks,InN N k)/\ks.Nodup/\ks.length<=500/\∀ H',Same H H'->Q (.bl true) H'
theorem Zfh {f f1 f2:Addr}{fd d1 d2:FuncData} (F:Fun K "is_placing" "is_placing" Za5 f fd) (T:Txt mg) (Tset:mg "set"=none) (CL:Cal P w K mg base 1 "is_listed" ["thing"] Zc2 f1 d1) (CS:Cal P w K mg base 3 "is_spot" ["numbers","pair"] Zel f2 d2):FnOk P w K mg base CX0 4 f fd ["numbers","rows","placing"] (Zb6 K):=by
 refine okW F Zf6 (fun vs H Q E h=>?_) (fun cdv A outer s H vs Q E hr h=>?_)
 ·obtain⟨a,pl,b,rs,qs,N,ks,rfl,_⟩:=h;rfl
 ·obtain⟨a,pl,b,rs,qs,N,ks,rfl,hA,hT,hP,hQ,hin,hnd,h5,kk⟩:=h;have hr1:Room 1 _:=hr.mono (by decide);have hr3:Room 3 _:=hr.mono (by decide);have hu8:_+8<cLine:=Yce (Yc2 (by decide:8<=64) _) hr.units;refine⟨_,(Zah (ZcQ (PW.pt (Zfd (ZbE (Zcn (Zap CL hr1 rfl (Zaa (pv 2) Zad)))) (Zda (ZaO Zm1 (Zam Zas rfl T.len Ybj (Zaa (pv 2) Zad)) (pv 1) (ZaS _)))))
   (Zax (ws (Zav Zga)))
   Zbc)
   (Zah (ZcQ (ZbE (Zcn (Zam (ZlK rfl) rfl T.all Zpf (Zaa (Za0 (own:=["pair"]) (js:=[0]) (CompOk.by (sc:=Zac Za5) (N:=["numbers","rows","placing"]) rfl rfl (by decide +kernel)) rfl (Zex (pv 2)) ZaB (fun _ _ _ _ _=>(Zaj (i:=0) (by show (["pair","numbers"]:List Str).Nodup;decide +kernel) rfl (YaJ rfl) (.inr rfl))) (fun _ _ _ _ _=>ZaM) (fun _ _ _ _ _=>(Zap CS hr3 rfl (Zaa (pv 1) (Zaa (pv 0) Zad))))) Zad))))
   (Zax (ws (Zav Zga)))
   Zbc)
   (Zax (ws (Zav (Zdc Zm4 (Zam Zks rfl T.len Ybj (Zaa (Zba (Zkq rfl hu8) rfl Tset Zpd (Zaa (pv 2) Zad)) Zad)) (pv 1) (ZaS _))))))),?_⟩
  have hql:qs.length=ks.length:=hQ.1;refine⟨_,rfl,pl,_,b,rfl,hP,fun H1 s1=>⟨true,rfl,iteF ?_⟩⟩;have hP1:H1 pl=some (if b then .lst (qs.map V.ref) else .tup (qs.map V.ref)):=s1 _ _ hP;refine⟨_,rfl,pl,_,rfl,sqOr hP1,_,rfl,?_⟩;rw[Yac,hql];refine⟨rfl,false,by rw[decide_eq_true rfl];rfl,iteF ?_⟩;refine⟨_,rfl,pl,b,rfl,⟨_,sqOf hP1⟩,?_⟩;refine ZfD (b:=b) ((Yai ks.length true).map V.bl) (sqOf hP1) (by rw[Yac,Yac,Ybk,hql]) (by rw[Yac,hql];omega) (fun i x y hx hy Hc sc Rr hRr=>?_) fun acc G n3 s3 hacc=>?_
  ·obtain⟨q,hq,rfl⟩:=Za6 hx;have hiq:=(Yad.mp hq).1
   rw[Yam,YcC,if_pos (by omega)] at hy;cases hy;have hk:ks[i]?=some ks[i]:=Yaa (by omega);have s0:=s1.trans sc;exact⟨_,rfl,_,rfl,a,q,rs,N,ks[i],rfl,s0 _ _ hA,hT.same s0,s0 _ _ (hQ.2 i q _ hq hk),hin _ (Ybw _),hRr Hc (Same.refl _)⟩
  refine⟨acc,Yai ks.length true,rfl,SqL.of hacc,?_⟩;rw[show (Yai ks.length true).all id=true by rw[Ycv];exact fun b hb=>(YbZ.mp hb).2];refine⟨true,rfl,iteF ?_⟩;have s13:=s1.trans s3;refine⟨_,rfl,pl,b,qs,ks,rfl,sqOf (s13 _ _ hP),hQ.same s13,h5,fun l L nl hL hmem=>?_⟩;refine⟨l,L.length,rfl,Zab,_,rfl,rfl,?_⟩;rw[((Yes hL hnd).mpr hmem).length_eq,decide_eq_true rfl];exact kk _ (s13.trans (Same.new nl))
end
end Fk41
namespace Lv
open PySem L2
def vec (L:Nat) (g:Nat->Int):List Int:=(YaT L).map g
def arr (L:Nat) (xs:List Int):List Int:=vec L fun m=>cn xs (m:Int)
end Lv
namespace Lv
open PySem L2
end Lv
namespace Lv
open PySem L2
def row3 (i:Nat) (x:Int):List (Int × Int):=(YaT x.toNat).map fun (j:Nat)=>((i:Int),(j:Int))
def pl3:Nat->List Int->List (Int × Int)
 | _,[]=>[]
 | i,x::c=>row3 i x++pl3 (i+1) c
def nfR (ks:List (Int × Int)) (i:Nat) (x:Int):List Bool:=(YaT x.toNat).map fun (j:Nat)=>decide (((i:Int),(j:Int))∈ks)
def nf (ks:List (Int × Int)):Nat->List Int->List (List Bool)
 | _,[]=>[]
 | i,x::c=>nfR ks i x::nf ks (i+1) c
end Lv
namespace Lv
open PySem L2
def gN (p:Nat) (rows:Int) (n:Nat):Option Int:=Zfm (num p n).flatten rows
theorem ZeG {p n:Nat} (hn:n<=300):∀ m∈(num p n).flatten,0<=m/\m<=400:=fun m hm=>by
 obtain⟨xs,hx,hm⟩:=Ydp.mp hm;have:=Zdt p n xs hx m hm;omega
theorem ZeF (p n:Nat):(((num p n).flatten.length:Nat):Int)=tot p n:=Zj0 n
theorem ZhW {p n:Nat}{r:Int} (hn:n<=300) (h1:1<=r) (hr:r<=tot p n):∃ v,gN p r n=some v/\Lst (num p n).flatten r v:=by
 obtain⟨l1,l2⟩:=Zl9 (ZfV (ZeG hn)) h1 (by rw[ZeF];exact hr);refine⟨_,?_,l2⟩;unfold gN Zfm;rw[if_neg (by omega)]
theorem ZhX {p n:Nat}{r v:Int} (hn:n<=300) (h1:1<=r) (h:gN p r n=some v):r<=tot p n/\Lst (num p n).flatten r v:=by
 have hs:=ZfV (ZeG (p:=p) hn);have hl:=ZeB (sprC (num p n).flatten) (0,r) (by show (0:Int)<=r;omega) (ZdH hs);rw[ZfU hs,ZeF] at hl;have hr:r<=tot p n:=by
  refine YbU fun z=>?_;rw[if_neg (by show ¬ r<=tot p n;exact z)] at hl;unfold gN Zfm at h;rw[if_pos (by show (lsF (sprC (num p n).flatten) (0,r)).2 > 0;rw[hl];show r - tot p n > 0;omega)] at h;cases h
 refine⟨hr,?_⟩;obtain⟨u,e,l⟩:=ZhW hn h1 hr;rw[h] at e;cases e;exact l
end Lv
namespace Lv
open PySem L2
section
variable {S:Nat->List (List Int)}
def gS (S:Nat->List (List Int)) (r:Int) (n:Nat):Option Int:=Zfm (S n).flatten r
structure Lvs (S:Nat->List (List Int)):Prop where
 bd:∀ n:Nat,Bd n (S n)
 ne:∀ n,(S n).flatten≠[]
 up:∀ n,∀ b∈(S (n+1)).flatten,∃ y∈(S n).flatten,y<=b
end
end Lv
namespace Lv
open PySem L2
end Lv
namespace Lv
open PySem L2
structure Fil (S:Nat->List (List Int)) (p:Int):Prop where
 lv:Lvs S
 kr:∀ M n,n<=M->kr p M (S n).flatten<=p ^ M
 z:(S 0).flatten.length=1
 one:∀ n,∀ y∈(S (n+1)).flatten,1<=y
structure Bst (S:Nat->List (List Int)) (N:Nat) (r:Int) (q:Int × Nat):Prop where
 lt:q.2<N
 eq:gS S r q.2=some q.1
 le:∀ n v,n<N->gS S r n=some v->q.1<=v
 first:∀ n v,n<q.2->gS S r n=some v->q.1<v
end Lv
namespace Lv
open PySem L2
def fst1 (p r:Int):Int:=2+(r - 2) % (p - 1)
structure Od (p r:Nat) (left:List Int) (read:Int) (k x y:Nat) (w e:Int):Prop where
 is:left=Yai x ((p:Int) ^ k)++w::Yai y ((p:Int) ^ (k+1))
 lo:(p:Int) ^ k<=w
 hi:w<=(p:Int) ^ (k+1)
 all:(x:Int)*(p:Int) ^ k+w+(y:Int)*(p:Int) ^ (k+1)=r
 full:∃ j:Nat,x+y=j*(p - 1)
 rd:read=(x:Int)*(p:Int) ^ k*k+(y:Int)*(p:Int) ^ (k+1)*(k+1)+(w*k+e)
 kr:(p:Int)*(w - e)+e+((p:Int) - fst1 p r)=(p:Int) ^ (k+1)
end Lv
namespace Lv
open PySem L2
end Lv
namespace Lv
open PySem L2
def BstJ (S:Nat->List (List Int)) (L:Nat) (j:Int) (v:Int):Prop:=(v = -1/\∀ n,n<L->gS S j n=none)∨(0<=v/\(∃ n,n<L/\gS S j n=some v)/\∀ n u,n<L->gS S j n=some u->v<=u)
structure BestF (S:Nat->List (List Int)) (L most:Nat) (F:List Int):Prop where
 len:F.length=most+1
 at_:∀ j:Nat,1<=j->j<=most->BstJ S L j (F.getD j 0)
end Lv
namespace Lv
open PySem L2
end Lv
namespace Lv
open PySem L2
end Lv
namespace Lv
open PySem L2
end Lv
namespace Lv
open PySem L2
theorem leP.tr:∀ {a b c:List Int},leP a b->leP b c->leP a c
 | [],[],[],_,_=>trivial
 | [],[],_::_,_,h=>h.elim
 | [],_::_,_,h,_=>h.elim
 | _::_,[],_,h,_=>h.elim
 | _::_,_::_,[],_,h=>h.elim
 | _::_,_::_,_::_,h,g=>⟨Int.le_trans h.1 g.1,leP.tr h.2 g.2⟩
theorem ZgK:∀ (n:Nat) (z:Int) (Z:List Int),(z::Z).Pairwise (·<=·)->n<=Z.length->leP ((z::Z).take n) (Z.take n)
 | 0,_,_,_,_=>trivial
 | n+1,z,[],_,h=>by simp at h
 | n+1,z,y::Z,hs,h=>by
  have h1:=YaZ.mp hs;exact⟨h1.1 y Yaq,ZgK n y Z h1.2 (by simpa using h)⟩
theorem Zmy {A Z:List Int} (s:List.Sublist A Z):Z.Pairwise (·<=·)->leP (Z.take A.length) A:=by
 induction s with
 | slnil=>intro _;trivial
 | cons z s ih=>
  intro hs;exact leP.tr (ZgK _ z _ hs s.length_le) (ih (YaZ.mp hs).2)
 | cons_cons z s ih=>
  intro hs;exact⟨Ybx _,ih (YaZ.mp hs).2⟩
theorem Zgj (l:List Int):(isrt l).Pairwise (·<=·):=by
 refine (YbP (fun a b c h1 h2=>?_) (fun a b=>?_) l).imp fun h=>of_decide_eq_true h
 ·have:=of_decide_eq_true h1;have:=of_decide_eq_true h2;exact decide_eq_true (by omega)
 ·by_cases h:a<=b
  ·simp[h]
  ·simp;omega
theorem ZmD {A rest Z:List Int} (h:(A++rest).Perm Z) (hA:A.Pairwise (·<=·)):leP ((isrt Z).take A.length) A:=by
 have hs:List.Sublist A (isrt (A++rest)):=List.sublist_mergeSort (fun a b c h1 h2=>by
  have:=of_decide_eq_true h1;have:=of_decide_eq_true h2;exact decide_eq_true (by omega)) (fun a b=>by
  by_cases h:a<=b
  ·simp[h]
  ·simp;omega) (hA.imp fun h=>decide_eq_true h) (List.sublist_append_left A rest)
 have e:isrt (A++rest)=isrt Z:=ZjP ((Ya8 _ _).trans h) (Zgj _);rw[e] at hs;exact Zmy hs (Zgj Z)
theorem Zgv:∀ (a b:List Int),(Ycg (·*·) a b).sum=dot b a
 | [],b=>by cases b <;> simp[dot]
 | _::_,[]=>by simp[dot]
 | x::a,y::b=>by rw[YeS,YaS,Zgv a b,dot,YdC]
theorem Zhi:∀ (ls Z:List Int),dot ls (Z.take ls.length)=dot ls Z
 | [],Z=>by simp[dot]
 | _::_,[]=>by simp[dot]
 | l::ls,z::Z=>by rw[YaU,List.take_succ_cons,dot,dot,Zhi ls Z]
theorem Zc9 (ls:List Int) (N:List (List Int)):rdF ls N=dot (Zbg ls) ((isrt N.flatten).take ls.length):=by
 unfold rdF;have:(Zbg ls).length=ls.length:=(Ya8 _ _).length_eq;rw[Zgv,<- this,Zhi]
theorem Zj8:∀ {ls a b:List Int},leP a b->(∀ l∈ls,0<=l)->dot ls a<=dot ls b
 | [],a,b,_,_=>by simp[dot]
 | _::_,[],[],_,_=>by simp[dot]
 | _::_,[],_::_,h,_=>h.elim
 | _::_,_::_,[],h,_=>h.elim
 | l::ls,x::a,y::b,h,h0=>by
  have:=Zj8 (ls:=ls) h.2 fun l hl=>h0 l (Yar _ hl);have:=Yd7 h.1 (h0 l Yaq);rw[dot,dot];omega
theorem Zmg:∀ {a b:List Int},a.length=b.length->dot a.reverse b.reverse=dot a b
 | [],[],_=>rfl
 | [],_::_,h=>by simp at h
 | _::_,[],h=>by simp at h
 | x::a,y::b,h=>by
  have hl:a.length=b.length:=by simpa using h
  rw[Yb6,Yb6,Zgn (by rw[Yca,Yca,hl]),Zmg hl,dot];simp[dot];omega
theorem Znw {a b:List Int} (h:b.length=a.length):dot a.reverse b=dot a b.reverse:=by
 have:=Zmg (a:=a) (b:=b.reverse) (by rw[Yca,h])
 rwa [List.reverse_reverse] at this
theorem Zl1 {ls ns rest:List Int}{N:List (List Int)} (hl:ns.length=ls.length) (h0:∀ l∈ls,0<=l) (h:(ns++rest).Perm N.flatten):rdF ls N<=dot ls ns:=by
 have hpr:(Zbg ls).Perm ls:=Ya8 _ _;have hup:(Zbg ls).reverse.Pairwise (·<=·):=by
  rw[Ydu];refine (YbP (fun a b c h1 h2=>?_) (fun a b=>?_) ls).imp fun h=>of_decide_eq_true h
  ·have:=of_decide_eq_true h1;have:=of_decide_eq_true h2;exact decide_eq_true (by omega)
  ·by_cases h:b<=a
   ·simp[h]
   ·simp;omega
 obtain⟨ks,k1,k2⟩:=ZgX (((YcK _).trans hpr).symm) hl;obtain⟨ms,m1,m2,m3⟩:=Zn4 (Zbg ls).reverse ks (by rw[(YcK _).length_eq,hpr.length_eq,k1.length_eq,hl]) hup;have hms:(ms.reverse).Perm ns:=((YcK _).trans m1).trans k1;have hms2:ms.reverse.Pairwise (·<=·):=by
  rw[Ydu];exact m2
 have hsel:=ZmD ((hms.append_right rest).trans h) hms2;rw[hms.length_eq,hl] at hsel;have e:dot (Zbg ls).reverse ms=dot (Zbg ls) ms.reverse:=by
  have hlen:ms.length=(Zbg ls).length:=by rw[m1.length_eq,k1.length_eq,hl,hpr.length_eq]
  exact Znw hlen
 rw[Zc9];have:=Zj8 hsel (ls:=Zbg ls) fun l hl=>h0 l (hpr.mem_iff.mp hl);omega
theorem ZmO {ls:List Int}{N:List (List Int)} (hf:ls.length<=N.flatten.length):∃ ns rest,ns.length=ls.length/\(ns++rest).Perm N.flatten/\rdF ls N=dot ls ns:=by
 have hpr:(Zbg ls).Perm ls:=Ya8 _ _;have hpz:(isrt N.flatten).Perm N.flatten:=Ya8 _ _;have hl:((isrt N.flatten).take ls.length).length=(Zbg ls).length:=by rw[Yaz,hpz.length_eq,hpr.length_eq];omega
 obtain⟨ns,n1,n2⟩:=ZgX hpr hl;refine⟨ns,(isrt N.flatten).drop ls.length,by rw[n1.length_eq,hl,hpr.length_eq],?_,by rw[Zc9,n2]⟩;refine (n1.append_right _).trans ?_;rw[YaM];exact hpz
theorem ZgO {a b:List Int}{N:List (List Int)} (h:leP a b) (h0:∀ l∈a,0<=l) (hN:∀ n∈N.flatten,0<=n) (hf:b.length<=N.flatten.length):rdF a N<=rdF b N:=by
 obtain⟨ns,rest,n1,n2,n3⟩:=ZmO hf;have hl:=h.len;have h1:=Zl1 (ls:=a) (by rw[n1,hl]) h0 n2;have h2:=Zhk (ns:=ns) h (by rw[n1,hl]) fun n hn=>hN n (n2.mem_iff.mp (Ya0 _ hn));omega
end Lv
namespace Lv
open PySem L2
theorem ZkK {xs ys:List Int} (h:xs.Perm ys) (t:Int):sv xs t=sv ys t:=ZgW (h.map _)
theorem Zmx (xs ys:List Int) (t:Int):sv (xs++ys) t=sv xs t+sv ys t:=by unfold sv;rw[Yay,YcW]
theorem Ziw {t:Int}:∀ {zs:List Int},(∀ x∈zs,x<=t)->sv zs t=zs.length*t - zs.sum
 | [],_=>by simp[sv]
 | z::zs,h=>by
  have e:sv (z::zs) t=pz (t - z)+sv zs t:=rfl;have h1:=h z Yaq;rw[e,Ziw fun x hx=>h x (Yar _ hx),YaS,YaU,YdB,Yew,show pz (t - z)=t - z by unfold pz;split <;> omega];simp;omega
theorem ZgG {t:Int}:∀ {ws:List Int},(∀ x∈ws,t<=x)->sv ws t=0
 | [],_=>rfl
 | z::zs,h=>by
  have e:sv (z::zs) t=pz (t - z)+sv zs t:=rfl;have h1:=h z Yaq;rw[e,ZgG fun x hx=>h x (Yar _ hx),show pz (t - z)=0 by unfold pz;split <;> omega];rfl
theorem Zju {xs:List Int}{r:Nat}{v:Int} (h:Lst xs r v) (h1:1<=r) (hr:r<=xs.length):v=((isrt xs).take r).sum:=by
 have hp:(isrt xs).Perm xs:=Ya8 _ _;have hl:((isrt xs).take r).length=r:=by rw[Yaz,hp.length_eq];omega
 have e:(isrt xs).take r++(isrt xs).drop r=isrt xs:=YaM _ _;have hup:=Zgj xs;rw[<- e] at hup;obtain⟨u1,u2,u3⟩:=YaR.mp hup;have a:=Lst.sub (ys:=(isrt xs).take r) (v:=v) (by rw[hl];exact h) fun m=>by
  unfold cn;have:((isrt xs).take r).count m<=xs.count m:=by
   rw[<- hp.count_eq,<- e,YfB,e];omega
  omega
 have hne:(isrt xs).take r≠[]:=fun z=>by rw[z] at hl;simp at hl;omega
 obtain⟨ys,t,hys⟩:∃ ys t,(isrt xs).take r=ys++[t]:=⟨_,_,(YcV hne).symm⟩
 have ht:∀ x∈(isrt xs).take r,x<=t:=fun x hx=>by
  rw[hys] at hx u1;rcases Yaj.mp hx with z | z
  ·exact (YaR.mp u1).2.2 x z t (by simp)
  ·rw[YaF.mp z];exact Ybx _
 have hd:∀ x∈(isrt xs).drop r,t<=x:=fun x hx=>u3 t (by rw[hys];simp) x hx;have b:=h.le t;rw[<- ZkK hp t,<- e,Zmx,Ziw ht,ZgG hd,hl] at b;omega
theorem ZjQ (r:Nat) (L:Int):Zbg (Yai r L)=Yai r L:=List.perm_replicate.mp (Ya8 _ _)
theorem Zhj (L:Int):∀ xs:List Int,dot (Yai xs.length L) xs=L*xs.sum
 | []=>by simp[dot]
 | x::xs=>by rw[YaU,Ybo,dot,Zhj L xs,YaS,Int.mul_add]
theorem ZmP {r:Nat}{L:Int}{N:List (List Int)} (hr:r<=N.flatten.length):rdF (Yai r L) N=L*((isrt N.flatten).take r).sum:=by
 have hp:(isrt N.flatten).Perm N.flatten:=Ya8 _ _;rw[Zc9,ZjQ,Ybk];have:=Zhj L ((isrt N.flatten).take r)
 rwa [Yaz,hp.length_eq,Ycm hr] at this
theorem Zd6 (l:List Int):(Zbg l).Pairwise (fun a b=>b<=a):=by
 refine (YbP (fun a b c h1 h2=>?_) (fun a b=>?_) l).imp fun h=>of_decide_eq_true h
 ·have:=of_decide_eq_true h1;have:=of_decide_eq_true h2;exact decide_eq_true (by omega)
 ·by_cases h:b<=a
  ·simp[h]
  ·simp;omega
theorem ZjR {l m:List Int} (h:m.Perm l) (hs:m.Pairwise (fun a b=>b<=a)):m=Zbg l:=by
 refine Yc3 (le:=fun a b=>b<=a) (fun a b _ _ h1 h2=>Yev h2 h1) hs (Zd6 l) (h.trans (Ya8 l _).symm)
theorem ZhZ {ls:List Int} (h0:∀ l∈ls,0<=l) (z:Nat):Zbg (ls++Yai z 0)=Zbg ls++Yai z 0:=by
 have hp:(Zbg ls).Perm ls:=Ya8 _ _;refine (ZjR (hp.append_right _) ?_).symm;rw[YaR];refine⟨Zd6 ls,?_,fun a ha b hb=>?_⟩
 ·rw[YeO];exact .inr (Ybx _)
 ·rw[(YbZ.mp hb).2];exact h0 a (hp.mem_iff.mp ha)
theorem Zhh:∀ (z:Nat) (xs:List Int),dot (Yai z 0) xs=0
 | 0,xs=>by simp[dot]
 | z+1,[]=>by simp[Ybo,dot]
 | z+1,x::xs=>by rw[Ybo,dot,Zhh z xs];simp
theorem ZkW {ls:List Int} (h0:∀ l∈ls,0<=l) {z:Nat}{N:List (List Int)} (hf:ls.length+z<=N.flatten.length):rdF (ls++Yai z 0) N=rdF ls N:=by
 have hp:(Zbg ls).Perm ls:=Ya8 _ _;have hq:(isrt N.flatten).Perm N.flatten:=Ya8 _ _;rw[Zc9,Zc9,ZhZ h0,Yak,Ybk,List.take_add];rw[Zgn (by rw[hp.length_eq,Yaz,hq.length_eq];omega),Zhh];omega
end Lv
namespace Lv
open PySem L2
end Lv
namespace Lv
open PySem L2 PyProof.Rows
end Lv
namespace Lv
open PySem L2 PyProof.Rows
end Lv
namespace Fk41
open PySem L2 Lv
section
variable {P:Program}{w:World}{K:Yae}{mg:Str->Option Value}{base:Heap}
theorem scPlacingRight:FnScope ["p","lengths","told","reading","level","placing","numbers"] ["p","lengths","told"] (Zac ZaQ):=⟨rfl,rfl,rfl,by decide +kernel,rfl,by decide +kernel,by decide +kernel⟩
theorem TuM.toTT41 {H:Hp}{qs:List Addr}{ks:List (List Int)} (h:TuM H qs ks):TTs H qs ks:=by
 refine⟨h.len,fun j r xs e1 e2=>?_⟩;obtain⟨k,e3,e4⟩:=h.at e1;rw[e2] at e3;cases e3;exact e4
def ToldP (p m:Nat):Prop:=(∀ i,i<m->tot p i<=4000)/\4000<tot p m
theorem ToldP.one {p m n:Nat} (h:ToldP p m) (h':ToldP p n):m=n:=by
 rcases Ydh m n with z | z | z
 ·have:=h'.1 m z;have:=h.2;omega
 ·exact z
 ·have:=h.1 n z;have:=h'.2;omega
def Zeg (K:Yae):Sp:=fun vs H Q _=>∃ (p:Nat) (ll t pl:Addr) (qs:List Addr) (ls:List Int) (ks:List (List Int)) (n m:Nat),vs=[.int p,.ref ll,.ref t]/\2<=p/\p<=7/\H ll=some (.lst (ls.map V.int))/\ls.length<=500/\(∀ l∈ls,0<=l/\l<=1000000000000)/\H t=some (.tup [.int (ZaU (num p n) ls ks).sum,.int (n:Int),.ref pl])/\H pl=some (.lst (qs.map V.ref))/\TuM H qs ks/\(∀ k∈ks,InN (num p n) k)/\ks.Nodup/\ls.length=ks.length/\BestG (fitF ls (num p)) m (some ((ZaU (num p n) ls ks).sum,n))/\ToldP p m/\∀ H',Same H H'->Q (.bl true) H'
theorem Zi9 {f f1 f2 f3 f4 f5 f6 f7:Addr}{fd d1 d2 d3 d4 d5 d6 d7:FuncData} (F:Fun K "placing_right" "placing_right" ZaQ f fd) (T:Txt mg) (CC:Cal P w K mg base 2 "check_ways" ["p"] ZdI f1 d1) (CT:Cal P w K mg base 1 "is_tuple_of" ["thing","many"] Zed f2 d2) (CW:Cal P w K mg base 1 "is_whole" ["thing"] Zcv f3 d3) (CB:Cal P w K mg base 4 "best_placing" ["p","lengths"] (ZkO K) f4 d4) (CN:Cal P w K mg base 6 "level_numbers" ["p","n"] Zf0 f5 d5) (CI:Cal P w K mg base 4 "is_placing" ["numbers","rows","placing"] (Zb6 K) f6 d6) (CR:Cal P w K mg base 1 "reading_by" ["numbers","lengths","placing"] (Zck K) f7 d7):FnOk P w K mg base CX0 7 f fd ["p","lengths","told"] (Zeg K):=by
 refine okW F scPlacingRight (fun vs H Q E h=>?_) (fun cdv A outer s H vs Q E hr h=>?_)
 ·obtain⟨p,ll,t,pl,qs,ls,ks,n,m,rfl,_⟩:=h;rfl
 ·obtain⟨p,ll,t,pl,qs,ls,ks,n,m,rfl,p2,p7,hL,hl5,hlb,ht,hpl,hTu,hin,hnd,hl,hB,hT,kk⟩:=h;have hr1:Room 1 _:=hr.mono (by decide);have hr2:Room 2 _:=hr.mono (by decide);have hr4:Room 4 _:=hr.mono (by decide);have hr6:Room 6 _:=hr.mono (by decide);have hu0:_<cLine:=hr.units0;refine⟨_,(Zah (ws (ZaX (Zap CC hr2 rfl (Zaa (pv 0) Zad))))
   (Zah (ZcQ (ZbE (Zcn (Zap CT hr1 rfl (Zaa (pv 2) (Zaa Zae Zad)))))
   (Zax (ws (Zav Zga)))
   Zbc)
   (Zah (ws (ZdY (pv 2) (ZbF rfl (Zar (Zaj (i:=3) scPlacingRight.nd rfl (YaJ rfl)) (Zar (Zaj (i:=4) scPlacingRight.nd rfl (YaJ rfl)) (Zar (Zaj (i:=5) scPlacingRight.nd rfl (YaJ rfl)) ZaT))))))
   (Zah (ZcQ (PW.pt (Zfd (ZbE (Zcn (Zap CW hr1 rfl (Zaa (pv 3) Zad)))) (Zfd (ZbE (Zcn (Zap CW hr1 rfl (Zaa (pv 4) Zad)))) (Zda (ZaO (Zod hu0) (ZbY (Zaa (pv 3) (Zaa (pv 4) Zad))) (Za7 ZiG (Zap CB hr4 rfl (Zaa (pv 0) (Zaa (pv 1) Zad))) Zbn (Zbk Zae)) (ZaS _))))))
   (Zax (ws (Zav Zga)))
   Zbc)
   (Zah (ws (Zaq (i:=6) scPlacingRight.nd rfl (YaJ rfl) (Zap CN hr6 rfl (Zaa (pv 0) (Zaa (pv 4) Zad)))))
   (Zax (ws (Zav (Zd1 (Zap CI hr4 rfl (Zaa (pv 6) (Zaa (Zam Zas rfl T.len Ybj (Zaa (pv 1) Zad)) (Zaa (pv 5) Zad)))) (Zd0 (Zdc Zm4 (Zap CR hr1 rfl (Zaa (pv 6) (Zaa (pv 1) (Zaa (pv 5) Zad)))) (pv 3) (ZaS _)))))))))))),?_⟩
  have hn:=hB.1;have h4:=hT.1 n hn;have hn19:=Zni p2 p7 h4;have hbits:∀ l∈ls,Ya3 l<=8000:=fun l hl=>Zbi (by have:=hlb l hl;omega) (by have:=hlb l hl;omega);refine⟨_,rfl,p,rfl,by omega,by omega,?_⟩;refine⟨_,rfl,t,_,3,rfl,ht,rfl,true,rfl,iteF ?_⟩;refine⟨_,rfl,t,_,rfl,SqT.of ht,rfl,_,_,rfl,_,_,rfl,_,_,rfl,rfl,?_⟩;refine⟨_,rfl,_,rfl,true,rfl,iteF ?_⟩;refine⟨_,rfl,_,rfl,true,rfl,iteF ?_⟩;refine⟨_,rfl,_,rfl,(by show 2<=sizeLine;decide),fun t1 nt1=>?_⟩;generalize hRv:(ZaU (num p n) ls ks).sum=Rv at hB ht ⊢;have s1:=Same.new (o:=.tup [V.int Rv,V.int (n:Int)]) nt1;have e1:upd H t1 (.tup [V.int Rv,V.int (n:Int)]) t1=some (.tup (([Rv,(n:Int)]:List Int).map V.int)):=Zab;generalize upd H t1 (.tup [V.int Rv,V.int (n:Int)])=H1 at s1 e1 ⊢;refine⟨_,rfl,_,rfl,p,ll,true,ls,rfl,p2,p7,SqL.of (s1 _ _ hL),by omega,hbits,fun t2 pl2 qs2 ks2 lf2 lp2 n2 m2 H2 _ ht2 hpl2 hTu2 hSt2 hin2 hFit2 h42 hnm2 hB2 hall2 hm2 s2=>?_⟩;have hBG2:=BestG.of (L:=num p) hB2;have em:=(show ToldP p m2 from⟨hall2,hm2⟩).one hT;subst em;obtain⟨eR,en⟩:=hBG2.one hB;subst en;rw[eR] at ht2;have s02:=s1.trans s2;refine⟨2,rfl,t2,_,rfl,SqT.of ht2,(fun z=>absurd z.2 (by show ¬ (2:Nat)=3;decide)),fun t3 nt3=>?_⟩;rw[show (some (2:Int))=some ((2:Nat):Int) from rfl,ZeL];have s3:=Same.new (o:=.tup ([V.int Rv,V.int (n2:Int),V.ref pl2].take 2)) nt3;have e3:upd H2 t3 (.tup ([V.int Rv,V.int (n2:Int),V.ref pl2].take 2)) t3=some (.tup (([Rv,(n2:Int)]:List Int).map V.int)):=Zab;generalize upd H2 t3 (.tup ([V.int Rv,V.int (n2:Int),V.ref pl2].take 2))=H3 at s3 e3 ⊢;have s03:=s02.trans s3;refine⟨t1,t3,_,_,rfl,rfl,SqT.of (s3 _ _ (s2 _ _ e1)),SqT.of e3,?_⟩;refine⟨false,by simp,iteF ?_⟩;refine⟨_,rfl,_,rfl,p,n2,rfl,p2,p7,by omega,h4,fun a rs H4 na ha hTT s4=>?_⟩;have s04:=s03.trans s4;have hQ:=TuM.toTT41 hTu;refine⟨_,rfl,_,rfl,ll,_,rfl,.inl (SqL.of (s04 _ _ hL)),_,rfl,a,pl,true,rs,qs,num p n2,ks,by rw[Yac,hl];rfl,ha,hTT,s04 _ _ hpl,hQ.same s04,hin,hnd,by omega,fun H5 s5=>⟨_,rfl,iteT ?_⟩⟩;have s05:=s04.trans s5;refine⟨_,rfl,_,rfl,_,rfl,a,ll,pl,true,rs,qs,num p n2,ls,ks,rfl,s5 _ _ ha,hTT.same s5,SqL.of (s05 _ _ hL),s05 _ _ hpl,hTu.same s05,hin,hl,by omega,hbits,fun xs hx z hz=>?_,fun H6 s6=>⟨_,rfl,rfl,?_⟩⟩
  ·have:=Zdt p n2 xs hx z hz;exact Zbi (by omega) (by omega)
  rw[hRv,decide_eq_true rfl];exact kk _ (s05.trans s6)
end
end Fk41
namespace Lv
open PySem L2
theorem Zfj:∀ {N:List (List Int)}{i r j:Nat}{xs:List Int}{z:Int},N[r]?=some xs->xs[j]?=some z->[z,((i+r:Nat):Int),(j:Int)]∈trip i N
 | [],_,r,_,_,_,h,_=>by simp at h
 | ys::N,i,0,j,xs,z,h,hz=>by
  have:ys=xs:=by simpa using h
  subst this;rw[trip,Yaj];refine .inl (Yau (i:=j) ?_);unfold ZbA;rw[YcU,hz];rfl
 | ys::N,i,r+1,j,xs,z,h,hz=>by
  rw[trip,Yaj];have:=Zfj (i:=i+1) (N:=N) (r:=r) (by simpa using h) hz;rw[show i+1+r=i+(r+1) by omega] at this;exact .inr this
end Lv
namespace Lv
open PySem L2 PyProof.Rows
theorem ZiK {α:Type} [BEq α] [LawfulBEq α]:∀ {ks L:List α},ks.Nodup->(∀ k∈ks,k∈L)->∃ rest,(ks++rest).Perm L
 | [],L,_,_=>⟨L,Ycn _⟩
 | k::ks,L,hn,hs=>by
  have hk:=hs k Yaq;have hp:=Yfa hk;have hn2:=YbL.mp hn;obtain⟨rest,h⟩:=ZiK (L:=L.erase k) hn2.2 fun x hx=>by
   have hne:x≠k:=fun e=>hn2.1 (e ▸ hx);exact (List.mem_erase_of_ne hne).mpr (hs x (Yar _ hx))
  exact⟨rest,(h.cons k).trans hp.symm⟩
theorem ZiR {p n:Nat}{ls:List Int}{ks:List (List Int)} (hn:ks.Nodup) (hi:∀ k∈ks,InN (num p n) k) (hl:ks.length=ls.length) (h0:∀ l∈ls,0<=l):rdF ls (num p n)<=(ZaU (num p n) ls ks).sum:=by
 have hsub:∀ k∈ks,k∈(trip 0 (num p n)).map plcT:=fun k hk=>by
  obtain⟨r,j,xs,rfl,hx,hj⟩:=hi k hk;refine YaG.mpr ⟨[xs[j],(r:Int),(j:Int)],(by have:=Zfj (i:=0) hx (Yaa hj);rwa [YbF] at this),?_⟩;simp[plcT]
 obtain⟨rest,hp⟩:=ZiK hn hsub;have h2:((trip 0 (num p n)).map plcT).map (numV (num p n))=(num p n).flatten:=by
  rw[<- Ze1 (num p n) 0,Ych];refine YbR fun q hq=>?_;show numV (num p n) (plcT q)=_;rw[ZkI hq]
 have h3:=hp.map (numV (num p n));rw[Yay,h2] at h3;have h4:=Zl1 (ls:=ls) (by rw[Yac,hl]) h0 h3;rw[Zfb];exact h4
end Lv
namespace Lv
open PySem L2 PyProof.Rows
theorem Zmk {f g:Nat->Option Int}{m n n':Nat}{R R':Int} (h:BestG f m (some (R,n))) (h':BestG g m (some (R',n'))) (hle:∀ v,g n'=some v->∃ u,f n'=some u/\u<=v):R<=R':=by
 obtain⟨h1,h2,_⟩:=h';obtain⟨u,e,l⟩:=hle R' h2;have:=(h.2.2 n' u h1 e).1
 omega
theorem ZgZ {p i:Nat}:∀ x∈(num p i).flatten,0<=x:=fun x h=>by
 obtain⟨xs,hx,hz⟩:=Ydp.mp h;exact (Zdt p i xs hx x hz).1
theorem Zdm {ls:List Int}{L:Nat->List (List Int)}{n:Nat}{v:Int} (h:fitF ls L n=some v):ls.length<=(L n).flatten.length/\v=rdF ls (L n):=by
 unfold fitF at h;split at h
 ·exact⟨‹_›,(YaE h).symm⟩
 ·cases h
theorem Zhe {p m n n':Nat}{R R':Int}{a b:List Int} (h:leP a b) (h0:∀ l∈a,0<=l) (A:BestG (fitF a (num p)) m (some (R,n))) (B:BestG (fitF b (num p)) m (some (R',n'))):R<=R':=by
 refine Zmk A B fun v e=>?_;obtain⟨e1,e2⟩:=Zdm e;refine⟨rdF a (num p n'),by unfold fitF;rw[if_pos (by rw[h.len];exact e1)],?_⟩;rw[e2];exact ZgO h h0 ZgZ e1
theorem Zgf:∀ {a b c d:List Int},leP a b->leP c d->leP (a++c) (b++d)
 | [],[],c,d,_,h=>h
 | [],_::_,_,_,h,_=>h.elim
 | _::_,[],_,_,h,_=>h.elim
 | x::a,y::b,c,d,h,h'=>⟨h.1,Zgf h.2 h'⟩
theorem ZeE {p m n n':Nat}{R R' x:Int}{a:List Int} (hx:0<=x) (h0:∀ l∈a,0<=l) (A:BestG (fitF a (num p)) m (some (R,n))) (B:BestG (fitF (a++[x]) (num p)) m (some (R',n'))):R<=R':=by
 refine Zmk A B fun v e=>?_;obtain⟨e1,e2⟩:=Zdm e;have e1':a.length+1<=(num p n').flatten.length:=by simpa using e1
 refine⟨rdF a (num p n'),by unfold fitF;rw[if_pos (by omega)],?_⟩;rw[e2,<- ZkW h0 (z:=1) e1'];exact ZgO (Zgf (leP.refl a) (show leP [0] [x] from⟨hx,trivial⟩)) (fun l hl=>by
  rcases Yaj.mp hl with z | z
  ·exact h0 l z
  ·rw[(YbZ.mp z).2];exact Ybx _) ZgZ e1
theorem ZjE:∀ {ls:List Int}{i:Nat}{x:Int},i<ls.length->ls.getD i 0<=x->leP ls (ls.take i++[x]++ls.drop (i+1))
 | [],i,x,h,_=>absurd h (YbC _)
 | l::ls,0,x,_,h2=>⟨h2,leP.refl ls⟩
 | l::ls,i+1,x,h1,h2=>⟨Ybx _,ZjE (ls:=ls) (i:=i) (by simpa using h1) (by simpa using h2)⟩
theorem Zh0 {a b:List Int} (h:a.Perm b):Zbg a=Zbg b:=by
 refine Zhc ((Ya8 _ _:(Zbg a).Perm a).trans h) ((YbP (fun a b c h1 h2=>?_) (fun a b=>?_) a).imp fun h=>of_decide_eq_true h)
 ·have:=of_decide_eq_true h1;have:=of_decide_eq_true h2;exact decide_eq_true (by omega)
 ·by_cases h:b<=a
  ·simp[h]
  ·simp;omega
theorem Zj1 {a b:List Int}{L:Nat->List (List Int)} (h:a.Perm b):fitF a L=fitF b L:=by
 funext j
 unfold fitF rdF;rw[h.length_eq,Zh0 h]
theorem ZiS {p m n j:Nat}{R:Int}{ls:List Int}{ks:List (List Int)} (hp:2<=p) (A:BestG (fitF ls (num p)) m (some (R,n))) (hm:4000<tot p m) (hj:tot p j<=4000) (hf:(ls.length:Int)<=tot p j) (hn:ks.Nodup) (hi:∀ k∈ks,InN (num p j) k) (hl:ks.length=ls.length) (h0:∀ l∈ls,0<=l):R<=(ZaU (num p j) ls ks).sum:=by
 have hjm:j<m:=by
  refine YbU fun z=>?_;have:=ZbN hp (m:=m) (n:=j) (by omega);omega
 have hfl:((num p j).flatten.length:Int)=tot p j:=Za8 p j;have h1:=ZiR hn hi hl h0;have h2:=(A.2.2 j (rdF ls (num p j)) hjm (by unfold fitF;rw[if_pos (by omega)])).1
 omega
theorem ZnC {p m n r:Nat}{R L:Int} (hn:n<=300) (h1:1<=r) (A:BestG (fitF (Yai r L) (num p)) m (some (R,n))):(r:Int)<=tot p n/\∀ v,gN p r n=some v->R=L*v:=by
 obtain⟨e1,e2⟩:=Zdm A.2.1;rw[Ybk] at e1;have hfl:((num p n).flatten.length:Int)=tot p n:=Za8 p n;refine⟨by omega,fun v hv=>?_⟩;obtain⟨_,l⟩:=ZhX hn (show (1:Int)<=(r:Int) by omega) hv;rw[e2,ZmP e1,Zju l h1 e1]
end Lv
namespace Fk41
open PySem L2 Lv
section
variable {P:Program}{w:World}{K:Yae}{mg:Str->Option Value}{base:Heap}
theorem scLR41:FnScope ["p","n","rows","reading"] ["p","n","rows"] (Zac sLR):=⟨rfl,rfl,rfl,by decide +kernel,rfl,by decide +kernel,by decide +kernel⟩
def ZiE:Sp:=fun vs H Q _=>∃ (p n:Nat) (r:Int),vs=[.int p,.int n,.int r]/\2<=p/\p<=7/\n<=300/\1<=r/\r<=tot p n/\∀ v H',gN p r n=some v->Same H H'->Q (.int v) H'
theorem Zna {f f1 f2:Addr}{fd d1 d2:FuncData} (F:Fun K "least_reading" "least_reading" sLR f fd) (CS:Cal P w K mg base 4 "spread_of" ["p","n"] (ZiA num 300) f1 d1) (CL:Cal P w K mg base 1 "least_of_spread" ["spread","rows"] Zej f2 d2):FnOk P w K mg base CX0 5 f fd ["p","n","rows"] ZiE:=by
 refine okW F scLR41 (fun vs H Q E h=>?_) (fun cdv A outer s H vs Q E hr h=>?_)
 ·obtain⟨p,n,r,rfl,_⟩:=h;rfl
 ·obtain⟨p,n,r,rfl,h1,h2,h3,h4,h5,k⟩:=h;have hr1:Room 1 _:=hr.mono (by decide);refine⟨_,(Zah (ws (Zaq (i:=3) scLR41.nd rfl (YaJ rfl) (Zap CL hr1 rfl (Zaa (Zap CS hr rfl (Zaa (pv 0) (Zaa (pv 1) Zad))) (Zaa (pv 2) Zad)))))
   (Zah (ZcQ (Zl2 (Zl6 (pv 3)))
   (wss Za9)
   Zbc)
   (Zax (ws (Zav (pv 3)))))),?_⟩
  refine⟨_,rfl,_,rfl,p,n,rfl,h1,h2,h3,fun l qs L H1 _ hl hq sp s1=>?_⟩;have eL:=Zmz (ZeG h3) sp;obtain⟨l1,l2⟩:=Zl9 sp h4 (by rw[ZeF];exact h5);have eg:gN p r n=some (lsF L (0,r)).1:=by
   unfold gN Zfm;rw[<- eL,if_neg (by omega)]
  refine⟨_,rfl,l,qs,L,r,rfl,hl,hq,fun q hm=>?_,fun H2 s2=>?_⟩
  ·have:=(ZeG (p:=p) h3) q.1 ((Zec sp q.1).mp (YaG.mpr ⟨q,hm,rfl⟩));omega
  ·rw[if_neg (by omega)];exact⟨_,rfl,false,rfl,iteF ⟨_,rfl,k _ H2 eg (s1.trans s2)⟩⟩
theorem scGrown41:FnScope ["p","lengths","draws","reading","at","by","greater","some","found"] ["p","lengths","draws","reading"] (Zac ZaF):=⟨rfl,rfl,rfl,by decide +kernel,rfl,by decide +kernel,by decide +kernel⟩
def ZkP (K:Yae):Sp:=fun vs H Q _=>∃ (p:Nat) (ll:Addr) (ls:List Int),vs=[.int p,.ref ll]/\2<=p/\p<=7/\SqL K H ll (ls.map V.int)/\ls.length<=500/\(∀ l∈ls,0<=l/\l<=1000000000000) /\
 ∀ (t pl:Addr) (qs:List Addr) (ks:List (List Int)) (n m:Nat) H',H' t=some (.tup [.int (ZaU (num p n) ls ks).sum,.int (n:Int),.ref pl])->H' pl=some (.lst (qs.map V.ref))->TuM H' qs ks->(∀ k∈ks,InN (num p n) k)->ks.Nodup->ls.length=ks.length->tot p n<=4000->BestG (fitF ls (num p)) m (some ((ZaU (num p n) ls ks).sum,n))->ToldP p m->Same H H'->Q (.ref t) H'
theorem Zh5 {ls:List Int}{i:Nat} (h:i<ls.length):ls.getD i 0∈ls:=by
 rw[Yat,Yaa h];exact Ybw h
theorem ZoA {f:Addr}{fd:FuncData} (F:FnOk P w K mg base CX0 4 f fd ["p","lengths"] (ZkO K)):FnOk P w K mg base CX0 4 f fd ["p","lengths"] (ZkP K):=by
 refine F.imp fun vs H Q E h=>?_;obtain⟨p,ll,ls,rfl,p2,p7,hS,hl5,hlb,k⟩:=h;refine⟨p,ll,true,ls,rfl,p2,p7,hS,hl5,fun l hl=>Zbi (by have:=hlb l hl;omega) (by have:=hlb l hl;omega),fun t pl qs ks lf lp n m H' _ ht hpl hTu hSt hin hFit h4 hnm hB hall hm s=>?_⟩;exact k t pl qs ks n m H' ht hpl hTu hin (Ze6 hSt hFit) hSt.1.symm h4 (BestG.of (L:=num p) hB) ⟨hall,hm⟩ s
theorem Zgp {b:Bool}{K:Yae}{own:List Str}{js:List Nat}{g:TG}{te:TE}{σ:L2.St}{H1:Hp}{Q:VK}{a:Addr}{xs:List V} (Ph:Nat->Hp->V->Prop) (hq:SqB b K H1 a xs) (hlen:xs.length<=20000)
  (st1:∀ {i H H' y},Ph i H y->Same H H'->Ph i H' y) (st2:∀ {i H acc zs ys y},H acc=some (.lst zs)->Ph i H y->Ph i (upd H acc (.lst ys)) y)
  (hs:∀ (i:Nat) x,xs[i]?=some x->∀ H,Same H1 H->∀ R:VK,(∀ y H',Same H H'->Ph i H' y->R y H')->g x (blkσ own js σ) H fun τ H4=>te τ H4 R)
  (hd:∀ acc ys H,H1 acc=none->H acc=some (.lst ys)->ys.length=xs.length->(∀ (i:Nat) y,ys[i]?=some y->Ph i H y)->Same H1 H->Q (.ref acc) H):Zbp own js g ZcZ te σ (ItlB b K a) H1 Q:=by
 refine ZfB (b:=b) (K:=K) (a:=a) (xs:=xs) (fun acc i H=>∃ ys,H acc=some (.lst ys)/\ys.length=i/\(∀ (j:Nat) y,ys[j]?=some y->Ph j H y)/\Same H1 H) (fun acc h0=>⟨[],Zab,rfl,fun j y z=>by simp at z,Same.new h0⟩) (fun acc i H h0 _ z=>?_) ?_ ?_
 ·obtain⟨_,_,_,_,s⟩:=z;exact Same.sqB s hq
 ·rintro acc i x H h0 hx ⟨ys,hacc,hl,hP,s1⟩;have hi:=(Yad.mp hx).1
  refine (cast ?_ (hs i x hx H s1 (fun y H6=>∃ zs,H6 acc=some (.lst zs)/\zs.length<sizeLine/\(i+1<=xs.length/\∃ ys,upd H6 acc (.lst (zs++[y])) acc=some (.lst ys)/\ys.length=i+1/\(∀ (j:Nat) y',ys[j]?=some y'->Ph j (upd H6 acc (.lst (zs++[y]))) y')/\Same H1 (upd H6 acc (.lst (zs++[y]))))) fun y H6 s6 hy=>?_))
  ·unfold ZcZ;simp only[if_true]
  ·have h6:=s6 _ _ hacc;refine⟨ys,h6,by rw[sizeLine_eq];omega,hi,_,Zab,by simp[hl],fun j y' hj=>?_,(s1.trans s6).put h0⟩;rcases Ybl j ys.length with z | z
   ·rw[YaL z] at hj;exact st2 h6 (st1 (hP j y' hj) s6)
   ·rw[YaI z] at hj;obtain⟨h1,h2⟩:=Yad.mp hj;have:j=i:=by simp at h1;omega
    subst this;have:y=y':=by simpa using h2
    subst this;exact st2 h6 hy
 ·rintro acc H h0 ⟨ys,hacc,hl,hP,s1⟩;exact hd acc ys H h0 hacc hl hP s1
def Zc4 (K:Yae):Sp:=fun vs H Q _=>∃ (p:Nat) (ll dl:Addr) (ls ds:List Int) (R:Int) (n m:Nat),vs=[.int p,.ref ll,.ref dl,.int R]/\2<=p/\p<=7/\H ll=some (.lst (ls.map V.int))/\1<=ls.length/\ls.length<=400/\(∀ l∈ls,0<=l/\l<=1000000000000)/\H dl=some (.lst (ds.map V.int))/\3<=ds.length/\(∀ d∈ds,0<=d)/\BestG (fitF ls (num p)) m (some (R,n))/\ToldP p m/\∀ H',Same H H'->Q (.bl true) H'
theorem ZhS {f f1:Addr}{fd d1:FuncData} (F:Fun K "_law_grown_right" "_law_grown_right" ZaF f fd) (T:Txt mg) (CB:Cal P w K mg base 4 "best_placing" ["p","lengths"] (ZkP K) f1 d1):FnOk P w K mg base CX0 5 f fd ["p","lengths","draws","reading"] (Zc4 K):=by
 refine okW F scGrown41 (fun vs H Q E h=>?_) (fun cdv A outer s H vs Q E hr h=>?_)
 ·obtain⟨p,ll,dl,ls,ds,R,n,m,rfl,_⟩:=h;rfl
 ·obtain⟨p,ll,dl,ls,ds,R,n,m,rfl,p2,p7,hL,hl1,hl5,hlb,hD,hd3,hd0,hB,hT,k⟩:=h;have hr4:Room 4 _:=hr.mono (by decide);have hu1:_+1<cLine:=Yce (Yc2 (by decide:1<=64) _) hr.units;refine⟨_,(Zah (ws (Zaq (i:=4) scGrown41.nd rfl (YaJ rfl) (Zal ZaN (ZaK Zaz (pv 2) Zae (fun _ _=>rfl)) (Zam Zas rfl T.len Ybj (Zaa (pv 1) Zad)))))
   (Zah (Zgw (i:=5) scGrown41.nd rfl (YaJ rfl) (ZnF Zaz (ZeU (Za4 rfl Zae (Za4 rfl (Zal ZaN (ZaK Zaz (pv 2) Zae (fun _ _=>rfl)) Zae) (Za4 rfl (Zal ZaN (ZaK Zaz (pv 2) Zae (fun _ _=>rfl)) (Zal Zb0 Zae Zae)) ZeV)))) (we (Zal ZaN (ZaK Zaz (pv 2) Zae (fun _ _=>rfl)) Zae)) (fun _ _=>rfl)))
   (Zah (ws (Zaq (i:=6) scGrown41.nd rfl (YaJ rfl) (Zal Zbb (Zal Zbb (Za7 Zb7 (pv 1) Zbn (Zbk (pv 4))) (ZaI (Zaa (Zam (Zdr rfl) rfl T.min ZlO (Zaa (Zal Zb0 Zae Zae) (Zaa (Zal ZaP (ZaK Zaz (pv 1) (pv 4) (fun _ _=>rfl)) (pv 5)) Zad))) Zad))) (Za7 Zb7 (pv 1) (Zbk (Zal ZaP (pv 4) Zae)) Zbn))))
   (Zah (Zgw (i:=7) scGrown41.nd rfl (YaJ rfl) (ZeU (Za4 rfl (pv 6) (Za4 rfl (Zal Zbb (pv 1) (ZaI (Zaa Zae Zad))) (Za4 rfl (Zal Zbb (pv 1) (ZaI (Zaa Zae Zad))) (Za4 rfl (Zal Zbb (pv 1) (ZaI (Zaa (Zal ZaN (ZaK Zaz (pv 2) Zae (fun _ _=>rfl)) (Zal Zb0 Zae Zae)) Zad))) ZeV))))))
   (Zah (ws (ZmT (i:=8) scGrown41.nd rfl rfl (own:=["other"]) (js:=[0]) (CompOk.by (sc:=Zac ZaF) (N:=["p","lengths","draws","reading","at","by","greater","some","found"]) rfl rfl (by decide +kernel)) rfl (Zex (pv 7)) ZaB (fun _ _ _ _ _=>(Zaj (i:=0) (by show (["other","p"]:List Str).Nodup;decide +kernel) rfl (YaJ rfl) (.inr rfl))) (fun _ _ _ _ _=>ZaM) (fun _ _ _ _ _=>(ZaK (Znk K) (Zap CB hr4 rfl (Zaa (pv 1) (Zaa (pv 0) Zad))) Zae (fun _ _=>rfl)))))
   (Zax (ws (Zav (Zd1 (Zdc Zk9 (Zam (Zkr rfl) rfl T.min ZlO (Zaa (pv 8) Zad)) (pv 3) (ZaS _)) (Zd0 (Zdc Zgb (ZaK Zaz (pv 8) Zae (fun _ _=>rfl)) (ZaK Zaz (pv 8) Zae (fun _ _=>rfl)) (ZaS _)))))))))))),?_⟩
  have hz:20000<sizeLine:=by decide
  have gl:∀ (i:Nat),i<ds.length->atI (ds.map V.int) (i:Int)=some (.int (ds.getD i 0)):=fun i hi=>Zby (by omega) (by omega);have nnL:∀ l∈ls,0<=l:=fun l hl=>(hlb l hl).1
  refine⟨_,rfl,dl,_,0,_,rfl,rfl,SqL.of hD,gl 0 (by omega),_,rfl,ll,_,rfl,.inl (SqL.of hL),_,_,rfl,rfl,(by rw[Yac];omega),?_⟩;rw[Yac];have a0:=Ya4 (ds.getD 0 0) (show (ls.length:Int)≠0 by omega);have a1:=Yba (ds.getD 0 0) (show (0:Int)<ls.length by omega);obtain⟨i,ei⟩:∃ i:Nat,ds.getD 0 0 % (ls.length:Int)=(i:Int):=⟨(ds.getD 0 0 % (ls.length:Int)).toNat,by omega⟩
  rw[ei] at a0 a1;dsimp only;rw[ei];have hi:i<ls.length:=by omega
  have b0:=Ya4 (ds.getD 1 0) (show (60:Int)≠0 by decide);have b1:=Yba (ds.getD 1 0) (show (0:Int)<60 by decide);have c0:=Ya4 (ds.getD 1 0) (show (100000000000:Int)≠0 by decide);have e0:=Ya4 (ds.getD 1 0) (show (1000000000000:Int)≠0 by decide);have e1x:=Yba (ds.getD 1 0) (show (0:Int)<1000000000000 by decide);have d0:=Ya4 (ds.getD 2 0) (show (3:Int)≠0 by decide);have d1:=Yba (ds.getD 2 0) (show (0:Int)<3 by decide);have gD:∀ {H':Hp},Same H H'->SqL K H' dl (ds.map V.int):=fun s=>SqL.of (s _ _ hD);refine⟨_,rfl,dl,_,1,_,rfl,rfl,SqL.of hD,gl 1 (by omega),_,_,rfl,rfl,(by show (0:Int)<60;decide),?_⟩;refine⟨_,rfl,dl,_,1,_,rfl,rfl,SqL.of hD,gl 1 (by omega),10,11,rfl,rfl,⟨by decide,by decide,by decide⟩,_,_,rfl,rfl,(by show (0:Int)<10 ^ (11:Int).toNat;decide),?_⟩;refine⟨(by show 3<=sizeLine;decide),fun q1 nq1=>?_⟩;dsimp only;rw[show ((10:Int) ^ (11:Int).toNat)=100000000000 from by decide];have s1:=Same.new (o:=.lst [V.int 1,.int (ds.getD 1 0 % 60),.int (ds.getD 1 0 % 100000000000)]) nq1;have e1:upd H q1 (.lst [V.int 1,.int (ds.getD 1 0 % 60),.int (ds.getD 1 0 % 100000000000)]) q1=some (.lst (([1,ds.getD 1 0 % 60,ds.getD 1 0 % 100000000000]:List Int).map V.int)):=Zab;generalize upd H q1 (.lst [V.int 1,.int (ds.getD 1 0 % 60),.int (ds.getD 1 0 % 100000000000)])=H1 at s1 e1 ⊢;obtain⟨by_,hby0,hby⟩:∃ b:Int,0<=b/\atI (([1,ds.getD 1 0 % 60,ds.getD 1 0 % 100000000000]:List Int).map V.int) (ds.getD 2 0 % 3)=some (.int b):=by
   rcases (show ds.getD 2 0 % 3=0∨ds.getD 2 0 % 3=1∨ds.getD 2 0 % 3=2 by omega) with z | z | z <;> rw[z]
   ·exact⟨1,by decide,rfl⟩
   ·exact⟨_,b0,rfl⟩
   ·exact⟨_,c0,rfl⟩
  refine⟨_,rfl,dl,_,2,_,rfl,rfl,gD s1,gl 2 (by omega),_,_,rfl,rfl,(by show (0:Int)<3;decide),?_⟩;refine⟨q1,_,_,.int by_,rfl,rfl,SqL.of e1,hby,?_⟩;have hx:=hlb _ (Zh5 hi);have sh1:=s1 _ _ hL;refine⟨_,rfl,_,rfl,(i:Int),rfl,ll,_,rfl,SqL.of sh1,fun l1 nl1=>?_⟩;rw[ZeL,<- Ydi];have s2:=Same.new (o:=.lst ((ls.take i).map V.int)) nl1;have e2:upd H1 l1 (.lst ((ls.take i).map V.int)) l1=some (.lst ((ls.take i).map V.int)):=Zab;generalize upd H1 l1 (.lst ((ls.take i).map V.int))=H2 at s2 e2 ⊢;have sh2:=s2 _ _ sh1;refine⟨10,12,rfl,rfl,⟨by decide,by decide,by decide⟩,_,rfl,_,rfl,ll,_,(i:Int),_,rfl,rfl,SqL.of sh2,Zby (by omega) (by omega),_,rfl,_,_,rfl,rfl,?_⟩;rw[YaQ];refine⟨_,_,rfl,(by show 1<=sizeLine;decide),fun q2 nq2=>?_⟩;rw[show ((10:Int) ^ (12:Int).toNat)=1000000000000 from by decide];obtain⟨g,eg,g0,g1,g2⟩:∃ g:Int,(if ls.getD i 0+by_<1000000000000 then ls.getD i 0+by_ else 1000000000000)=g/\0<=g/\g<=1000000000000/\ls.getD i 0<=g:=by
   refine⟨_,rfl,?_⟩;split <;> omega
  rw[eg];have s3:=Same.new (o:=.lst [V.int g]) nq2;have e3:upd H2 q2 (.lst [V.int g]) q2=some (.lst (([g]:List Int).map V.int)):=Zab;generalize upd H2 q2 (.lst [V.int g])=H3 at s3 e3 ⊢;refine⟨l1,q2,_,_,rfl,rfl,s3 _ _ e2,e3,Ya2 (Zau (by simp;omega)),fun l3 nl3=>?_⟩;rw[<- Yay];have s4:=Same.new (o:=.lst ((ls.take i++[g]).map V.int)) nl3;have e4:upd H3 l3 (.lst ((ls.take i++[g]).map V.int)) l3=some (.lst ((ls.take i++[g]).map V.int)):=Zab;generalize upd H3 l3 (.lst ((ls.take i++[g]).map V.int))=H4 at s4 e4 ⊢;have s24:=s3.trans s4;have sh4:=s24 _ _ sh2;refine⟨_,rfl,_,rfl,_,_,rfl,rfl,((i+1:Nat):Int),by rw[YdB];rfl,ll,_,rfl,SqL.of sh4,fun l5 nl5=>?_⟩;rw[ZeM,<- YdM];have s5:=Same.new (o:=.lst ((ls.drop (i+1)).map V.int)) nl5;have e5:upd H4 l5 (.lst ((ls.drop (i+1)).map V.int)) l5=some (.lst ((ls.drop (i+1)).map V.int)):=Zab;generalize upd H4 l5 (.lst ((ls.drop (i+1)).map V.int))=H5 at s5 e5 ⊢;refine⟨l3,l5,_,_,rfl,rfl,s5 _ _ e4,e5,Ya2 (Zau (by simp;omega)),fun l6 nl6=>?_⟩;rw[<- Yay];have hgL:=ZjE hi g2;have hgb:∀ l∈ls.take i++[g]++ls.drop (i+1),0<=l/\l<=1000000000000:=fun l hl=>by
   rcases Yaj.mp hl with z | z
   ·rcases Yaj.mp z with z | z
    ·exact hlb l (Ybt z)
    ·rw[YaF.mp z];exact⟨g0,g1⟩
   ·exact hlb l (Ybz z)
  generalize ls.take i++[g]++ls.drop (i+1)=gs at hgL hgb ⊢;have hgl:=hgL.len;have s6:=Same.new (o:=.lst (gs.map V.int)) nl6;have e6:upd H5 l6 (.lst (gs.map V.int)) l6=some (.lst (gs.map V.int)):=Zab;generalize upd H5 l6 (.lst (gs.map V.int))=H6 at s6 e6 ⊢;have s06:Same H H6:=(((s1.trans s2).trans s24).trans s5).trans s6;have h06:=s06 _ _ hL;refine⟨_,rfl,_,rfl,(by show 1<=sizeLine;decide),fun q7 nq7=>?_⟩;have s7:=Same.new (o:=.lst [V.int 0]) nq7;have e7:upd H6 q7 (.lst [V.int 0]) q7=some (.lst (([0]:List Int).map V.int)):=Zab;generalize upd H6 q7 (.lst [V.int 0])=H7 at s7 e7 ⊢;have h07:=s7 _ _ h06;refine⟨ll,q7,_,_,rfl,rfl,h07,e7,Ya2 (Zau (by simp;omega)),fun l8 nl8=>?_⟩;rw[<- Yay];have s8:=Same.new (o:=.lst ((ls++[0]).map V.int)) nl8;have e8:upd H7 l8 (.lst ((ls++[0]).map V.int)) l8=some (.lst ((ls++[0]).map V.int)):=Zab;generalize upd H7 l8 (.lst ((ls++[0]).map V.int))=H8 at s8 e8 ⊢;have h08:=s8 _ _ h07;refine⟨_,rfl,(by show 1<=sizeLine;decide),fun q9 nq9=>?_⟩;have s9:=Same.new (o:=.lst [V.int 1]) nq9;have e9:upd H8 q9 (.lst [V.int 1]) q9=some (.lst (([1]:List Int).map V.int)):=Zab;generalize upd H8 q9 (.lst [V.int 1])=H9 at s9 e9 ⊢;have h09:=s9 _ _ h08;refine⟨ll,q9,_,_,rfl,rfl,h09,e9,Ya2 (Zau (by simp;omega)),fun l10 nl10=>?_⟩;rw[<- Yay];have s10:=Same.new (o:=.lst ((ls++[1]).map V.int)) nl10;have e10:upd H9 l10 (.lst ((ls++[1]).map V.int)) l10=some (.lst ((ls++[1]).map V.int)):=Zab;generalize upd H9 l10 (.lst ((ls++[1]).map V.int))=H10 at s10 e10 ⊢;have h010:=s10 _ _ h09;have s12:Same H H10:=(((s06.trans s7).trans s8).trans s9).trans s10;refine⟨_,rfl,_,rfl,dl,_,1,_,rfl,rfl,gD s12,gl 1 (by omega),10,12,rfl,rfl,⟨by decide,by decide,by decide⟩,_,_,rfl,rfl,(by show (0:Int)<10 ^ (12:Int).toNat;decide),?_⟩;dsimp only;rw[show ((10:Int) ^ (12:Int).toNat)=1000000000000 from by decide];generalize ds.getD 1 0 % 1000000000000=xw at e0 e1x ⊢;refine⟨(by show 1<=sizeLine;decide),fun q11 nq11=>?_⟩;have s11:=Same.new (o:=.lst [V.int xw]) nq11;have e11:upd H10 q11 (.lst [V.int xw]) q11=some (.lst (([xw]:List Int).map V.int)):=Zab;generalize upd H10 q11 (.lst [V.int xw])=H11 at s11 e11 ⊢;have h011:=s11 _ _ h010;refine⟨ll,q11,_,_,rfl,rfl,h011,e11,Ya2 (Zau (by simp;omega)),fun l12 nl12=>?_⟩;rw[<- Yay];have s12b:=Same.new (o:=.lst ((ls++[xw]).map V.int)) nl12;have e12:upd H11 l12 (.lst ((ls++[xw]).map V.int)) l12=some (.lst ((ls++[xw]).map V.int)):=Zab;generalize upd H11 l12 (.lst ((ls++[xw]).map V.int))=H12 at s12b e12 ⊢;have h012:=s12b _ _ h011;refine⟨(by show 4<=sizeLine;decide),fun sl nsl=>?_⟩;have s13:=Same.new (o:=.lst [V.ref l6,.ref l8,.ref l10,.ref l12]) nsl;have e13:upd H12 sl (.lst [V.ref l6,.ref l8,.ref l10,.ref l12]) sl=some (.lst [V.ref l6,.ref l8,.ref l10,.ref l12]):=Zab;generalize upd H12 sl (.lst [V.ref l6,.ref l8,.ref l10,.ref l12])=H13 at s13 e13 ⊢;have s06_13:Same H H13:=((s12.trans s11).trans s12b).trans s13;have f6:H13 l6=some (.lst (gs.map V.int)):=s13 _ _ (s12b _ _ (s11 _ _ (s10 _ _ (s9 _ _ (s8 _ _ (s7 _ _ e6))))));have f8:H13 l8=some (.lst ((ls++[0]).map V.int)):=s13 _ _ (s12b _ _ (s11 _ _ (s10 _ _ (s9 _ _ e8))));have f10:H13 l10=some (.lst ((ls++[1]).map V.int)):=s13 _ _ (s12b _ _ (s11 _ _ e10));have f12:H13 l12=some (.lst ((ls++[xw]).map V.int)):=s13 _ _ e12;have bx:∀ x:Int,0<=x->x<=1000000000000->∀ l∈ls++[x],0<=l/\l<=1000000000000:=fun x h0 h1 l hl=>by
   rcases Yaj.mp hl with z | z
   ·exact hlb l z
   ·rw[YaF.mp z];exact⟨h0,h1⟩
  have hall:∀ (i:Nat) x,[V.ref l6,V.ref l8,V.ref l10,V.ref l12][i]?=some x->∃ a,x=.ref a/\H13 a=some (.lst (([gs,ls++[0],ls++[1],ls++[xw]].getD i []).map V.int))/\([gs,ls++[0],ls++[1],ls++[xw]].getD i []).length<=500/\∀ l∈[gs,ls++[0],ls++[1],ls++[xw]].getD i [],0<=l/\l<=1000000000000:=by
   intro i x hx
   match i,hx with
   | 0,hx=>cases hx;exact⟨l6,rfl,f6,(by show gs.length<=500;omega),hgb⟩
   | 1,hx=>cases hx;exact⟨l8,rfl,f8,(by show (ls++[(0:Int)]).length<=500;simp;omega),bx 0 (by decide) (by decide)⟩
   | 2,hx=>cases hx;exact⟨l10,rfl,f10,(by show (ls++[(1:Int)]).length<=500;simp;omega),bx 1 (by decide) (by decide)⟩
   | 3,hx=>cases hx;exact⟨l12,rfl,f12,(by show (ls++[xw]).length<=500;simp;omega),bx xw e0 (by omega)⟩
   | n+4,hx=>simp at hx
  refine⟨_,rfl,sl,true,rfl,⟨_,SqL.of e13⟩,?_⟩;refine Zgp (fun i _ v=>∃ (R':Int) (n':Nat),v=V.int R'/\BestG (fitF ([gs,ls++[0],ls++[1],ls++[xw]].getD i []) (num p)) m (some (R',n'))) (show SqB true K H13 sl [V.ref l6,V.ref l8,V.ref l10,V.ref l12] from SqL.of e13) (by show 4<=20000;decide) (fun h _=>h) (fun _ h=>h) (fun i x hx H14 s14 R2 hR=>?_) fun acc ys H14 h014 hacc hly hP s14=>?_
  ·obtain⟨a,rfl,ha,hal,hab⟩:=hall i x hx;refine⟨_,rfl,_,rfl,p,a,_,rfl,p2,p7,SqL.of (s14 _ _ ha),hal,hab,fun t pl qs ks n' m' H15 ht hpl hTu hin hnd hll h4' hBG hTo s15=>?_⟩;cases hTo.one hT;exact⟨t,_,0,_,rfl,rfl,SqT.of ht,rfl,hR _ _ s15 ⟨_,n',rfl,hBG⟩⟩
  match ys,hly,hP,hacc with
  | [y0,y1,y2,y3],_,hP,hacc=>
   obtain⟨R0,n0,rfl,B0⟩:=hP 0 y0 rfl;obtain⟨R1,n1,rfl,B1⟩:=hP 1 y1 rfl;obtain⟨R2,n2,rfl,B2⟩:=hP 2 y2 rfl;obtain⟨R3,n3,rfl,B3⟩:=hP 3 y3 rfl;have u0:R<=R0:=Zhe hgL nnL hB B0;have u1:R<=R1:=ZeE (by decide) nnL hB B1;have u2:R<=R2:=ZeE (by decide) nnL hB B2;have u3:R<=R3:=ZeE e0 nnL hB B3;have u12:R1<=R2:=Zhe (Zgf (leP.refl ls) (show leP [0] [1] from⟨by decide,trivial⟩)) (fun l hl=>(bx 0 (by decide) (by decide) l hl).1) B1 B2;have hac:SqL K H14 acc (([R0,R1,R2,R3]:List Int).map V.int):=SqL.of hacc;refine⟨_,rfl,true,acc,[R0,R1,R2,R3],rfl,hac,by simp,fun mm hm _=>?_⟩;have hmm:R<=mm:=by
    simp only[Yao,Ybm,or_false] at hm;rcases hm with rfl | rfl | rfl | rfl <;> assumption
   refine⟨_,rfl,_,_,rfl,rfl,true,congrArg V.bl (decide_eq_true hmm),iteT ?_⟩;refine⟨_,rfl,acc,_,1,.int R1,rfl,rfl,hac,rfl,_,rfl,acc,_,2,.int R2,rfl,rfl,hac,rfl,_,_,rfl,rfl,?_⟩;have:=k H14 (s06_13.trans s14)
   rwa [<- decide_eq_true u12] at this
end
end Fk41
namespace Fk41
open PySem L2 Lv
section
variable {P:Program}{w:World}{K:Yae}{mg:Str->Option Value}{base:Heap}
theorem scFold41:FnScope ["script","cells","k"] ["script"] (Zac ZcC):=⟨rfl,rfl,rfl,by decide +kernel,rfl,by decide +kernel,by decide +kernel⟩
def Zem (K:Yae):Sp:=fun vs H Q _=>∃ (a:Addr) (ns:List Int),vs=[.ref a]/\SqL K H a (ns.map V.int)/\ns.length<=1000/\∀ l (cs:List Int) H',H l=none->H' l=some (.lst (cs.map V.int))->cs.length<=3->Same H H'->Q (.ref l) H'
theorem Zjg {f:Addr}{fd:FuncData} (F:Fun K "_law_folded" "_law_folded" ZcC f fd) (T:Txt mg):FnOk P w K mg base CX0 1 f fd ["script"] (Zem K):=by
 refine okW F scFold41 (fun vs H Q E h=>?_) (fun cdv A outer s H vs Q E hr h=>?_)
 ·obtain⟨a,ns,rfl,_⟩:=h;rfl
 ·obtain⟨a,ns,rfl,hS,hn,k⟩:=h;refine⟨_,(Zah (ws (Zaq (i:=1) scFold41.nd rfl (YaJ rfl) (Za7 Zb7 (pv 0) Zbn (Zbk Zae))))
   (Zah (ws (Zbd Ybf rfl (ZiU rfl T.range (Zaa Zae (Zaa (Zam Zas rfl T.len Ybj (Zaa (pv 0) Zad)) Zad))) (Zaj (i:=2) scFold41.nd rfl (YaJ rfl))
   (WSs.out (Zax (ws (ZdY (Zal ZaP (Zal Zb1 (ZaK Zaz (pv 1) (Zal ZaN (pv 2) Zae) (fun _ _=>rfl)) Zae) (ZaK Zaz (pv 0) (pv 2) (fun _ _=>rfl))) (ZiX (pv 1) (Zal ZaN (pv 2) Zae) Zeu)))))))
   (Zax (ws (Zav (Zal Zbb (pv 1) (ZaI (Zaa (Zam Zas rfl T.len Ybj (Zaa (pv 0) Zad)) Zad)))))))),?_⟩
  refine⟨_,rfl,2,rfl,a,_,rfl,hS,fun l e1=>?_⟩;rw[show (some (2:Int))=some ((2:Nat):Int) from rfl,ZeL,<- Ydi];have s1:Same H (upd H l (.lst ((ns.take 2).map V.int))):=Same.new e1;have hl1:upd H l (.lst ((ns.take 2).map V.int)) l=some (.lst ((ns.take 2).map V.int)):=Zab;generalize upd H l (.lst ((ns.take 2).map V.int))=H1 at s1 hl1 ⊢;refine⟨_,rfl,a,_,rfl,.inl (s1.seq hS),2,_,rfl,⟨by decide,by decide,by rw[Yac];omega,by rw[Yac];omega⟩,?_⟩;rw[Yac];refine Za2 (fun i σ Hx=>∃ (fs:List Int) (o:Option V),σ=[some (.ref a),some (.ref l),o]/\fs.length=(ns.take 2).length/\Hx l=some (.lst (fs.map V.int))/\Same H Hx) ⟨ns.take 2,none,rfl,rfl,hl1,s1⟩ ?_ ?_
  ·rintro i σ Hx hi ⟨fs,o,rfl,hfl,hlx,sx⟩;have hl2:fs.length=2:=by rw[hfl,Yaz];omega
   have hns:2+i<ns.length:=by omega
   have em:((2:Int)+(i:Int)) % 2=(((2+i) % 2:Nat):Int):=by omega
   have hm2:(2+i) % 2<2:=YdW _ (by decide);refine⟨_,rfl,_,rfl,_,_,rfl,rfl,(by show (0:Int)<2;decide),l,_,_,.int (fs.getD ((2+i) % 2) 0),rfl,rfl,SqL.of hlx,?_,?_⟩
   ·rw[em];exact Zby (by omega) (by omega)
   refine⟨_,31,rfl,rfl,.inr ⟨by decide,by decide⟩,_,rfl,_,rfl,a,_,_,.int (ns.getD (2+i) 0),rfl,rfl,sx.seq hS,?_,?_⟩
   ·have e8:(2:Int)+(i:Int)=((2+i:Nat):Int):=by omega
    rw[e8];exact Zby (by omega) (by omega)
   refine⟨_,_,rfl,rfl,?_⟩;refine⟨_,rfl,_,rfl,_,_,rfl,rfl,(by show (0:Int)<2;decide),l,_,_,(2+i) % 2,rfl,rfl,hlx,?_,?_⟩
   ·rw[em,Yac,hl2];exact Zg8 (by omega) (by omega)
   refine⟨fs.set ((2+i) % 2) (fs.getD ((2+i) % 2) 0*31+ns.getD (2+i) 0),_,rfl,by rw[Ydv];exact hfl,?_,sx.put e1⟩;rw[Zab,List.map_set]
  ·rintro σ Hx ⟨fs,o,rfl,hfl,hlx,sx⟩;have hl2:fs.length<=2:=by rw[hfl,Yaz];omega
   refine⟨_,rfl,_,rfl,a,_,rfl,.inl (sx.seq hS),(by show 1<=sizeLine;decide),fun q hq=>⟨l,q,_,_,rfl,rfl,(Same.new hq) l _ hlx,Zab,?_,fun l2 hl2=>?_⟩⟩
   ·exact Ya2 (Zau (by simp;omega))
   have s2:=Same.new (o:=.lst [.int ((ns.map V.int).length:Int)]) hq;refine k l2 (fs++[((ns.map V.int).length:Int)]) _ (sx.free (s2.free hl2)) (by rw[Zab];simp) (by simp;omega) ((sx.trans s2).trans (Same.new hl2))
end
end Fk41
namespace Fk41
open PySem L2 Lv
section
variable {P:Program}{w:World}{K:Yae}{mg:Str->Option Value}{base:Heap}
theorem scDraws:FnScope ["cell","many","base","found","left","k"] ["cell","many","base"] (Zac ZdU):=⟨rfl,rfl,rfl,by decide +kernel,rfl,by decide +kernel,by decide +kernel⟩
def Zeo:Sp:=fun vs H Q _=>∃ (c:Int) (m:Nat) (b:Int),vs=[.int c,.int m,.int b]/\m<=900/\0<b/\Ya3 b<=8000/\∀ (l:Addr) (ds:List Int) (H':Hp),H l=none->H' l=some (.lst (ds.map V.int))->ds.length=m->(∀ d∈ds,0<=d)->Same H H'->Q (.ref l) H'
theorem Zlq {f fA:Addr}{fd dA:FuncData} (F:Fun K "_law_draws" "_law_draws" ZdU f fd) (T:Txt mg) (CA:Cal P w K mg base 1 "_law_mixed" ["cell","k"] Zf1 fA dA):FnOk P w K mg base CX0 2 f fd ["cell","many","base"] Zeo:=by
 refine F.ok scDraws (fun vs H Q E h=>?_) (fun cdv A outer s H vs Q E hr h=>?_)
 ·obtain⟨c,m,b,rfl,_⟩:=h;rfl
 ·obtain⟨c,m,b,rfl,hm,hb0,hbb,k⟩:=h;refine⟨_,Zan (Zaq (i:=3) scDraws.nd rfl (YaJ rfl) (ZaI Zad))
   (Zan (Zaq (i:=4) scDraws.nd rfl (YaJ rfl) Zae)
   (Zan (Zfe (ZaO Zk9 (pv 0) (Zal Zb0 Zae Zae) (ZaS _)) (Zao (Zaq (i:=4) scDraws.nd rfl (YaJ rfl) (Zal ZbZ (pv 0) (Zal Zb0 Zae Zae)))) Zb9)
   (Zan (Zbd Ybf rfl (ZaH rfl T.range (Zaa (pv 1) Zad)) (Zaj (i:=5) scDraws.nd rfl (YaJ rfl))
    (Zao (Zfe (ZaO Zi7 (pv 4) Zae (ZaS _))
     (Zan (ZaX (ZhO YbH Yb4 Yb3 Zbl (pv 3) (Zaa (Zal ZaN (pv 4) (pv 2)) Zad)))
     (Zao (Zaq (i:=4) scDraws.nd rfl (YaJ rfl) (Zal Zla (pv 4) (pv 2)))))
     (Zao (ZaX (ZhO YbH Yb4 Yb3 Zbl (pv 3) (Zaa (Zal ZaN (Zap CA hr rfl (Zaa (pv 0) (Zaa (pv 5) Zad))) (pv 2)) Zad)))))))
   (Zao (Zav (pv 3)))))),?_⟩
  refine cut3 (fun σ' H'=>∃ (l:Addr) (lf:Int),H l=none/\σ'=[some (.int c),some (.int m),some (.int b),some (.ref l),some (.int lf),none]/\H'=upd H l (.lst [])) (fun R hR=>?_) ?_
  ·refine⟨YaW _,fun l hl=>?_⟩;refine⟨_,rfl,10,18,rfl,rfl,⟨by decide,by decide,by decide⟩,_,_,rfl,rfl,_,rfl,?_⟩;refine ite2 (fun _=>?_) (fun _=>hR _ _ ⟨l,_,hl,rfl,rfl⟩);exact⟨_,rfl,10,18,rfl,rfl,⟨by decide,by decide,by decide⟩,_,_,rfl,rfl,hR _ _ ⟨l,_,hl,rfl,rfl⟩⟩
  ·rintro σ' H' ⟨l,lf,hl,rfl,rfl⟩;refine⟨_,rfl,m,rfl,by omega,by omega,Za2 (fun i σ H2=>∃ (lf:Int) (o:Option V) (ds:List Int),σ=[some (.int c),some (.int m),some (.int b),some (.ref l),some (.int lf),o]/\H2 l=some (.lst (ds.map V.int))/\ds.length=i/\(∀ d∈ds,0<=d)/\Same H H2)
    ⟨lf,none,[],rfl,Zab,rfl,fun d hd=>by simp at hd,Same.new hl⟩ ?_ ?_⟩
   ·rintro i σ H2 hi ⟨lf,o,ds,rfl,hl2,hd,h0,s2⟩;have push:∀ (y:Int),0<=y->((upd H2 l (.lst (ds.map V.int++[.int y]))) l=some (.lst ((ds++[y]).map V.int)))/\(ds++[y]).length=i+1/\(∀ d∈ds++[y],0<=d):=by
     intro y hy;refine⟨by rw[Zab];simp,by simp[hd],fun d hd'=>?_⟩;rcases Yaj.mp hd' with z | z
     ·exact h0 d z
     ·have:d=y:=by simpa using z
      omega
    refine⟨_,rfl,_,_,rfl,rfl,_,rfl,?_⟩;refine ite2 (fun hc=>?_) (fun hc=>?_)
    ·refine⟨_,rfl,.inl ⟨rfl,_,SqL.of hl2⟩,_,rfl,_,rfl,lf,b,rfl,rfl,hb0,l,_,_,rfl,rfl,hl2,Zau (by rw[Yac];omega),?_⟩;obtain⟨p1,p2,p3⟩:=push (lf % b) (Ya4 _ (by omega));refine⟨_,rfl,_,rfl,lf,b,rfl,rfl,⟨hb0,hbb⟩,?_⟩;exact⟨_,_,ds++[lf % b],rfl,p1,p2,p3,s2.put hl⟩
    ·refine⟨_,rfl,.inl ⟨rfl,_,SqL.of hl2⟩,_,rfl,_,rfl,c,i,?_,by omega,fun d H3 d0 s3=>?_⟩
     ·rw[show ((0:Int)+(i:Int))=(i:Int) by omega];rfl
     have hl3:=s3 l _ hl2;refine⟨_,rfl,d,b,rfl,rfl,hb0,l,_,_,rfl,rfl,hl3,Zau (by rw[Yac];omega),?_⟩;obtain⟨p1,p2,p3⟩:=push (d % b) (Ya4 _ (by omega));refine⟨_,_,ds++[d % b],rfl,by rw[Zab];simp,p2,p3,(s2.trans s3).put hl⟩
   ·rintro σ H2 ⟨lf,o,ds,rfl,hl2,hd,h0,s2⟩;exact⟨_,rfl,k l ds H2 hl hl2 (by rw[hd];omega) h0 s2⟩
theorem scLevel72:FnScope ["p","rows","further","most","counts","level","higher"] ["p","rows","further","most"] (Zac Zbs):=⟨rfl,rfl,rfl,by decide +kernel,rfl,by decide +kernel,by decide +kernel⟩
theorem Zmu {a b:TT}{σ:L2.St}{H:Hp}{Q:Bool->Hp->Prop} (c1 c2:Bool) (ha:∀ R:Bool->Hp->Prop,R c1 H->a σ H R) (hb:∀ R:Bool->Hp->Prop,R c2 H->b σ H R) (q:Q (c1 || c2) H):tOr a b σ H Q:=ha _ (by
 cases c1
 ·exact hb _ q
 ·exact q)
theorem Zpb {p:Nat} (n:Nat):hd p n<=tot p n:=ZnV (Zct p n).2
theorem Zip {p:Nat} (hp:2<=p) (h7:p<=7) (n:Nat):tot p (n+1)<=7*tot p n:=by
 have h1:=Zd9 hp n;have h2:=Zpb (p:=p) n;have h3:=Zfu hp n;have:((p - 1:Nat):Int)*hd p n<=6*hd p n:=YbB (by omega) (by omega);omega
def Zei (K:Yae):Sp:=fun vs H Q _=>∃ (p:Nat) (rows fu mo B:Int),vs=[.int p,.int rows,.int fu,.int mo]/\2<=p/\p<=7/\1<=rows/\7*rows<=B/\0<=fu/\mo<=B/\∀ (n:Nat) H',rows<=tot p n->tot p n<=B->Same H H'->Q (.int n) H'
theorem Zjc {f:Addr}{fd:FuncData} (F:Fun K "_law_level" "_law_level" Zbs f fd) (T:Txt mg):FnOk P w K mg base CX0 1 f fd ["p","rows","further","most"] (Zei K):=by
 refine okW F scLevel72 (fun vs H Q E h=>?_) (fun cdv A outer s H vs Q E hr h=>?_)
 ·obtain⟨p,rows,fu,mo,B,rfl,_⟩:=h;rfl
 ·obtain⟨p,rows,fu,mo,B,rfl,p2,p7,r1,rB,f0,mB,k⟩:=h;refine⟨_,(Zah (ws (Zaq (i:=4) scLevel72.nd rfl (Ydb rfl) (Zal Zbb (ZaI (Zaa Zae Zad)) (Zal Zfg (ZaI (Zaa Zae Zad)) (Zal ZbZ (pv 0) Zae)))))
   (Zah (ws (Zaq (i:=5) scLevel72.nd rfl (YaJ rfl) Zae))
   (Zah (ws (ZgS Ybf (PW.pt (Zfd (ZaO Zk8 (Zam (ZbI rfl) rfl T.sum Zib (Zaa (pv 4) Zad)) (pv 1) (ZaS _)) (Zda (ZaO Zi7 (pv 2) Zae (ZaS _)))))
   (WSs.out (Zah (ws (Zaq (i:=6) scLevel72.nd rfl (YaJ rfl) (Zal Zbb (Za0 (own:=["k"]) (js:=[4]) (CompOk.by (sc:=Zac Zbs) (N:=["p","rows","further","most","counts","level","higher"]) rfl rfl (by decide +kernel)) rfl (ZaH rfl T.range (Zaa (Zal ZbZ (pv 0) Zae) Zad)) ZaB (fun _ _ _ _ _=>(Zaj (i:=0) (by show (["k","counts"]:List Str).Nodup;decide +kernel) rfl (YaJ rfl) (.inr rfl))) (fun _ _ _ _ _=>ZaM) (fun _ _ _ _ _=>(Zal ZaP (ZaK (ZeC K) (pv 1) Zae (fun _ _=>rfl)) (ZaK (ZeC K) (pv 1) (Zal ZaP (pv 0) Zae) (fun _ _=>rfl))))) (ZaI (Zaa (ZaK Zaz (pv 4) Zae (fun _ _=>rfl)) Zad)))))
    (Zah (ZcQ (ZaO Zk9 (Zam (ZbI rfl) rfl T.sum Zib (Zaa (pv 4) Zad)) (pv 1) (ZaS _))
    (Zah (ws (Zaq (i:=2) scLevel72.nd rfl (YaJ rfl) (Zal ZbZ (pv 2) Zae)))
     (Zax (ZcQ (ZaO Zi7 (Zam (ZbI rfl) rfl T.sum Zib (Zaa (pv 6) Zad)) (pv 3) (ZaS _))
     (Zah (ws (Zaq (i:=2) scLevel72.nd rfl (YaJ rfl) Zae))
      (Zah (ws (Zaq (i:=6) scLevel72.nd rfl (YaJ rfl) (pv 4)))
      (Zax (ws (Zaq (i:=5) scLevel72.nd rfl (YaJ rfl) (Zal ZbZ (pv 5) Zae))))))
     Zbc)))
    Zbc)
    (Zah (ws (Zaq (i:=4) scLevel72.nd rfl (Ydb rfl) (pv 6)))
    (Zax (ws (Zaq (i:=5) scLevel72.nd rfl (YaJ rfl) (Zal ZaP (pv 5) Zae))))))))))
   (Zax (ws (Zav (pv 5))))))),?_⟩
  have hz:20000<sizeLine:=by decide
  refine⟨(by show 1<=sizeLine;decide),fun q1 n1=>⟨(by show 1<=sizeLine;decide),fun q2 n2=>?_⟩⟩;have s2:=(Same.new (o:=.lst [V.int 1]) n1).trans (Same.new (o:=.lst [V.int 0]) n2);have e1:upd (upd H q1 (.lst [V.int 1])) q2 (.lst [V.int 0]) q1=some (.lst [V.int 1]):=(Same.new n2) _ _ Zab;have e2:upd (upd H q1 (.lst [V.int 1])) q2 (.lst [V.int 0]) q2=some (.lst [V.int 0]):=Zab;generalize upd (upd H q1 (.lst [V.int 1])) q2 (.lst [V.int 0])=H2 at s2 e1 e2 ⊢;refine⟨_,rfl,_,_,rfl,rfl,q2,_,_,rfl,rfl,e2,by show -(2 ^ 63)<=(p:Int) - 1;omega,by show (p:Int) - 1<2 ^ 63;omega,?_,fun q3 n3=>?_⟩
  ·exact Ya2 (Zau (by show 1*((p:Int) - 1).toNat<=1000;omega))
  have s3:=Same.new (o:=.lst (Yai ((p:Int) - 1).toNat [V.int 0]).flatten) n3;refine⟨q1,q3,_,_,rfl,rfl,s3 _ _ e1,Zab,?_,fun l0 n0=>?_⟩
  ·exact Ya2 (Zau (by rw[ZjC];simp;omega))
  have e0:[V.int 1]++(Yai ((p:Int) - 1).toNat [V.int 0]).flatten=(cnt p 0).map V.int:=by
   show _=(Zcs p).map V.int;unfold Zcs;rw[YcH,show ((p:Int) - 1).toNat=p - 1 by omega,YaH,Yfr];rfl
  rw[e0];generalize upd H2 q3 (.lst (Yai ((p:Int) - 1).toNat [V.int 0]).flatten)=H3 at s3 n0 ⊢;have s4:=Same.new (o:=.lst ((cnt p 0).map V.int)) n0;have e4:upd H3 l0 (.lst ((cnt p 0).map V.int)) l0=some (.lst ((cnt p 0).map V.int)):=Zab;generalize upd H3 l0 (.lst ((cnt p 0).map V.int))=H4 at s4 e4 ⊢;have s04:=(s2.trans s3).trans s4;have t0:tot p 0=1:=by unfold tot cnt Zcs;simp
  refine⟨fun m σ Hx=>∃ (n:Nat) (cl:Addr) (fu:Int) (o6:Option V),m=(rows - tot p n).toNat+fu.toNat/\σ=[some (.int p),some (.int rows),some (.int fu),some (.int mo),some (.ref cl),some (.int n),o6]/\Hx cl=some (.lst ((cnt p n).map V.int))/\tot p n<=B/\0<=fu/\Same H Hx,⟨_,0,l0,fu,none,rfl,rfl,e4,by omega,f0,s04⟩,?_⟩;rintro m σ Hx ⟨n,cl,fu,o6,rfl,rfl,hcl,hb,hf,sx⟩;have hcl7:=Zdo (p:=p) (by omega) n;refine Zmu (decide (tot p n<rows)) (decide (fu > 0)) (fun R h=>⟨_,rfl,cl,_,rfl,SqL.of hcl,_,rfl,_,_,rfl,rfl,_,rfl,h⟩) (fun R h=>⟨_,rfl,_,_,rfl,rfl,_,rfl,h⟩) ?_;refine ite2 (fun hgo=>?_) (fun hst=>?_)
  ·refine⟨fun σ' H'=>∃ (m:Nat) (n':Nat) (cl:Addr) (fu':Int) (o6:Option V),m=(rows - tot p n').toNat+fu'.toNat/\m<(rows - tot p n).toNat+fu.toNat/\σ'=[some (.int p),some (.int rows),some (.int fu'),some (.int mo),some (.ref cl),some (.int n'),o6]/\H' cl=some (.lst ((cnt p n').map V.int))/\tot p n'<=B/\0<=fu'/\Same H H',fun σ' H' ⟨m,n,cl,fu,o6,e1,e2,r⟩=>⟨m,e2,n,cl,fu,o6,e1,r⟩,?_⟩;refine⟨_,rfl,_,_,rfl,rfl,_,rfl,by show -(2 ^ 62)<=(p:Int) - 1;omega,by show (p:Int) - 1<2 ^ 62;omega,?_⟩;rw[show ((p:Int) - 1).toNat=p - 1 by omega];have gc:∀ j:Nat,j<p->atI ((cnt p n).map V.int) (j:Int)=some (.int ((cnt p n).getD j 0)):=fun j hj=>by
    rw[Zby (by omega) (by omega),YaQ]
   refine Zkh (lo:=0) (n:=p - 1) (((YaT (p - 1)).map fun k=>(cnt p n).getD 0 0+(cnt p n).getD (k+1) 0).map V.int) (by simp) (by omega) (fun i z hi hz' Hc sc Rr hRr=>?_) fun a5 H5 na5 s5 ha5=>?_
   ·rw[Yam,Yam,Ycy hi] at hz';cases hz';refine⟨_,rfl,cl,_,0,_,rfl,rfl,SqL.of (sc _ _ hcl),gc 0 (by omega),_,rfl,_,rfl,_,_,rfl,rfl,cl,_,_,_,rfl,rfl,SqL.of (sc _ _ hcl),(by rw[show (0:Int)+(i:Int)+1=((i+1:Nat):Int) by omega];exact gc (i+1) (by omega)),_,_,rfl,rfl,hRr Hc (Same.refl _)⟩
   refine⟨_,rfl,cl,_,0,_,rfl,rfl,SqL.of (s5 _ _ hcl),gc 0 (by omega),(by show 1<=sizeLine;decide),fun q6 n6=>?_⟩;have s6:=Same.new (o:=.lst [V.int ((cnt p n).getD 0 0)]) n6;refine⟨a5,q6,_,_,rfl,rfl,s6 _ _ ha5,Zab,by rw[sizeLine_eq];simp;omega,fun hl nhl=>?_⟩;have ec:((YaT (p - 1)).map fun k=>(cnt p n).getD 0 0+(cnt p n).getD (k+1) 0).map V.int++[V.int ((cnt p n).getD 0 0)]=(cnt p (n+1)).map V.int:=by
    show _=(Zbt (cnt p n)).map V.int;unfold Zbt;rw[Yay];congr 2;apply Ydg;intro j;rw[Yam,Yam];by_cases hj:j<p - 1
    ·rw[Ycy hj,List.getElem?_tail,Yaa (by omega)];simp only[YcB];rw[show (cnt p n).getD (j+1) 0=(cnt p n)[j+1]'(by omega) by rw[Yat,Yaa (by omega)];rfl]
    ·rw[Yb1 (by simp;omega),Yb1 (by simp;omega)];rfl
   rw[ec];generalize upd H5 q6 (.lst [V.int ((cnt p n).getD 0 0)])=H6 at s6 nhl ⊢;have s7:=Same.new (o:=.lst ((cnt p (n+1)).map V.int)) nhl;have e7:upd H6 hl (.lst ((cnt p (n+1)).map V.int)) hl=some (.lst ((cnt p (n+1)).map V.int)):=Zab;generalize upd H6 hl (.lst ((cnt p (n+1)).map V.int))=H7 at s7 e7 ⊢;have s57:=(s5.trans s6).trans s7;have hcl7:=s57 _ _ hcl;have sx7:=sx.trans s57;have hlt:=Ziq p2 n;dsimp only;refine cutG (a:=tIfS _ _ _) (fun σ' H'=>∃ (fu':Int) (n':Nat) (lv:Int) (hl':Addr),σ'=[some (.int p),some (.int rows),some (.int fu'),some (.int mo),some (.ref cl),some (.int lv),some (.ref hl')]/\lv+1=n'/\H' hl'=some (.lst ((cnt p n').map V.int))/\tot p n'<=B/\0<=fu'/\(rows - tot p n').toNat+fu'.toNat<(rows - tot p n).toNat+fu.toNat/\Same H H') (fun R' hR=>?_) ?_
   ·refine⟨_,rfl,cl,_,rfl,SqL.of hcl7,_,rfl,_,_,rfl,rfl,_,rfl,ite2 (fun hge=>?_) fun hlt2=>?_⟩
    ·have hge:(tot p n:Int) ≥ rows:=of_decide_eq_true hge;have hfp:0<fu:=by
      rw[decide_eq_false (show ¬ tot p n<rows by omega),Bool.false_or] at hgo;exact of_decide_eq_true hgo
     refine⟨_,rfl,_,_,rfl,rfl,_,rfl,hl,_,rfl,SqL.of e7,_,rfl,_,_,rfl,rfl,_,rfl,ite2 (fun _=>?_) fun hle=>?_⟩
     ·exact⟨_,rfl,_,rfl,_,_,rfl,rfl,hR _ _ ⟨0,n,_,cl,rfl,by omega,hcl7,hb,by omega,by omega,sx7⟩⟩
     ·have hle:¬ tot p (n+1) > mo:=fun z=>hle (decide_eq_true z);exact hR _ _ ⟨_,n+1,_,hl,rfl,by omega,e7,by omega,by omega,by omega,sx7⟩
    ·have hlt2:¬ tot p n ≥ rows:=fun z=>hlt2 (decide_eq_true z);have h7:=Zip p2 p7 n;exact hR _ _ ⟨fu,n+1,_,hl,rfl,by omega,e7,by omega,hf,by omega,sx7⟩
   rintro σ H8 ⟨fu',n',lv,hl',rfl,hlv,hhl,hb',hf',hm',sx8⟩;refine⟨_,rfl,_,rfl,_,_,rfl,rfl,?_⟩;exact⟨_,n',hl',fu',_,rfl,hm',by rw[<- hlv];rfl,hhl,hb',hf',sx8⟩
  ·have hst:¬ (tot p n<rows)/\¬ fu > 0:=by
    constructor
    ·intro z;exact hst (by rw[decide_eq_true z];rfl)
    ·intro z;exact hst (by rw[decide_eq_true z,Bool.or_true])
   exact⟨_,rfl,k n _ (by omega) hb sx⟩
theorem scReels72:FnScope ["p","n","reels","level","more"] ["p","n"] (Zac Zbf):=⟨rfl,rfl,rfl,by decide +kernel,rfl,by decide +kernel,by decide +kernel⟩
def Zc1 (K:Yae):Sp:=fun vs H Q _=>∃ (p n:Nat),vs=[.int p,.int n]/\2<=p/\p<=7/\n<=400/\tot p n<=4000/\∀ l (rs:List Addr) H',H l=none->H' l=some (.lst (rs.map V.ref))->LLs H' rs (num p n)->Same H H'->Q (.ref l) H'
theorem ZhP {f:Addr}{fd:FuncData} (F:Fun K "_law_reels" "_law_reels" Zbf f fd) (T:Txt mg):FnOk P w K mg base CX0 1 f fd ["p","n"] (Zc1 K):=by
 refine okW F scReels72 (fun vs H Q E h=>?_) (fun cdv A outer s H vs Q E hr h=>?_)
 ·obtain⟨p,n,rfl,_⟩:=h;rfl
 ·obtain⟨p,n,rfl,p2,p7,hn,ht,k⟩:=h;refine⟨_,(Zah (ws (Zaq (i:=2) scReels72.nd rfl (Ydb rfl) (Zal Zbb (ZaI (Zaa (ZaI (Zaa Zae Zad)) Zad)) (Za0 (own:=["reel"]) (js:=[]) (CompOk.by (sc:=Zac Zbf) (N:=["p","n","reels","level","more"]) rfl rfl (by decide +kernel)) rfl (ZaH rfl T.range (Zaa (Zal ZbZ (pv 0) Zae) Zad)) ZaB (fun _ _ _ _ _=>(Zaj (i:=0) (by show (["reel"]:List Str).Nodup;decide +kernel) rfl (YaJ rfl) (.inr rfl))) (fun _ _ _ _ _=>ZaM) (fun _ _ _ _ _=>(ZaI Zad))))))
   (Zah (ws (Zbd Ybf rfl (ZaH rfl T.range (Zaa (pv 1) Zad)) (Zaj (i:=3) scReels72.nd rfl (YaJ rfl))
   (WSs.out (Zah (ws (Zaq (i:=4) scReels72.nd rfl (Ydb rfl) (Za0 (own:=["number"]) (js:=[]) (CompOk.by (sc:=Zac Zbf) (N:=["p","n","reels","level","more"]) rfl rfl (by decide +kernel)) rfl (Zex (ZaK Zaz (pv 2) Zae (fun _ _=>rfl))) ZaB (fun _ _ _ _ _=>(Zaj (i:=0) (by show (["number"]:List Str).Nodup;decide +kernel) rfl (YaJ rfl) (.inr rfl))) (fun _ _ _ _ _=>ZaM) (fun _ _ _ _ _=>(Zal ZaP (pv 0) Zae)))))
    (Zax (ws (Zaq (i:=2) scReels72.nd rfl (Ydb rfl) (Zal Zbb (Za0 (own:=["k"]) (js:=[2,4]) (CompOk.by (sc:=Zac Zbf) (N:=["p","n","reels","level","more"]) rfl rfl (by decide +kernel)) rfl (ZaH rfl T.range (Zaa (Zal ZbZ (pv 0) Zae) Zad)) ZaB (fun _ _ _ _ _=>(Zaj (i:=0) (by show (["k","reels","more"]:List Str).Nodup;decide +kernel) rfl (YaJ rfl) (.inr rfl))) (fun _ _ _ _ _=>ZaM) (fun _ _ _ _ _=>(Zal Zbb (pv 2) (ZaK (ZeC K) (pv 1) (Zal ZaP (pv 0) Zae) (fun _ _=>rfl))))) (ZaI (Zaa (pv 4) Zad))))))))))
   (Zax (ws (Zav (pv 2)))))),?_⟩
  have hz:20000<sizeLine:=by decide
  refine⟨(by show 1<=sizeLine;decide),fun q1 n1=>⟨(by show 1<=sizeLine;decide),fun q2 n2=>?_⟩⟩;have s2:=(Same.new (o:=.lst [V.int 0]) n1).trans (Same.new (o:=.lst [V.ref q1]) n2);have e1:upd (upd H q1 (.lst [V.int 0])) q2 (.lst [V.ref q1]) q1=some (.lst [V.int 0]):=(Same.new n2) _ _ Zab;have e2:upd (upd H q1 (.lst [V.int 0])) q2 (.lst [V.ref q1]) q2=some (.lst [V.ref q1]):=Zab;generalize upd (upd H q1 (.lst [V.int 0])) q2 (.lst [V.ref q1])=H2 at s2 e1 e2 ⊢;refine⟨_,rfl,_,_,rfl,rfl,_,rfl,by show -(2 ^ 62)<=(p:Int) - 1;omega,by show (p:Int) - 1<2 ^ 62;omega,?_⟩;rw[show ((p:Int) - 1).toNat=p - 1 by omega];refine ZfC (lo:=0) (n:=p - 1) (Yai (p - 1) []) (by simp) (by omega) (fun i xs hi hx Hc sc Rr hRr=>?_) fun a3 qs H3 na3 s3 ha3 hL3 _=>?_
  ·rw[YcC,if_pos hi] at hx;cases hx;exact⟨YaW _,fun q nq=>hRr q _ nq (Same.new nq) Zab⟩
  refine⟨q2,a3,_,_,rfl,rfl,s3 _ _ e2,ha3,?_,fun rl0 nrl0=>?_⟩
  ·have:=hL3.1;rw[Ybk] at this;exact Ya2 (Zau (by rw[Yac,this];simp;omega))
  have s4:=Same.new (o:=.lst ([V.ref q1]++qs.map V.ref)) nrl0;have e4:upd H3 rl0 (.lst ([V.ref q1]++qs.map V.ref)) rl0=some (.lst ((q1::qs).map V.ref)):=Zab;have hN4:LLs H3 (q1::qs) (num p 0):=by
   refine⟨by have:=hL3.1;show _=(num0 p).length;unfold num0;simp at this ⊢;exact this,fun j r xs a b=>?_⟩
   cases j with
   | zero=>
    have a:q1=r:=by simpa using a
    have b:[0]=xs:=by
     have b:(num0 p)[0]?=some xs:=b;simpa[num0] using b
    rw[<- a,<- b];exact s3 _ _ e1
   | succ j=>exact hL3.2 j r xs (by simpa using a) (by
     have b:(num0 p)[j+1]?=some xs:=b;simpa[num0] using b)
  have hN4:=hN4.same s4;generalize upd H3 rl0 (.lst ([V.ref q1]++qs.map V.ref))=H4 at s4 e4 hN4 ⊢;have s04:=(s2.trans s3).trans s4;refine⟨_,rfl,n,rfl,by omega,by omega,?_⟩;rw[YaQ];refine Za2 (fun i σ Hx=>∃ (rl:Addr) (rs:List Addr) (o3 o4:Option V),σ=[some (.int p),some (.int n),some (.ref rl),o3,o4]/\Hx rl=some (.lst (rs.map V.ref))/\LLs Hx rs (num p i)/\H rl=none/\Same H Hx) ⟨rl0,q1::qs,none,none,rfl,e4,hN4,(s2.trans s3).free nrl0,s04⟩ ?_ ?_
  ·rintro i σ Hx hi ⟨rl,rs,o3,o4,rfl,hrl,hLL,nrl,sx⟩;obtain⟨x,r,ex,hr,exn⟩:=Zjn p2 i;have hlen:rs.length=p:=by rw[hLL.1];exact ZbG (by omega) i
   have hxl:x.length<=4000:=by
    have:=Zg0 (p:=p) (n:=i) (xs:=x) (by rw[ex];exact Yaq);have:=ZbN p2 (m:=i) (n:=n) (by omega);omega
   obtain⟨a0,rs',rfl⟩:∃ a0 rs',rs=a0::rs':=by
    match rs,hlen with
    | [],h=>simp at h;omega
    | a0::rs',_=>exact⟨a0,rs',rfl⟩
   have ha0:=hLL.2 0 a0 x rfl (by rw[ex];rfl);refine⟨_,rfl,rl,_,0,.ref a0,rfl,rfl,SqL.of hrl,(Zbx (j:=0) rfl),a0,true,rfl,⟨_,SqL.of ha0⟩,?_⟩;refine ZfD ((x.map (·+1)).map V.int) (show SqB true K Hx a0 (x.map V.int) from SqL.of ha0) (by simp) (by rw[Yac];omega) (fun j y z hy hz' Hc sc Rr hRr=>?_) fun ml H5 nml s5 hml=>?_
   ·obtain⟨y',hy',rfl⟩:=Zcc hy;rw[Yam,Yam,hy'] at hz';cases hz';exact⟨_,rfl,_,_,rfl,rfl,hRr Hc (Same.refl _)⟩
   have hrl5:=s5 _ _ hrl;have hLL5:=hLL.same s5;have sx5:=sx.trans s5;refine⟨_,rfl,_,_,rfl,rfl,_,rfl,by show -(2 ^ 62)<=(p:Int) - 1;omega,by show (p:Int) - 1<2 ^ 62;omega,?_⟩;rw[show ((p:Int) - 1).toNat=p - 1 by omega];have hrl4:∀ y∈r,y.length<=4000:=fun y hy=>by
    have:=Zg0 (p:=p) (n:=i) (xs:=y) (by rw[ex];exact Yar _ hy);have:=ZbN p2 (m:=i) (n:=n) (by omega);omega
   refine ZfC (lo:=0) (n:=p - 1) (r.map (x.map (·+1)++·)) (by rw[Yac];omega) (by omega) (fun j xs hj hx Hc sc Rr hRr=>?_) fun a6 qs6 H6 na6 s6 ha6 hL6 _=>?_
   ·rw[Yam] at hx;have hjr:j<r.length:=by omega
    rw[Yaa hjr] at hx;cases hx;have hjs:j+1<(a0::rs').length:=by omega
    have hy:=hLL5.2 (j+1) _ r[j] (Yaa hjs) (by rw[ex];exact Yaa hjr);have hjy:=hrl4 _ (Ybw hjr);have hat:atI ((a0::rs').map V.ref) ((0:Int)+(j:Int)+1)=some (.ref (a0::rs')[j+1]):=by
     rw[show (0:Int)+(j:Int)+1=((j+1:Nat):Int) by omega];exact Zbx (by rw[Yam,Yaa hjs];rfl)
    exact⟨_,rfl,_,rfl,_,rfl,_,_,rfl,rfl,rl,_,_,.ref (a0::rs')[j+1],rfl,rfl,SqL.of (sc _ _ hrl5),hat,ml,_,_,_,rfl,rfl,sc _ _ hml,sc _ _ hy,by rw[sizeLine_eq];simp;omega,fun q nq=>hRr q _ nq (Same.new nq) (by rw[Zab,Yay])⟩
   refine⟨_,rfl,(by show 1<=sizeLine;decide),fun q7 n7=>?_⟩;have s7:=Same.new (o:=.lst [V.ref ml]) n7;refine⟨a6,q7,_,_,rfl,rfl,s7 _ _ ha6,Zab,?_,fun rl2 nrl2=>?_⟩
   ·have:=hL6.1;rw[Yac] at this;exact Ya2 (Zau (by rw[Yac,this];simp;omega))
   have hL7:=((hL6.same s7).snocC (s7 _ _ (s6 _ _ hml)))
   generalize upd H6 q7 (.lst [V.ref ml])=H7 at s7 nrl2 hL7 ⊢;have s8:=Same.new (o:=.lst (qs6.map V.ref++[V.ref ml])) nrl2;have sx8:=((sx5.trans s6).trans s7).trans s8;refine⟨rl2,qs6++[ml],_,_,rfl,by rw[Zab,Yay];rfl,?_,((sx5.trans s6).trans s7).free nrl2,sx8⟩;rw[exn];exact hL7.same s8
  ·rintro σ Hx ⟨rl,rs,o3,o4,rfl,hrl,hLL,nrl,sx⟩;exact⟨_,rfl,k rl rs Hx nrl hrl hLL sx⟩
end
end Fk41
namespace Fk41
open PySem L2 Lv
section
variable {P:Program}{w:World}{K:Yae}{mg:Str->Option Value}{base:Heap}
theorem ZhD:FnScope ["numbers"] ["numbers"] (Zac Zbq):=⟨rfl,rfl,rfl,by decide +kernel,rfl,by decide +kernel,by decide +kernel⟩
theorem Zgc {f:Addr}{fd:FuncData} (F:Fun K "places_in" "places_in" Zbq f fd) (T:Txt mg):FnOk P w K mg base CX0 1 f fd ["numbers"] ZbO:=by
 refine F.ok ZhD (fun vs H Q E h=>?_) (fun cdv A outer s H vs Q E hr h=>?_)
 ·obtain⟨a,rs,N,rfl,_⟩:=h;rfl
 ·obtain⟨a,rs,N,rfl,hA,hT,hN,k⟩:=h;refine⟨_,Zao (Zav (Zam (ZbI rfl) rfl T.sum Zib (Zaa (Za0 (own:=["on_reel"]) (js:=[]) (CompOk.bare (by decide +kernel)) rfl (Zff (pv 0)) ZaB
    (fun _ _ _ _ _=>Zaj (i:=0) (by show (["on_reel"]:List Str).Nodup;decide +kernel) rfl (YaJ rfl) (.inr rfl)) (fun _ _ _ _ _=>ZaM) (fun _ _ _ _ _=>Zam (Zkt K) rfl T.len Ybj (Zaa (pv 0) Zad))) Zad))),?_⟩
  refine⟨_,rfl,a,rfl,⟨_,SqT.of hA⟩,?_⟩;refine ZcV (xs:=rs.map V.ref) (fun acc j H2=>Same H H2/\H2 acc=some (.lst ((ZjB (N.take j)).map V.int))) (fun acc h0=>⟨Same.new h0,Zab⟩) (fun acc j H2 h0 _ p=>SqT.of (p.1 _ _ hA)) ?_ ?_
  ·rintro acc j x H2 h0 hx ⟨s2,hacc⟩;obtain⟨q,hq,rfl⟩:=ZcL hx;have hj:=(Yad.mp hq).1
   obtain⟨xs,hxs⟩:∃ xs,N[j]?=some xs:=⟨_,Yaa (by rw[<- hT.1];exact hj)⟩
   refine⟨_,rfl,q,_,rfl,.inr (SqT.of (s2 _ _ (hT.2 j q xs hq hxs))),_,hacc,?_,by rw[Yac];exact hj,s2.put h0,?_⟩
   ·unfold ZjB;rw[Yac,Yac,Yaz];exact Zau (by omega)
   ·rw[Zab,Ybe,hxs,YbW];unfold ZjB;rw[Yay,Yay,YaH,Yb9,Yac];rfl
  rintro acc H2 h0 ⟨s2,hacc⟩;have e:(rs.map V.ref).length=N.length:=by rw[Yac,hT.1]
  rw[e,YaO] at hacc;refine⟨acc,_,rfl,SqL.of hacc,?_⟩;have e2:(ZjB N).sum=(N.flatten.length:Int):=by
   unfold ZjB;clear hacc hT hN k e
   induction N with
   | nil=>rfl
   | cons xs N ih=>rw[YaH,YaS,ih,Ya9,Yak];omega
  rw[e2];exact k H2 s2
theorem scLeastP:FnScope ["numbers","many","places"] ["numbers","many"] (Zac ZcA):=⟨rfl,rfl,rfl,by decide +kernel,rfl,by decide +kernel,by decide +kernel⟩
theorem Zkf (xs:List V) (c:Nat):cutV xs none (some (c:Int))=xs.take c:=by
 unfold cutV;show (xs.drop 0).take (HT.sIx xs.length xs.length (some (c:Int)) - 0)=_;rw[HT.sIx_nat,Nat.sub_zero,List.drop_zero];by_cases h:c<=xs.length
 ·rw[Ycm h]
 ·rw[Yd4 (by omega),YaO,Ybn (by omega)]
theorem ZlG {N:List (List Int)}{i j:Nat}{xs:List Int} (h:N[i]?=some xs) (hj:j<=xs.length):(N.take i).flatten.length+j<=N.flatten.length:=by
 have a:=Yad.mp h;have e1:N=N.take i++xs::N.drop (i+1):=by
  have:N.drop i=xs::N.drop (i+1):=by rw[YeG a.1,a.2]
  rw[<- this,YaM]
 conv=>rhs;rw[e1]
 rw[Ycz,Yak,Ya9,Yak];omega
theorem Zje {f:Addr}{fd:FuncData} (F:Fun K "least_places" "least_places" ZcA f fd) (T:Txt mg) (Te:mg "enumerate"=none):FnOk P w K mg base CX0 1 f fd ["numbers","many"] Zek:=by
 refine F.ok scLeastP (fun vs H Q E h=>?_) (fun cdv A outer s H vs Q E hr h=>?_)
 ·obtain⟨a,rs,N,m,rfl,_⟩:=h;rfl
 ·obtain⟨a,rs,N,m,rfl,hA,hT,hN,hF,k⟩:=h;refine⟨_,Zan (ZkY (i:=2) scLeastP.nd rfl rfl (own:=["reel","on_reel","place","number"]) (js:=[]) (fr:=[2,3]) (CompOk.bare (by decide +kernel)) rfl (Zcp rfl Te (Zaa (pv 0) Zad)) (Zh4 (i:=0) (k:=1) (K:=K)) (Zh3 (i:=2) (k:=3) (K:=K))
    (fun _ _ _ _ _=>ZcJ K rfl (Zar (Zaj (i:=0) (by show (["reel","on_reel","place","number"]:List Str).Nodup;decide +kernel) rfl (YaJ rfl) (.inr rfl)) (Zar (Zaj (i:=1) (by show (["reel","on_reel","place","number"]:List Str).Nodup;decide +kernel) rfl (YaJ rfl) (.inr rfl)) ZaT))) (fun _ _ _ _ _=>ZaM) (fun _ _ _ _ _=>ZiW K rfl Te (Zaa (pv 1) Zad))
    (fun _ _ _ _ _=>ZcJ K rfl (Zar (Zaj (i:=2) (by show (["reel","on_reel","place","number"]:List Str).Nodup;decide +kernel) rfl (YaJ rfl) (.inr rfl)) (Zar (Zaj (i:=3) (by show (["reel","on_reel","place","number"]:List Str).Nodup;decide +kernel) rfl (YaJ rfl) (.inr rfl)) ZaT))) (fun _ _ _ _ _=>ZaM) (fun _ _ _ _ _=>ZbY (Zaa (pv 3) (Zaa (pv 0) (Zaa (pv 2) Zad)))))
   (Zao (Zav (Za7 Zb7 (Zam Zdq rfl T.sorted ZeR (Zaa (pv 2) Zad)) Zbn (Zbk (pv 1))))),?_⟩
  have hz:100000<sizeLine:=by decide
  refine⟨_,rfl,a,false,rfl,⟨_,SqT.of hA⟩,?_⟩;refine Zgq (b:=false) (xs:=rs.map V.ref) (fun acc i H2=>Same H H2/\∃ ps,H2 acc=some (.lst (ps.map V.ref))/\(∀ p∈ps,p≠acc)/\TuM H2 ps (trip 0 (N.take i))) (fun acc h0=>⟨Same.new h0,[],Zab,(fun p hp=>nomatch hp),TuM.nil⟩) (fun acc i H2 h0 _ p=>SqT.of (p.1 _ _ hA)) ?_ ?_
  ·rintro acc i x q H2 h0 hx ⟨s2,ps,hacc,hne,hpr⟩ hq;obtain⟨r,hr',rfl⟩:=ZcL hx;have hi:=(Yad.mp hr').1
   obtain⟨xs,e2⟩:∃ xs,N[i]?=some xs:=⟨_,Yaa (by rw[<- hT.1];exact hi)⟩
   have hrow:=hT.2 i r xs hr' e2;have s3:Same H2 (upd H2 q (.tup [.int i,.ref r])):=Same.new hq;have hq3:upd H2 q (.tup [.int i,.ref r]) q=some (.tup [.int i,.ref r]):=Zab;generalize upd H2 q (.tup [.int i,.ref r])=H3 at s3 hq3 ⊢;have s03:=s2.trans s3;refine⟨q,_,rfl,SqT.of hq3,rfl,_,_,rfl,_,_,rfl,rfl,?_⟩;refine⟨_,rfl,r,false,rfl,⟨_,SqT.of (s03 _ _ hrow)⟩,?_⟩;refine ZlA (b:=false) (xs:=xs.map V.int) (fun j H4=>Same H H4/\∃ ps,H4 acc=some (.lst (ps.map V.ref))/\(∀ p∈ps,p≠acc)/\TuM H4 ps (trip 0 (N.take i)++ZbA i (xs.take j))) ⟨s03,ps,s3 _ _ hacc,hne,by simpa[ZbA] using hpr.same s3⟩ (fun j H4 _ p=>SqT.of (p.1 _ _ hrow)) ?_ ?_
   ·rintro j y u H4 hy ⟨s4,ps,hac4,hne4,hpr4⟩ nu;obtain⟨z,hz',rfl⟩:=Zcc hy;have hj:=(Yad.mp hz').1
    have hle:=ZlG e2 (Ya2 hj);have hpl:ps.length=(N.take i).flatten.length+j:=by
     rw[hpr4.len,Yak,ZbM,Ze2,Yaz];omega
    have su:Same H4 (upd H4 u (.tup [.int j,.int z])):=Same.new nu;have hu3:upd H4 u (.tup [.int j,.int z]) u=some (.tup [.int j,.int z]):=Zab;generalize upd H4 u (.tup [.int j,.int z])=H4' at su hu3 ⊢
    replace hac4:=su _ _ hac4
    replace hpr4:=hpr4.same su
    replace s4:=s4.trans su
    refine⟨u,_,rfl,SqT.of hu3,rfl,_,_,rfl,_,_,rfl,rfl,?_⟩;refine⟨_,rfl,_,rfl,_,rfl,(by show 3<=sizeLine;decide),fun t ht=>?_⟩;have hta:t≠acc:=Ybq (Zag hac4 ht);have s45:Same H4' (upd H4' t (.tup [.int z,.int i,.int j])):=Same.new ht;have ht5:upd H4' t (.tup [.int z,.int i,.int j]) t=some (.tup (([z,(i:Int),(j:Int)]:List Int).map V.int)):=Zab;generalize upd H4' t (.tup [.int z,.int i,.int j])=H5 at s45 ht5 ⊢;refine⟨_,s45 _ _ hac4,by rw[Yac];omega,by rw[Yac];exact hj,(s4.trans s45).put h0,ps++[t],by rw[Zab,Yay];rfl,fun p hp=>?_,?_⟩
    ·rcases Yaj.mp hp with hp | hp
     ·exact hne4 p hp
     ·rw[YaF.mp hp];exact hta
    ·have:=(hpr4.same s45).snoc ht5 (by simp);rw[YaN,<- Zhu hz'] at this;refine this.keep fun p hp=>Zaf ?_;rcases Yaj.mp hp with hp | hp
     ·exact hne4 p hp
     ·rw[YaF.mp hp];exact hta
   ·rintro H4 ⟨s4,ps,hac4,hne4,hpr4⟩;rw[Yac,YaO,<- Zin e2] at hpr4;exact⟨by rw[Yac];exact hi,s4,ps,hac4,hne4,hpr4⟩
  rintro acc H2 h0 ⟨s2,ps,hacc,hne,hpr⟩;have e:(rs.map V.ref).length=N.length:=by rw[Yac,hT.1]
  rw[e,YaO] at hpr;have hks:∀ p∈ps,kf H2 p≠[]/\H2 p=some (.tup ((kf H2 p).map V.int)):=by
   intro p hp;obtain⟨k',hk,e⟩:=hpr.1 p hp;rw[Zfo e];exact⟨hk,e⟩
  refine⟨_,rfl,acc,ps,kf H2,rfl,SqL.of hacc,hks,fun l qs nl pm up=>?_⟩;have s23:Same H2 (upd H2 l (.lst (qs.map V.ref))):=Same.new nl;have hl3:upd H2 l (.lst (qs.map V.ref)) l=some (.lst (qs.map V.ref)):=Zab;generalize upd H2 l (.lst (qs.map V.ref))=H3 at s23 hl3 ⊢;have s03:=s2.trans s23;refine⟨_,rfl,(m:Int),rfl,l,_,rfl,SqL.of hl3,fun l2 nl2=>?_⟩;rw[Zkf,<- Ydi];have s34:Same H3 (upd H3 l2 (.lst ((qs.take m).map V.ref))):=Same.new nl2;have hq2:TuM H2 qs (qs.map (kf H2)):=⟨fun p hp=>hpr.1 p (pm.mem_iff.mp hp),rfl⟩
  refine k l2 qs (qs.map (kf H2)) _ (s03.free nl2) Zab (hq2.same (s23.trans s34)) ?_ (Ya1.mpr up) (s03.trans s34);rw[<- hpr.2];exact pm.map _
theorem scPlc72:FnScope ["reels","rows","draws","places","reel","some","found","k","at"] ["reels","rows","draws"] (Zac Zc6):=⟨rfl,rfl,rfl,by decide +kernel,rfl,by decide +kernel,by decide +kernel⟩
theorem Zic {ps:List Addr} (h:1<=ps.length):atI (ps.map V.ref) (-1)=some (.ref (ps[ps.length - 1]'(by omega))):=by
 obtain⟨ys,y,rfl⟩:∃ ys y,ps=ys++[y]:=⟨ps.dropLast,ps.getLast (fun e=>by rw[e] at h;simp at h),(YcV _).symm⟩
 rw[Yay];have:=ZlP (ys.map V.ref) (V.ref y);simpa using this
def ZfY (K:Yae):Sp:=fun vs H Q _=>∃ (rl dl:Addr) (rs:List Addr) (N:List (List Int)) (rows:Nat) (ds:List Int),vs=[.ref rl,.int rows,.ref dl]/\H rl=some (.lst (rs.map V.ref))/\LLs H rs N/\N.length<=7/\N.flatten.length<=4000/\rows<=N.flatten.length/\rows<=ds.length/\H dl=some (.lst (ds.map V.int))/\∀ l (qs:List Addr) (ks:List (List Int)) H',H l=none->H' l=some (.lst (qs.map V.ref))->TuM H' qs ks->ks.Nodup->(∀ k∈ks,InN N k)->ks.length=rows->Same H H'->Q (.ref l) H'
theorem Zlg {f:Addr}{fd:FuncData} (F:Fun K "_law_placing" "_law_placing" Zc6 f fd) (T:Txt mg) (Te:mg "enumerate"=none):FnOk P w K mg base CX0 1 f fd ["reels","rows","draws"] (ZfY K):=by
 refine okW F scPlc72 (fun vs H Q E h=>?_) (fun cdv A outer s H vs Q E hr h=>?_)
 ·obtain⟨rl,dl,rs,N,rows,ds,rfl,_⟩:=h;rfl
 ·obtain⟨rl,dl,rs,N,rows,ds,rfl,hrl,hLL,hN7,hN4,hr,hrd,hd,k⟩:=h;refine⟨_,(Zah (ws (Zaq (i:=3) scPlc72.nd rfl (YaJ rfl) (ZaI Zad)))
   (Zah (ws (Zbd Ybf rfl (Zcp rfl Te (Zaa (pv 0) Zad)) (ZbF rfl (Zar (Zaj (i:=4) scPlc72.nd rfl (Ydb rfl)) (Zar (Zaj (i:=5) scPlc72.nd rfl (YaJ rfl)) ZaT)))
   (WSs.out (Zax (ws (ZaX (ZhO YbH PySem.F.slot_list_extend PySem.F.type_list_extend Zjq (pv 3) (Zaa (Za0 (own:=["place"]) (js:=[4]) (CompOk.by (sc:=Zac Zc6) (N:=["reels","rows","draws","places","reel","some","found","k","at"]) rfl rfl (by decide +kernel)) rfl (ZaH rfl T.range (Zaa (Zam Zas rfl T.len Ybj (Zaa (pv 5) Zad)) Zad)) ZaB (fun _ _ _ _ _=>(Zaj (i:=0) (by show (["place","reel"]:List Str).Nodup;decide +kernel) rfl (YaJ rfl) (.inr rfl))) (fun _ _ _ _ _=>ZaM) (fun _ _ _ _ _=>(ZbY (Zaa (pv 1) (Zaa (pv 0) Zad))))) Zad))))))))
   (Zah (ws (Zaq (i:=6) scPlc72.nd rfl (YaJ rfl) (ZaI Zad)))
   (Zah (ws (Zbd Ybf rfl (ZaH rfl T.range (Zaa (pv 1) Zad)) (Zaj (i:=7) scPlc72.nd rfl (YaJ rfl))
   (WSs.out (Zah (ws (Zaq (i:=8) scPlc72.nd rfl (YaJ rfl) (Zal ZaN (ZaK Zaz (pv 2) (pv 7) (fun _ _=>rfl)) (Zam Zas rfl T.len Ybj (Zaa (pv 3) Zad)))))
    (Zah (ws (ZaX (ZhO YbH Yb4 Yb3 Zbl (pv 6) (Zaa (ZaK Zaz (pv 3) (pv 8) (fun _ _=>rfl)) Zad))))
    (Zah (ws (ZdY (ZaK Zaz (pv 3) (ZmX Zii Zae) (fun _ _=>rfl)) (ZiX (pv 3) (pv 8) Zeu)))
    (Zax (ws (ZaX (Zob YbH PySem.F.slot_list_pop PySem.F.type_list_pop Zog (pv 3)))))))))))
   (Zax (ws (Zav (pv 6)))))))),?_⟩
  have hz:20000<sizeLine:=by decide
  refine⟨YaW _,fun pl npl=>?_⟩;have s1:Same H (upd H pl (.lst [])):=Same.new npl;have e1:upd H pl (.lst []) pl=some (.lst (([]:List Addr).map V.ref)):=Zab;generalize upd H pl (.lst [])=H1 at s1 e1 ⊢;refine⟨_,rfl,rl,true,rfl,⟨_,SqL.of (s1 _ _ hrl)⟩,?_⟩;have hlN:∀ i,i<=N.length->(plcs N i).length<=4000:=fun i hi=>by
   rw[Zew N i hi];refine Ybv ?_ hN4;rw[Yfj];have:(N.map Ycx).sum=((N.take i).map Ycx).sum+((N.drop i).map Ycx).sum:=by
    rw[<- List.sum_append_nat,<- Yay,YaM]
   omega
  refine Zfx (b:=true) (K:=K) (a:=rl) (xs:=rs.map V.ref) (fun i σ Hx=>∃ (qs:List Addr) (o4 o5 o6 o7 o8:Option V),σ=[some (.ref rl),some (.int rows),some (.ref dl),some (.ref pl),o4,o5,o6,o7,o8]/\Hx pl=some (.lst (qs.map V.ref))/\TuM Hx qs (plcs N i)/\Same H Hx) ⟨[],none,none,none,none,none,rfl,e1,TuM.nil,s1⟩ (fun i σ Hx _ ⟨_,_,_,_,_,_,_,_,_,sx⟩=>SqL.of (sx _ _ hrl)) ?_ ?_
  ·rintro i x q σ Hx hx ⟨qs,o4,o5,o6,o7,o8,rfl,hpl,hTu,sx⟩ hq;obtain⟨r,hr',rfl⟩:=Za6 hx;have hi:i<N.length:=by rw[<- hLL.1];exact (Yad.mp hr').1
   have s3:Same Hx (upd Hx q (.tup [.int i,.ref r])):=Same.new hq;have hq3:upd Hx q (.tup [.int i,.ref r]) q=some (.tup [.int i,.ref r]):=Zab;generalize upd Hx q (.tup [.int i,.ref r])=H3 at s3 hq3 ⊢;have hpl3:=s3 _ _ hpl;have hTu3:=hTu.same s3;have sx3:=sx.trans s3;have hrN:=sx3 _ _ (hLL.2 i r N[i] hr' (Yaa hi));have egN:N.getD i []=N[i]:=by rw[Yat,Yaa hi];rfl
   have hNi:N[i].length<=4000:=by
    have:=hlN (i+1) (by omega);rw[Zco,Yak,Yac,Yb7,egN] at this;omega
   refine⟨q,_,rfl,SqT.of hq3,rfl,_,_,rfl,_,_,rfl,rfl,?_⟩;refine⟨_,rfl,.inl ⟨rfl,_,SqL.of hpl3⟩,_,rfl,r,_,rfl,.inl (SqL.of hrN),_,rfl,by rw[Yac];omega,by rw[Yac];omega,?_⟩;rw[Yac,YaQ];refine Zkg (lo:=0) (n:=N[i].length) ((YaT N[i].length).map fun (j:Nat)=>[(i:Int),(j:Int)]) (by simp) (by omega) (fun j xs hj hx' Hc sc Rr hRr=>?_) fun a4 qs4 H4 na4 s4 ha4 hT4 _=>?_
   ·rw[Yam,Ycy hj] at hx';cases hx';exact⟨_,rfl,_,rfl,(by show 2<=sizeLine;decide),fun t nt=>hRr t _ nt (Same.new nt) (by rw[Zab,show (0:Int)+(j:Nat)=(j:Int) by omega];rfl)⟩
   have hpl4:=s4 _ _ hpl3;have sx4:=sx3.trans s4;have hl1:=hTu3.len;have hl2:=hT4.1;have hl3:=hlN i (by omega);refine⟨pl,a4,_,_,rfl,rfl,hpl4,ha4,by rw[sizeLine_eq];simp at hl2 ⊢;omega,?_⟩;refine⟨qs++qs4,_,_,_,_,_,rfl,by rw[Zab,Yay],?_,sx4.put npl⟩;rw[Zco,egN];refine ((hTu3.same s4).app (TuM.ofTT hT4 fun k hk=>?_)).keep fun z hz=>Zaf fun e=>?_
   ·obtain⟨j,_,rfl⟩:=YaG.mp hk;exact List.cons_ne_nil _ _
   ·rcases Yaj.mp hz with hz | hz
    ·obtain⟨k',_,hk'⟩:=(hTu3.same s4).1 z hz;rw[e,hpl4] at hk';cases hk'
    ·obtain⟨j,hj,rfl⟩:=Ybu hz;have:=hT4.2 j _ _ (Yaa hj) (Yaa (by rw[<- hT4.1];exact hj));rw[e,hpl4] at this;cases this
  rintro σ Hx ⟨qs,o4,o5,o6,o7,o8,rfl,hpl,hTu,sx⟩;rw[Yac,hLL.1] at hTu;have hql:qs.length=N.flatten.length:=by
   rw[hTu.len,Zew N N.length (Yag _),YaO,Yfj]
  refine⟨YaW _,fun fl nfl=>?_⟩;have s2:Same Hx (upd Hx fl (.lst [])):=Same.new nfl;have e2:upd Hx fl (.lst []) fl=some (.lst (([]:List Addr).map V.ref)):=Zab;have npf:pl≠fl:=Zag hpl nfl;have hpl2:=s2 _ _ hpl;have nflH:H fl=none:=sx.free nfl;have hTu2:=hTu.same s2;have sx2:=sx.trans s2;generalize upd Hx fl (.lst [])=H2 at s2 e2 hpl2 hTu2 sx2 ⊢;refine⟨_,rfl,rows,rfl,by omega,by omega,?_⟩;rw[YaQ];refine Za2 (fun i σ Hx=>∃ (ps fs:List Addr) (ks:List (List Int)) (o7 o8:Option V),σ=[some (.ref rl),some (.int rows),some (.ref dl),some (.ref pl),o4,o5,some (.ref fl),o7,o8]/\Hx pl=some (.lst (ps.map V.ref))/\Hx fl=some (.lst (fs.map V.ref))/\TuM Hx (fs++ps) ks/\ks.Nodup/\(∀ k∈ks,InN N k)/\fs.length=i/\ps.length+i=N.flatten.length/\Same H Hx) ⟨qs,[],plcs N N.length,o7,o8,rfl,hpl2,e2,hTu2,ZdZ N _,fun k hk=>ZmW hk,rfl,by omega,sx2⟩ ?_ ?_
  ·rintro i σ Hy hi ⟨ps,fs,ks,o7,o8,rfl,hpy,hfy,hTy,hnd,hin,hfl,hpsl,sy⟩;have hdy:=sy _ _ hd;obtain⟨m,em⟩:∃ m:Nat,ds.getD i 0 % (ps.length:Int)=(m:Int)/\m<ps.length:=by
    have h1:=Ya4 (ds.getD i 0) (show (ps.length:Int)≠0 by omega);have h2:=Yba (ds.getD i 0) (show (0:Int)<ps.length by omega);exact⟨(ds.getD i 0 % (ps.length:Int)).toNat,by omega,by omega⟩
   obtain⟨em,hm⟩:=em;have hds:atI (ds.map V.int) (i:Int)=some (.int (ds.getD i 0)):=by rw[Zby (by omega) (by omega),YaQ]
   refine⟨_,rfl,_,rfl,dl,_,_,_,rfl,rfl,SqL.of hdy,(by rw[show (0:Int)+(i:Int)=(i:Int) by omega];exact hds),_,rfl,pl,_,rfl,.inl (SqL.of hpy),_,_,rfl,rfl,by show (0:Int)<((ps.map V.ref).length:Int);rw[Yac];omega,?_⟩;dsimp only;rw[Yac,em];have hpm:(ps.map V.ref)[m]?=some (.ref ps[m]):=by rw[Yam,Yaa hm];rfl
   refine⟨_,rfl,.inl ⟨rfl,_,SqL.of hfy⟩,_,rfl,_,rfl,pl,_,_,.ref ps[m],rfl,rfl,SqL.of hpy,Zbx hpm,fl,_,_,rfl,rfl,hfy,by rw[Yac];omega,?_⟩;have hpy1:upd Hy fl (.lst (fs.map V.ref++[.ref ps[m]])) pl=some (.lst (ps.map V.ref)):=by rw[Zaf npf];exact hpy
   have hfy1:upd Hy fl (.lst (fs.map V.ref++[.ref ps[m]])) fl=some (.lst ((fs++[ps[m]]).map V.ref)):=by rw[Zab,Yay];rfl
   have sy1:Same H (upd Hy fl (.lst (fs.map V.ref++[.ref ps[m]]))):=sy.put nflH;have hTy1:TuM (upd Hy fl (.lst (fs.map V.ref++[.ref ps[m]]))) (fs++ps) ks:=hTy.keep fun z hz=>Zaf fun e=>by
    obtain⟨k',_,hk'⟩:=hTy.1 z hz;rw[e,hfy] at hk';cases hk'
   generalize upd Hy fl (.lst (fs.map V.ref++[.ref ps[m]]))=H5 at hpy1 hfy1 sy1 hTy1 ⊢;have hlast:ps.length - 1<ps.length:=by omega
   have hat:atI (ps.map V.ref) (-1)=some (.ref ps[ps.length - 1]):=Zic (by omega);refine⟨_,rfl,1,rfl,pl,_,_,.ref ps[ps.length - 1],rfl,rfl,SqL.of hpy1,hat,?_⟩;refine⟨_,rfl,_,rfl,pl,_,_,m,rfl,rfl,hpy1,by rw[Yac,Zg8 (by omega) (by omega),YaQ],?_⟩;have hpy2:upd H5 pl (.lst ((ps.map V.ref).set m (.ref ps[ps.length - 1]))) pl=some (.lst ((ps.set m ps[ps.length - 1]).map V.ref)):=by rw[Zab,List.map_set]
   have hfy2:upd H5 pl (.lst ((ps.map V.ref).set m (.ref ps[ps.length - 1]))) fl=some (.lst ((fs++[ps[m]]).map V.ref)):=by rw[Zaf (Ybq npf)];exact hfy1
   have sy2:Same H (upd H5 pl (.lst ((ps.map V.ref).set m (.ref ps[ps.length - 1])))):=sy1.put npl;have hTy2:TuM (upd H5 pl (.lst ((ps.map V.ref).set m (.ref ps[ps.length - 1])))) (fs++ps) ks:=hTy1.keep fun z hz=>Zaf fun e=>by
    obtain⟨k',_,hk'⟩:=hTy1.1 z hz;rw[e,hpy1] at hk';cases hk'
   generalize upd H5 pl (.lst ((ps.map V.ref).set m (.ref ps[ps.length - 1])))=H6 at hpy2 hfy2 sy2 hTy2 ⊢;have hsl:(ps.set m ps[ps.length - 1]).length=ps.length:=Ydv;refine⟨_,rfl,.inl ⟨rfl,_,SqL.of hpy2⟩,pl,_,_,rfl,rfl,hpy2,Yaa (by rw[Yac,hsl];omega),?_⟩;have hperm:(fs++ps).Perm ((fs++[ps[m]])++ZhM ps m ps[ps.length - 1]):=by
    rw[YaN];exact (ZhL (Yaa hm) (Yaa hlast)).append_left fs
   obtain⟨ks',hT',hpk⟩:=TuM.perm (hTy2.keep (H':=upd H6 pl (.lst ((ps.set m ps[ps.length - 1]).map V.ref).dropLast)) fun z hz=>Zaf fun e=>by
    obtain⟨k',_,hk'⟩:=hTy2.1 z hz;rw[e,hpy2] at hk';cases hk') hperm
   refine⟨ZhM ps m ps[ps.length - 1],fs++[ps[m]],ks',_,_,rfl,by rw[Zab,<- List.map_dropLast];rfl,by rw[Zaf (Ybq npf)];exact hfy2,hT',hpk.nodup_iff.mp hnd,fun k hk=>hin k (hpk.mem_iff.mpr hk),by rw[Yak,hfl];rfl,by rw[ZiQ];omega,sy2.put npl⟩
  ·rintro σ Hy ⟨ps,fs,ks,o7,o8,rfl,hpy,hfy,hTy,hnd,hin,hfl,hpsl,sy⟩;refine⟨_,rfl,?_⟩;have hTf:TuM Hy fs (ks.take rows):=by
    refine⟨fun p hp=>hTy.1 p (Ya0 _ hp),?_⟩;rw[<- hTy.2,Yay,<- hfl,show fs.length=(fs.map (kf Hy)).length by rw[Yac],YeE]
   have hkl:ks.length=fs.length+ps.length:=by rw[<- hTy.len,Yak]
   exact k fl fs (ks.take rows) Hy nflH hfy hTf (hnd.sublist (YdR _ _)) (fun k hk=>hin k (Ybt hk)) (by rw[Yaz];omega) sy
theorem scLen71:FnScope ["draws","most","way","found","k","number"] ["draws","most"] (Zac ZdS):=⟨rfl,rfl,rfl,by decide +kernel,rfl,by decide +kernel,by decide +kernel⟩
theorem at6 {P:Int->Prop}{w a b c d e g:Int} (h0:0<=w) (h6:w<6) (ha:P a) (hb:P b) (hc:P c) (hd:P d) (he:P e) (hg:P g):∃ x:Int,atI [V.int a,.int b,.int c,.int d,.int e,.int g] w=some (.int x)/\P x:=by
 rcases (show w=0∨w=1∨w=2∨w=3∨w=4∨w=5 by omega) with rfl | rfl | rfl | rfl | rfl | rfl
 ·exact⟨a,rfl,ha⟩
 ·exact⟨b,rfl,hb⟩
 ·exact⟨c,rfl,hc⟩
 ·exact⟨d,rfl,hd⟩
 ·exact⟨e,rfl,he⟩
 ·exact⟨g,rfl,hg⟩
def Zf2:Sp:=fun vs H Q _=>∃ (dl:Addr) (ds:List Int) (m:Nat),vs=[.ref dl,.int m]/\H dl=some (.lst (ds.map V.int))/\(∀ d∈ds,0<=d)/\1<=m/\m<=200/\m+2<=ds.length/\ds.length<=1000/\∀ l (ls:List Int) H',H l=none->H' l=some (.lst (ls.map V.int))->1<=ls.length->ls.length<=m->(∀ x∈ls,0<=x/\x<=1000000000000)->Same H H'->Q (.ref l) H'
theorem Zln {f:Addr}{fd:FuncData} (F:Fun K "_law_lengths" "_law_lengths" ZdS f fd) (T:Txt mg):FnOk P w K mg base CX0 1 f fd ["draws","most"] Zf2:=by
 refine okW F scLen71 (fun vs H Q E h=>?_) (fun cdv A outer s H vs Q E hr h=>?_)
 ·obtain⟨dl,ds,m,rfl,_⟩:=h;rfl
 ·obtain⟨dl,ds,m,rfl,hd,hd0,hm1,hm2,hdl,hd10,k⟩:=h;refine⟨_,(Zah (ws (Zaq (i:=2) scLen71.nd rfl (YaJ rfl) (Zal ZaN (ZaK Zaz (pv 0) Zae (fun _ _=>rfl)) Zae)))
   (Zah (ws (Zaq (i:=3) scLen71.nd rfl (YaJ rfl) (ZaI Zad)))
   (Zah (ws (Zbd Ybf rfl (ZaH rfl T.range (Zaa (Zal ZaP Zae (Zal ZaN (ZaK Zaz (pv 0) Zae (fun _ _=>rfl)) (pv 1))) Zad)) (Zaj (i:=4) scLen71.nd rfl (YaJ rfl))
   (WSs.out (Zah (ws (Zaq (i:=5) scLen71.nd rfl (YaJ rfl) (ZaK Zaz (pv 0) (Zal ZaP Zae (pv 4)) (fun _ _=>rfl))))
    (Zax (ws (ZaX (ZhO YbH Yb4 Yb3 Zbl (pv 3) (Zaa (WE.out (ZnF Zaz (ZeU (Za4 rfl Zae (Za4 rfl (Zal ZaN (pv 5) Zae) (Za4 rfl (Zal ZaP Zae (Zal ZaN (pv 5) Zae)) (Za4 rfl (Zal ZaN (pv 5) (Zal ZaP (Zal Zb0 Zae Zae) Zae)) (Za4 rfl (Zal Zb1 (Zal ZaN (pv 5) Zae) (Zal Zb0 Zae Zae)) (Za4 rfl (Zal Zb1 (pv 4) (pv 4)) ZeV))))))) (we (pv 2)) (fun _ _=>rfl))) Zad)))))))))
   (Zax (ws (Zav (pv 3))))))),?_⟩
  have hz:20000<sizeLine:=by decide
  have gd:∀ (j:Nat),j<ds.length->atI (ds.map V.int) (j:Int)=some (.int (ds.getD j 0)):=fun j hj=>by
   rw[Zby (by omega) (by omega),YaQ]
  have w0:=Ya4 (ds.getD 0 0) (show (6:Int)≠0 by decide);have w6:=Yba (ds.getD 0 0) (show (0:Int)<6 by decide);refine⟨_,rfl,dl,_,0,_,rfl,rfl,SqL.of hd,gd 0 (by omega),_,_,rfl,rfl,(by show (0:Int)<6;decide),?_⟩;obtain⟨way,ew⟩:∃ w:Int,ds.getD 0 0 % 6=w:=⟨_,rfl⟩
  rw[ew] at w0 w6;refine⟨YaW _,fun l nl=>?_⟩;have s1:Same H (upd H l (.lst [])):=Same.new nl;have e1:upd H l (.lst []) l=some (.lst (([]:List Int).map V.int)):=Zab;have nld:l≠dl:=fun z=>by rw[z,hd] at nl;cases nl
  generalize upd H l (.lst [])=H1 at s1 e1 ⊢;have m0:=Ya4 (ds.getD 1 0) (show (m:Int)≠0 by omega);have mm:=Yba (ds.getD 1 0) (show (0:Int)<m by omega);refine⟨_,rfl,dl,_,1,_,rfl,rfl,SqL.of (s1 _ _ hd),gd 1 (by omega),_,rfl,_,_,rfl,rfl,(by show (0:Int)<m;omega),1,_,rfl,rfl,?_⟩;obtain⟨n,en⟩:∃ n:Nat,1+ds.getD 1 0 % m=(n:Int):=⟨(1+ds.getD 1 0 % m).toNat,by omega⟩
  have hn1:1<=n:=by omega
  have hnm:n<=m:=by omega
  refine⟨(n:Int),congrArg (fun z=>[V.int z]) en,by omega,by omega,?_⟩;rw[YaQ];refine Za2 (fun i σ Hx=>∃ (ls:List Int) (o4 o5:Option V),σ=[some (.ref dl),some (.int m),some (.int way),some (.ref l),o4,o5]/\Hx l=some (.lst (ls.map V.int))/\ls.length=i/\(∀ x∈ls,0<=x/\x<=1000000000000)/\Same H Hx) ⟨[],_,_,by rw[<- ew];rfl,e1,rfl,by simp,s1⟩ ?_ ?_
  ·rintro i σ Hx hi ⟨ls,o4,o5,rfl,hl,hli,hb,sx⟩;have hdx:=sx _ _ hd;refine⟨_,rfl,_,rfl,2,_,rfl,rfl,dl,_,_,_,rfl,rfl,SqL.of hdx,(by rw[show (2:Int)+(0+(i:Int))=((2+i:Nat):Int) by omega];exact gd (2+i) (by omega)),?_⟩;have hx0:0<=ds.getD (2+i) 0:=by
    rw[Yat,Yaa (by omega)];exact hd0 _ (Ybw _)
   generalize ds.getD (2+i) 0=x at hx0 ⊢;have a4:=Ya4 x (show (4:Int)≠0 by decide);have b4:=Yba x (show (0:Int)<4 by decide);have a6:=Ya4 x (show (60:Int)≠0 by decide);have b6:=Yba x (show (0:Int)<60 by decide);have a2:=Ya4 x (show (2:Int)≠0 by decide);have b2:=Yba x (show (0:Int)<2 by decide);have e12:(10:Int) ^ YdQ 12=1000000000000:=by decide
   have a12:=Ya4 x (show (1000000000001:Int)≠0 by decide);have b12:=Yba x (show (0:Int)<1000000000001 by decide);refine⟨_,rfl,.inl ⟨rfl,_,SqL.of hl⟩,_,rfl,_,_,rfl,rfl,(by show (0:Int)<4;decide),_,rfl,_,_,rfl,rfl,(by show (0:Int)<60;decide),1,_,rfl,rfl,_,rfl,10,12,rfl,rfl,⟨by decide,by decide,by decide⟩,_,_,rfl,rfl,_,_,rfl,rfl,(by show (0:Int)<10 ^ YdQ 12+1;rw[e12];decide),_,rfl,_,_,rfl,rfl,(by show (0:Int)<2;decide),10,12,rfl,rfl,⟨by decide,by decide,by decide⟩,_,_,rfl,rfl,.inl ⟨by omega,by omega⟩,_,rfl,_,rfl,_,_,rfl,rfl,.inl ⟨by omega,by omega⟩,(by show 6<=sizeLine;decide),fun q nq=>?_⟩;obtain⟨y,hy,hyb⟩:=at6 (P:=fun z=>0<=z/\z<=1000000000000) w0 w6 (show (0:Int)<=7/\(7:Int)<=1000000000000 by decide) (show 0<=x % 4/\x % 4<=1000000000000 by omega) (show 0<=1+x % 60/\1+x % 60<=1000000000000 by omega) (show 0<=x % (10 ^ YdQ 12+1)/\x % (10 ^ YdQ 12+1)<=1000000000000 by rw[e12];omega) (show 0<=x % 2*10 ^ YdQ 12/\x % 2*10 ^ YdQ 12<=1000000000000 by rw[e12];omega) (show 0<=(0+(i:Int))*(0+(i:Int))/\(0+(i:Int))*(0+(i:Int))<=1000000000000 by
    have h1:(i:Int)*i<=200*200:=Int.mul_le_mul (by omega) (by omega) (by omega) (by omega);have h2:0<=(i:Int)*i:=Int.mul_nonneg (by omega) (by omega);rw[Yff];omega)
   have nql:l≠q:=Zag hl nq;refine⟨_,rfl,q,_,way,.int y,rfl,rfl,SqL.of Zab,hy,l,_,_,rfl,rfl,by rw[Zaf nql];exact hl,by rw[Yac];omega,?_⟩;refine⟨ls++[y],_,_,rfl,by rw[Zab,Yay];rfl,by rw[Yak,hli];rfl,fun z hz=>?_,?_⟩
   ·rcases Yaj.mp hz with h | h
    ·exact hb z h
    ·rw[YaF.mp h];exact hyb
   ·exact (sx.trans (Same.new nq)).put nl
  ·rintro σ Hx ⟨ls,o4,o5,rfl,hl,hli,hb,sx⟩;exact⟨_,rfl,k l ls Hx nl hl (by omega) (by omega) hb sx⟩
end
end Fk41
namespace Fk41
open PySem L2 Lv
section
variable {P:Program}{w:World}{K:Yae}{mg:Str->Option Value}{base:Heap}
theorem scLaw41:FnScope ["script","cell","draws","p","lengths","first","reading","turn","n","reels","alike","told"] ["script"] (Zac sLaw):=⟨rfl,rfl,rfl,by decide +kernel,rfl,by decide +kernel,by decide +kernel⟩
def ZiD (K:Yae):Sp:=fun vs H Q _=>∃ (a:Addr) (ns:List Int),vs=[.ref a]/\SqL K H a (ns.map V.int)/\ns.length<=63/\∀ H',Q (.bl true) H'
theorem Zlo {f f1 f2 f3 f4 f5 f6 f7 f8 f9 f10 f11:Addr}{fd d1 d2 d3 d4 d5 d6 d7 d8 d9 d10 d11:FuncData} (F:Fun K "law" "law" sLaw f fd) (T:Txt mg) (CF:Cal P w K mg base 1 "_law_folded" ["script"] (Zem K) f1 d1) (CD:Cal P w K mg base 2 "_law_draws" ["cell","many","base"] Zeo f2 d2) (CE:Cal P w K mg base 1 "_law_lengths" ["draws","most"] Zf2 f3 d3) (CB:Cal P w K mg base 4 "best_placing" ["p","lengths"] (ZkP K) f4 d4) (CR:Cal P w K mg base 7 "placing_right" ["p","lengths","told"] (Zeg K) f5 d5) (CV:Cal P w K mg base 1 "_law_level" ["p","rows","further","most"] (Zei K) f6 d6) (CO:Cal P w K mg base 1 "_law_reels" ["p","n"] (Zc1 K) f7 d7) (CX:Cal P w K mg base 7 "placing_reading" ["p","n","lengths","placing"] (ZiB K) f8 d8) (CP:Cal P w K mg base 1 "_law_placing" ["reels","rows","draws"] (ZfY K) f9 d9) (CG:Cal P w K mg base 5 "_law_grown_right" ["p","lengths","draws","reading"] (Zc4 K) f10 d10) (CL:Cal P w K mg base 5 "least_reading" ["p","n","rows"] ZiE f11 d11):FnOk P w K mg base CX0 8 f fd ["script"] (ZiD K):=by
 refine okW F scLaw41 (fun vs H Q E h=>?_) (fun cdv A outer s H vs Q E hr h=>?_)
 ·obtain⟨a,cs,rfl,_⟩:=h;rfl
 ·obtain⟨a,cs,rfl,hS,hlen,k⟩:=h;have hr1:Room 1 _:=hr.mono (by decide);have hr2:Room 2 _:=hr.mono (by decide);have hr4:Room 4 _:=hr.mono (by decide);have hr5:Room 5 _:=hr.mono (by decide);have hr7:Room 7 _:=hr.mono (by decide);have hu1:_+1<cLine:=Yce (Yc2 (by decide:1<=64) _) hr.units;refine⟨_,(Zah (ws (Zbd Ybf rfl (Zex (Zap CF hr1 rfl (Zaa (pv 0) Zad))) (Zaj (i:=1) scLaw41.nd rfl (YaJ rfl))
   (WSs.out (Zah (ws (Zaq (i:=2) scLaw41.nd rfl (YaJ rfl) (Zap CD hr2 rfl (Zaa (pv 1) (Zaa Zae (Zaa (Zal Zb0 Zae Zae) Zad))))))
    (Zah (ws (Zaq (i:=3) scLaw41.nd rfl (YaJ rfl) (Zal ZaP Zae (Zal ZaN (ZaK Zaz (pv 2) Zae (fun _ _=>rfl)) Zae))))
    (Zah (ws (Zaq (i:=4) scLaw41.nd rfl (YaJ rfl) (Zap CE hr1 rfl (Zaa (pv 2) (Zaa Zae Zad)))))
    (Zah (ws (Zaq (i:=5) scLaw41.nd rfl (YaJ rfl) (Zap CB hr4 rfl (Zaa (pv 3) (Zaa (pv 4) Zad)))))
    (Zah (ws (Zaq (i:=6) scLaw41.nd rfl (YaJ rfl) (ZaK Zb2 (pv 5) Zae (fun _ _=>rfl))))
    (Zah (ZcQ (PW.pt (Zfd (ZaO Zi6 (Zap CR hr7 rfl (Zaa (pv 3) (Zaa (pv 4) (Zaa (pv 5) Zad)))) Zga (ZaS _)) (Zda (ZaO Zm1 (ZaK Zb2 (Zap CB hr4 rfl (Zaa (pv 3) (Zaa (Zn8 (pv 4) (Zbk (ZmX Zii Zae))) Zad))) Zae (fun _ _=>rfl)) (pv 6) (ZaS _)))))
    (wss Za9)
    Zbc)
    (Zah (ws (Zbd Ybf rfl (ZaH rfl T.range (Zaa Zae Zad)) (Zaj (i:=7) scLaw41.nd rfl (YaJ rfl))
    (WSs.out (Zah (ws (Zaq (i:=8) scLaw41.nd rfl (YaJ rfl) (Zap CV hr1 rfl (Zaa (pv 3) (Zaa (Zam Zas rfl T.len Ybj (Zaa (pv 4) Zad)) (Zaa (Zal ZaN (ZaK Zaz (pv 2) (Zal ZaP Zae (pv 7)) (fun _ _=>rfl)) Zae) (Zaa Zae Zad)))))))
     (Zah (ws (Zaq (i:=9) scLaw41.nd rfl (YaJ rfl) (Zap CO hr1 rfl (Zaa (pv 3) (Zaa (pv 8) Zad)))))
     (Zax (ZcQ (ZaO Zk8 (Zap CX hr7 rfl (Zaa (pv 3) (Zaa (pv 8) (Zaa (pv 4) (Zaa (Zap CP hr1 rfl (Zaa (pv 9) (Zaa (Zam Zas rfl T.len Ybj (Zaa (pv 4) Zad)) (Zaa (Za7 Zb7 (pv 2) (Zbk (Zal ZaP Zae (Zal Zb1 Zae (pv 7)))) Zbn) Zad)))) Zad))))) (pv 6) (ZaS _))
     (wss Za9)
     Zbc)))))))
    (Zah (ZcQ (ZbE (Zcn (Zap CG hr5 rfl (Zaa (pv 3) (Zaa (pv 4) (Zaa (Za7 Zb7 (pv 2) (Zbk Zae) Zbn) (Zaa (pv 6) Zad)))))))
    (wss Za9)
    Zbc)
    (Zah (ws (Zaq (i:=10) scLaw41.nd rfl (YaJ rfl) (Zal Zfg (ZaI (Zaa (Zal ZaP Zae (Zal ZaN (ZaK Zaz (pv 2) Zae (fun _ _=>rfl)) (Zal Zb0 Zae Zae))) Zad)) (Zam Zas rfl T.len Ybj (Zaa (pv 4) Zad)))))
    (Zah (ws (Zaq (i:=11) scLaw41.nd rfl (YaJ rfl) (Zap CB hr4 rfl (Zaa (pv 3) (Zaa (pv 10) Zad)))))
    (Zax (ZcQ (ZaO Zm1 (ZaK Zb2 (pv 11) Zae (fun _ _=>rfl)) (Zal Zb1 (ZaK Zaz (pv 10) Zae (fun _ _=>rfl)) (Zap CL hr5 rfl (Zaa (pv 3) (Zaa (ZaK Zb2 (pv 11) Zae (fun _ _=>rfl)) (Zaa (Zam Zas rfl T.len Ybj (Zaa (pv 10) Zad)) Zad))))) (ZaS _))
    (wss Za9)
    Zbc)))))))))))))))
   (Zax (ws (Zav Zga)))),?_⟩
  have hz:20000<sizeLine:=by decide
  refine⟨_,rfl,a,cs,rfl,hS,by omega,fun sl cells H2 nsl hsl hcl s2=>?_⟩;refine⟨sl,true,rfl,⟨_,SqL.of hsl⟩,?_⟩;refine ZlE (b:=true) (K:=K) (a:=sl) (xs:=cells.map V.int) (fun i σ Hx=>∃ o1 o2 o3 o4 o5 o6 o7 o8 o9 oa ob:Option V,σ=[some (.ref a),o1,o2,o3,o4,o5,o6,o7,o8,o9,oa,ob]/\Same H2 Hx) ⟨none,none,none,none,none,none,none,none,none,none,none,rfl,Same.refl _⟩ (fun i σ Hx _ ⟨_,_,_,_,_,_,_,_,_,_,_,_,sx⟩=>SqL.of (sx _ _ hsl)) ?_ ?_
  ·rintro i x σ Hx hx ⟨o1,o2,o3,o4,o5,o6,o7,o8,o9,oa,ob,rfl,sx⟩;obtain⟨z,hz',rfl⟩:=Zcc hx;refine⟨_,rfl,10,15,rfl,rfl,⟨by decide,by decide,by decide⟩,z,70,_,rfl,by decide,by decide,by decide,fun dl ds H3 ndl hdl dlen d0 s3=>?_⟩;have sx3:=sx.trans s3;have gd:∀ (j:Nat),j<70->atI (ds.map V.int) (j:Int)=some (.int (ds.getD j 0)):=fun j hj=>by
    rw[Zby (by omega) (by omega),YaQ]
   have m6a:=Ya4 (ds.getD 20 0) (show (6:Int)≠0 by decide);have m6b:=Yba (ds.getD 20 0) (show (0:Int)<6 by decide);refine⟨_,rfl,dl,_,20,_,rfl,rfl,SqL.of hdl,gd 20 (by omega),_,_,rfl,rfl,(by show (0:Int)<6;decide),2,_,rfl,rfl,?_⟩;obtain⟨p,hpd⟩:∃ p:Nat,2+ds.getD 20 0 % 6=(p:Int):=⟨(2+ds.getD 20 0 % 6).toNat,by omega⟩
   have p2:2<=p:=by omega
   have p7:p<=7:=by omega
   dsimp only;rw[hpd];refine⟨_,rfl,dl,ds,16,rfl,hdl,d0,by decide,by decide,by omega,by omega,fun l0 ls H4 nl0 hl0 hls1 hls16 hlb s4=>?_⟩;have sx4:=sx3.trans s4;have hdl4:=s4 _ _ hdl;have nnL:∀ l∈ls,0<=l:=fun l hl=>(hlb l hl).1
   have hbits:∀ l∈ls,Ya3 l<=8000:=fun l hl=>Zbi (by have:=hlb l hl;omega) (by have:=hlb l hl;omega);refine⟨_,rfl,_,rfl,p,l0,ls,rfl,p2,p7,SqL.of hl0,by omega,hlb,fun t pl qs ks n m H5 ht hpl hTu hin hnd hkl hn4 hB hT s5=>?_⟩;have hl05:=s5 _ _ hl0;have hdl5:=s5 _ _ hdl4;have sx5:=sx4.trans s5;refine⟨_,rfl,t,_,0,_,rfl,rfl,SqT.of ht,rfl,?_⟩;refine⟨_,rfl,_,rfl,_,rfl,p,l0,t,pl,qs,ls,ks,n,m,rfl,p2,p7,hl05,by omega,hlb,ht,hpl,hTu,hin,hnd,hkl,hB,hT,fun H6 s6=>?_⟩;generalize hRv:(ZaU (num p n) ls ks).sum=Rv at hB ht ⊢;have hl06:=s6 _ _ hl05;have hdl6:=s6 _ _ hdl5;have sx6:=sx5.trans s6;refine⟨true,true,rfl,rfl,false,rfl,iteF ?_⟩;refine⟨_,rfl,_,rfl,1,rfl,_,rfl,rfl,l0,_,rfl,SqL.of hl06,fun lr nlr=>?_⟩;rw[<- List.map_reverse];have s7:=Same.new (o:=.lst (ls.reverse.map V.int)) nlr;have e7:upd H6 lr (.lst (ls.reverse.map V.int)) lr=some (.lst (ls.reverse.map V.int)):=Zab;generalize upd H6 lr (.lst (ls.reverse.map V.int))=H7 at s7 e7 ⊢;refine⟨p,lr,ls.reverse,rfl,p2,p7,SqL.of e7,by rw[Yca];omega,fun l hl=>hlb l (YcP.mp hl),fun t2 pl2 qs2 ks2 n2 m2 H8 ht2 _ _ _ _ _ _ hB2 hT2 s8=>?_⟩;cases hT2.one hT;rw[Zj1 (L:=num p) (YcK ls)] at hB2;obtain⟨eR,_⟩:=hB2.one hB;rw[eR] at ht2;have s68:=s7.trans s8;have hl08:=s68 _ _ hl06;have hdl8:=s68 _ _ hdl6;have sx8:=sx6.trans s68;refine⟨t2,_,0,_,rfl,rfl,SqT.of ht2,rfl,_,rfl,?_⟩;refine⟨rfl,false,by rw[decide_eq_true rfl];rfl,iteF ?_⟩;refine⟨2,rfl,by decide,by decide,?_⟩;refine Za2 (fun i σ Hx=>∃ o7 o8 o9:Option V,σ=[some (.ref a),some (.int z),some (.ref dl),some (.int p),some (.ref l0),some (.ref t),some (.int Rv),o7,o8,o9,oa,ob]/\Same H8 Hx) ⟨o7,o8,o9,rfl,Same.refl _⟩ ?_ ?_
   ·rintro i σ Hy hi ⟨o7,o8,o9,rfl,sy⟩;have hi:i<2:=hi;have hl0y:=sy _ _ hl08;have hdly:=sy _ _ hdl8;have m5:=Ya4 (ds.getD (21+i) 0) (show (5:Int)≠0 by decide);refine⟨_,rfl,_,rfl,l0,_,rfl,.inl (SqL.of hl0y),_,rfl,_,rfl,_,_,rfl,rfl,dl,_,_,.int (ds.getD (21+i) 0),rfl,rfl,SqL.of hdly,?_,_,_,rfl,rfl,(by show (0:Int)<5;decide),?_⟩
    ·rw[show (21:Int)+(0+(i:Int))=((21+i:Nat):Int) by omega];exact gd (21+i) (by omega)
    refine⟨p,(ls.length:Int),ds.getD (21+i) 0 % 5,400,400,by rw[Yac];rfl,p2,p7,by omega,by omega,m5,by decide,fun n5 H9 hn1 hn4' s9=>?_⟩;have hn19:=Zni p2 p7 (show tot p n5<=4000 by omega);have sy9:=sy.trans s9;refine⟨_,rfl,_,rfl,p,n5,rfl,p2,p7,by omega,by omega,fun rl rs Ha nrl hrl hLL sa=>?_⟩;have sya:=sy9.trans sa;have hl0a:=sya _ _ hl08;have hdla:=sya _ _ hdl8;have hfl:((num p n5).flatten.length:Int)=tot p n5:=Za8 p n5;refine⟨_,rfl,_,rfl,_,rfl,_,rfl,_,rfl,l0,_,rfl,.inl (SqL.of hl0a),_,rfl,_,rfl,_,_,rfl,rfl,.inl ⟨by decide,by decide⟩,_,_,rfl,rfl,((30+16*i:Nat):Int),?_,dl,_,rfl,SqL.of hdla,fun q3 nq3=>?_⟩
    ·exact congrArg V.int (by show (30:Int)+16*(0+(i:Int))=((30+16*i:Nat):Int);omega)
    rw[ZeM,<- YdM];have sb:=Same.new (o:=.lst ((ds.drop (30+16*i)).map V.int)) nq3;have eb:upd Ha q3 (.lst ((ds.drop (30+16*i)).map V.int)) q3=some (.lst ((ds.drop (30+16*i)).map V.int)):=Zab;generalize upd Ha q3 (.lst ((ds.drop (30+16*i)).map V.int))=Hb at sb eb ⊢;refine⟨rl,q3,rs,num p n5,ls.length,ds.drop (30+16*i),by rw[Yac];rfl,sb _ _ hrl,hLL.same sb,by rw[ZbG (by omega)];omega,by omega,by omega,by rw[Ybp];omega,eb,fun l1 qs9 ks9 Hc nl1 hl1 hTu9 hnd9 hin9 hkl9 sc=>?_⟩;have syc:=(sya.trans sb).trans sc;refine⟨p,n5,l0,l1,true,qs9,ls,ks9,rfl,p2,p7,by omega,by omega,SqL.of (syc _ _ hl08),hl1,hTu9,hin9,⟨hkl9.symm,by omega⟩,hbits,fun Hd sd=>?_⟩;have hp9:=ZiS p2 hB hT.2 (by omega) hn1 hnd9 hin9 hkl9 nnL;refine⟨_,rfl,_,_,rfl,rfl,false,?_,iteF ?_⟩
    ·exact congrArg V.bl (decide_eq_false (by omega))
    exact⟨_,_,_,rfl,syc.trans sd⟩
   ·rintro σ Hy ⟨o7,o8,o9,rfl,sy⟩;have hl0y:=sy _ _ hl08;have hdly:=sy _ _ hdl8;have sxy:=sx8.trans sy;refine⟨_,rfl,_,rfl,_,rfl,24,rfl,dl,_,rfl,SqL.of hdly,fun q4 nq4=>?_⟩;rw[show (some (24:Int))=some ((24:Nat):Int) from rfl,ZeM,<- YdM];have se:=Same.new (o:=.lst ((ds.drop 24).map V.int)) nq4;have ee:upd Hy q4 (.lst ((ds.drop 24).map V.int)) q4=some (.lst ((ds.drop 24).map V.int)):=Zab;generalize upd Hy q4 (.lst ((ds.drop 24).map V.int))=He at se ee ⊢;refine⟨_,rfl,p,l0,q4,ls,ds.drop 24,Rv,n,m,rfl,p2,p7,se _ _ hl0y,by omega,by omega,hlb,ee,by rw[Ybp];omega,fun d hd=>d0 d (Ybz hd),hB,hT,fun Hf sf=>⟨true,rfl,iteF ?_⟩⟩;have syf:=(sy.trans se).trans sf;have hl0f:=syf _ _ hl08;have hdlf:=syf _ _ hdl8;have mx:=Ya4 (ds.getD 28 0) (show (1000000000000:Int)≠0 by decide);have my:=Yba (ds.getD 28 0) (show (0:Int)<1000000000000 by decide);refine⟨_,rfl,dl,_,28,_,rfl,rfl,SqL.of hdlf,gd 28 (by omega),10,12,rfl,rfl,⟨by decide,by decide,by decide⟩,_,_,rfl,rfl,(by show (0:Int)<10 ^ (12:Int).toNat;decide),_,_,rfl,rfl,(by show 1<=sizeLine;decide),fun q5 nq5=>?_⟩;dsimp only;rw[show ((10:Int) ^ (12:Int).toNat)=1000000000000 from by decide];obtain⟨L,hL,hL1,hL2⟩:∃ L:Int,1+ds.getD 28 0 % 1000000000000=L/\1<=L/\L<=1000000000000:=⟨_,rfl,by omega,by omega⟩
    rw[hL];have sg:=Same.new (o:=.lst [V.int L]) nq5;have e5:upd Hf q5 (.lst [V.int L]) q5=some (.lst [V.int L]):=Zab;generalize upd Hf q5 (.lst [V.int L])=Hg at sg e5 ⊢;refine⟨_,rfl,l0,_,rfl,.inl (SqL.of (sg _ _ hl0f)),?_⟩;refine⟨q5,(ls.length:Int),_,rfl,by rw[Yac],e5,by omega,by omega,by rw[YaQ];show 1*ls.length<=sizeLine;omega,fun q6 nq6=>?_⟩;have erep:(Yai ((ls.length:Int).toNat) [V.int L]).flatten=(Yai ls.length L).map V.int:=by
     rw[YaQ,Yfr];generalize ls.length=r
     induction r with
     | zero=>rfl
     | succ r ih=>rw[Ybo,Ya9,ih];rfl
    rw[erep];have sh:=Same.new (o:=.lst ((Yai ls.length L).map V.int)) nq6;have e6:upd Hg q6 (.lst ((Yai ls.length L).map V.int)) q6=some (.lst ((Yai ls.length L).map V.int)):=Zab;generalize upd Hg q6 (.lst ((Yai ls.length L).map V.int))=Hh at sh e6 ⊢;refine⟨_,rfl,_,rfl,p,q6,Yai ls.length L,rfl,p2,p7,SqL.of e6,by rw[Ybk];omega,fun l hl=>by rw[(YbZ.mp hl).2];omega,fun t3 pl3 qs3 ks3 n3 m3 Hi ht3 _ _ _ _ _ hn34 hB3 _ si=>?_⟩;have hn19:=Zni p2 p7 hn34;obtain⟨a1,a2⟩:=ZnC (by omega) hls1 hB3;generalize (ZaU (num p n3) (Yai ls.length L) ks3).sum=R3 at ht3 a2;have e6i:=si _ _ e6;refine⟨_,rfl,t3,_,0,.int R3,rfl,rfl,SqT.of ht3,rfl,_,rfl,q6,_,0,.int L,rfl,rfl,SqL.of e6i,?_,_,rfl,_,rfl,t3,_,1,.int (n3:Int),rfl,rfl,SqT.of ht3,rfl,_,rfl,q6,_,rfl,.inl (SqL.of e6i),?_⟩
    ·rw[show ls.length=(ls.length - 1)+1 by omega,Ybo];exact Zby (fs:=L::Yai (ls.length - 1) L) (by decide) (by simp)
    refine⟨p,n3,(ls.length:Int),by rw[Yac,Ybk];rfl,p2,p7,by omega,by omega,a1,fun v Hj hv sj=>?_⟩;refine⟨_,_,rfl,rfl,.inl ⟨by omega,by omega⟩,rfl,false,by rw[a2 v hv,decide_eq_true rfl];rfl,iteF ?_⟩;exact⟨_,_,_,_,_,_,_,_,_,_,_,rfl,((((sxy.trans (se.trans sf)).trans sg).trans sh).trans si).trans sj⟩
  ·rintro σ Hx ⟨o1,o2,o3,o4,o5,o6,o7,o8,o9,oa,ob,rfl,sx⟩;exact k Hx
end
end Fk41
namespace Fk41
open PySem L2 Lv
section
variable {P:Program}{w:World}{K:Yae}{mg:Str->Option Value}{base:Heap}
theorem ZmE:FnScope ["thing"] ["thing"] (Zac ZdK):=⟨rfl,rfl,rfl,by decide +kernel,rfl,by decide +kernel,by decide +kernel⟩
theorem Zlc {f:Addr}{fd:FuncData} (F:Fun K "is_whole" "is_whole" ZdK f fd) (T:Txt mg):FnOk P w K mg base CX0 1 f fd ["thing"] Zcv:=by
 refine F.ok ZmE (fun vs H Q E h=>?_) (fun cdv A outer s H vs Q E hr h=>?_)
 ·obtain⟨i,rfl,_⟩:=h;rfl
 ·obtain⟨i,rfl,k⟩:=h;refine⟨_,Zao (Zav (Zd1 (Zam Zcf rfl T.isinstance Zbm (Zaa (pv 0) (Zaa (ZiZ rfl T.int Zpe) Zad)))
   (Zd0 (Zn9 (Zam Zcf rfl T.isinstance Zbm (Zaa (pv 0) (Zaa (ZiZ rfl T.bool ZoD) Zad))))))),?_⟩
  refine⟨_,rfl,.int i,"int",_,true,rfl,.int i,Zgg,true,rfl,iteT ?_⟩;exact⟨_,rfl,.int i,"bool",_,false,rfl,.int i,Zfn,false,rfl,k⟩
theorem ZnZ:FnScope ["p"] ["p"] (Zac ZhE):=⟨rfl,rfl,rfl,by decide +kernel,rfl,by decide +kernel,by decide +kernel⟩
theorem Zm6 {f fW:Addr}{fd dW:FuncData}{t2 t7:Tok} (F:Fun K "check_ways" "check_ways" ZhE f fd) (T:Txt mg) (hL:mg "LEAST_WAYS"=some (.int 2 t2)) (hM:mg "MOST_WAYS"=some (.int 7 t7)) (CW:Cal P w K mg base 1 "is_whole" ["thing"] Zcv fW dW) :
  FnOk P w K mg base CX0 2 f fd ["p"] ZdI:=by
 refine F.ok ZnZ (fun vs H Q E h=>?_) (fun cdv A outer s H vs Q E hr h=>?_)
 ·obtain⟨i,rfl,_⟩:=h;rfl
 ·obtain⟨i,rfl,h1,h2,k⟩:=h;refine⟨_,Zao (Zfe (PW.pt (Zfd (ZbE (Zcn (Zap CW hr rfl (Zaa (pv 0) Zad))))
   (Zda (ZbE (ZgR Zgb Zgb (Zez rfl hL) (pv 0) (Zez rfl hM)))))) Za9 Zb9),?_⟩
  refine⟨_,rfl,i,rfl,true,rfl,iteF ?_⟩;refine⟨_,rfl,2,i,rfl,rfl,_,rfl,?_⟩;rw[decide_eq_true h1];refine iteT ⟨i,7,rfl,rfl,_,rfl,?_⟩;rw[decide_eq_true h2];exact iteF k
theorem ZmJ:FnScope ["n","last"] ["n","last"] (Zac ZdR):=⟨rfl,rfl,rfl,by decide +kernel,rfl,by decide +kernel,by decide +kernel⟩
theorem Zlm {f fW da:Addr}{fd dW:FuncData} (F:FunD K "check_level" "check_level" ZdR f da fd) (T:Txt mg) (CW:Cal P w K mg base 1 "is_whole" ["thing"] Zcv fW dW) :
  FnOk P w K mg base CX0 2 f fd ["n","last"] ZcT:=by
 refine F.ok ZmJ (fun vs H Q E h=>?_) (fun cdv A outer s H vs Q E hr h=>?_)
 ·obtain⟨i,m,rfl,_⟩:=h;rfl
 ·obtain⟨i,m,rfl,h1,h2,k⟩:=h;refine⟨_,Zao (Zfe (PW.pt (Zfd (ZbE (Zcn (Zap CW hr rfl (Zaa (pv 0) Zad))))
   (Zda (ZbE (ZgR Zgb Zgb Zae (pv 0) (pv 1)))))) Za9 Zb9),?_⟩
  refine⟨_,rfl,i,rfl,true,rfl,iteF ?_⟩;refine⟨_,rfl,0,i,rfl,rfl,_,rfl,?_⟩;rw[decide_eq_true h1];refine iteT ⟨_,rfl,i,m,rfl,rfl,_,rfl,?_⟩;rw[decide_eq_true h2];exact iteF k
theorem ZmK:FnScope ["p"] ["p"] (Zac ZdT):=⟨rfl,rfl,rfl,by decide +kernel,rfl,by decide +kernel,by decide +kernel⟩
theorem Zlp {f:Addr}{fd:FuncData} (F:Fun K "first_counts" "first_counts" ZdT f fd) (T:Txt mg):FnOk P w K mg base CX0 1 f fd ["p"] Zf3:=by
 refine F.ok ZmK (fun vs H Q E h=>?_) (fun cdv A outer s H vs Q E hr h=>?_)
 ·obtain⟨p,rfl,_⟩:=h;rfl
 ·obtain⟨p,rfl,h1,h2,k⟩:=h;refine⟨_,Zao (Zav (Zba ZaR rfl T.tuple ZbJ (Zaa (Zal Zbb (ZaI (Zaa Zae Zad)) (Zal Zfg (ZaI (Zaa Zae Zad)) (Zal ZbZ (pv 0) Zae))) Zad))),?_⟩;refine⟨(by show 1<=sizeLine;decide),fun p1 e1=>⟨(by show 1<=sizeLine;decide),fun p2 e2=>⟨_,rfl,_,_,rfl,rfl,?_⟩⟩⟩;have z2:(upd (upd H p1 (.lst [.int 1])) p2 (.lst [.int 0])) p1=some (.lst [.int 1]):=by rw[Zaf (Zag Zab e2)];exact Zab
  refine⟨p2,(p:Int) - 1,_,rfl,rfl,Zab,by omega,by omega,?_,fun p3 e3=>?_⟩
  ·exact Ya2 (Zau (by show 1*((p:Int) - 1).toNat<=1000;omega))
  have z3:=(Same.new (o:=.lst (Yai ((p:Int) - 1).toNat [V.int 0]).flatten) e3) p1 _ z2;have ez:(Yai ((p:Int) - 1).toNat [V.int 0]).flatten=Yai (p - 1) (V.int 0):=by
   rw[show ((p:Int) - 1).toNat=p - 1 by omega];exact YcH
  rw[ez] at z3 ⊢;refine⟨p1,p3,_,_,rfl,rfl,z3,Zab,?_,fun p4 e4=>?_⟩
  ·exact Ya2 (Zau (by rw[Ybk];show 1+(p - 1)<=1000;omega))
  refine⟨p4,_,rfl,.inl ⟨SqL.of Zab,fun l hl=>?_⟩⟩;have s4:=(((Same.new (o:=.lst [.int 1]) e1).trans (Same.new (o:=.lst [.int 0]) e2)).trans (Same.new (o:=.lst (Yai (p - 1) (V.int 0))) e3)).trans (Same.new (o:=.lst ([.int 1]++Yai (p - 1) (V.int 0))) e4);refine k l _ (s4.free hl) ?_ (s4.trans (Same.new hl));rw[Zab];simp[Zcs]
theorem scNext:FnScope ["counts","first"] ["counts"] (Zac Zf7):=⟨rfl,rfl,rfl,by decide +kernel,rfl,by decide +kernel,by decide +kernel⟩
theorem Zm9 {f:Addr}{fd:FuncData} (F:Fun K "next_counts" "next_counts" Zf7 f fd) (T:Txt mg):FnOk P w K mg base CX0 1 f fd ["counts"] (ZiC K):=by
 refine F.ok scNext (fun vs H Q E h=>?_) (fun cdv A outer s H vs Q E hr h=>?_)
 ·obtain⟨a,c,rfl,_⟩:=h;rfl
 ·obtain⟨a,c,rfl,hA,h1,h2,k⟩:=h;refine⟨_,Zan (Zaq (i:=1) scNext.nd rfl (Ydb rfl) (ZaK Zb2 (pv 0) Zae (fun _ _=>rfl)))
   (Zao (Zav (Zba ZaR rfl T.tuple ZbJ (Zaa (Zal Zbb
    (Za0 (own:=["count"]) (js:=[1]) (CompOk.by (sc:=Zac Zf7) (N:=["counts","first"]) rfl rfl (by decide +kernel)) rfl (Zff (Za7 ZiG (pv 0) (Zbk Zae) Zbn)) ZaB
     (fun _ _ _ _ _=>Zaj (i:=0) (by show (["count","first"]:List Str).Nodup;decide +kernel) rfl (YaJ rfl) (.inr rfl)) (fun _ _ _ _ _=>ZaM) (fun _ _ _ _ _=>Zal ZaP (pv 1) (pv 0)))
    (ZaI (Zaa (pv 1) Zad))) Zad)))),?_⟩
  obtain⟨c0,cr,rfl⟩:∃ c0 cr,c=c0::cr:=by
   cases c with
   | nil=>simp at h1
   | cons x y=>exact⟨x,y,rfl⟩
  have hcr:cr.length<=6:=by simpa using h2
  refine⟨_,rfl,a,_,0,.int c0,rfl,rfl,hA,ZlQ,?_⟩;refine⟨_,rfl,1,rfl,a,_,rfl,hA,?_,fun p1 e1=>⟨p1,rfl,⟨_,SqT.of Zab⟩,?_⟩⟩
  ·rintro⟨z,_⟩;have:HT.sIx ((c0::cr).map V.int).length 0 (some ((1:Nat):Int))=0:=z;rw[HT.sIx_nat] at this;simp at this
  have ecut:cutV ((c0::cr).map V.int) (some 1) none=cr.map V.int:=by
   unfold cutV;show (((c0::cr).map V.int).drop (HT.sIx ((c0::cr).map V.int).length 0 (some ((1:Nat):Int)))).take (HT.sIx ((c0::cr).map V.int).length ((c0::cr).map V.int).length none - HT.sIx ((c0::cr).map V.int).length 0 (some ((1:Nat):Int)))=_;rw[HT.sIx_nat];rw[show min 1 ((c0::cr).map V.int).length=1 by simp];show (cr.map V.int).take (((c0::cr).map V.int).length - 1)=_;rw[Ybn (by simp)]
  rw[ecut];refine ZcV (xs:=cr.map V.int) (fun acc i H2=>Same (upd H p1 (.tup (cr.map V.int))) H2/\H2 acc=some (.lst (((cr.take i).map (c0+·)).map V.int))) (fun acc h0=>⟨Same.new h0,Zab⟩) (fun acc i H2 h0 _ p=>p.1.tup (SqT.of Zab)) ?_ ?_
  ·rintro acc i x H2 h0 hx ⟨s2,hacc⟩;obtain⟨z,hz,rfl⟩:=Zcc hx;have hi:=(Yad.mp hz).1
   refine⟨_,rfl,_,rfl,_,_,rfl,rfl,_,hacc,?_,by rw[Yac];exact hi,s2.put h0,?_⟩
   ·exact Zau (by simp;omega)
   ·rw[Zab,Ybe,hz];simp
  ·rintro acc H2 h0 ⟨s2,hacc⟩;rw[Yac,YaO] at hacc;refine⟨_,rfl,(by show 1<=sizeLine;decide),fun p2 e2=>?_⟩;refine⟨acc,p2,_,_,rfl,rfl,(Same.new e2) acc _ hacc,Zab,?_,fun p3 e3=>⟨p3,_,rfl,.inl ⟨SqL.of Zab,fun l hl=>?_⟩⟩⟩
   ·exact Ya2 (Zau (by simp;omega))
   have s3:=(((Same.new (o:=.tup (cr.map V.int)) e1).trans s2).trans (Same.new (o:=.lst [.int c0]) e2)).trans (Same.new (o:=.lst (((cr.map (c0+·)).map V.int)++[.int c0])) e3);refine k l _ (s3.free hl) ?_ (s3.trans (Same.new hl));rw[Zab];simp[Zbt]
theorem scCounts:FnScope ["p","n","counts","level"] ["p","n"] (Zac ZcF):=⟨rfl,rfl,rfl,by decide +kernel,rfl,by decide +kernel,by decide +kernel⟩
theorem Zjj {f fA fB fC fD:Addr}{fd dA dB dC dD:FuncData} (F:Fun K "level_counts" "level_counts" ZcF f fd) (T:Txt mg) (CA:Cal P w K mg base 2 "check_ways" ["p"] ZdI fA dA) (CB:CalD P w K mg base 2 "check_level" ["n","last"] [.int 300] ZcT fB dB) (CC:Cal P w K mg base 1 "first_counts" ["p"] Zf3 fC dC) (CD:Cal P w K mg base 1 "next_counts" ["counts"] (ZiC K) fD dD) :
  FnOk P w K mg base CX0 3 f fd ["p","n"] Zep:=by
 refine F.ok scCounts (fun vs H Q E h=>?_) (fun cdv A outer s H vs Q E hr h=>?_)
 ·obtain⟨p,n,rfl,_⟩:=h;rfl
 ·obtain⟨p,n,rfl,h1,h2,h3,k⟩:=h;have hr1:Room 1 _:=hr.mono (by decide);refine⟨_,Zan (ZaX (Zap CA hr rfl (Zaa (pv 0) Zad))) (Zan (ZaX (Zi4 CB hr rfl (Zaa (pv 1) Zad)))
   (Zan (Zaq (i:=2) scCounts.nd rfl (YaJ rfl) (Zap CC hr1 rfl (Zaa (pv 0) Zad)))
   (Zan (Zbd Ybf rfl (ZaH rfl T.range (Zaa (pv 1) Zad)) (Zaj (i:=3) scCounts.nd rfl (YaJ rfl))
    (Zao (Zaq (i:=2) scCounts.nd rfl (YaJ rfl) (Zap CD hr1 rfl (Zaa (pv 2) Zad)))))
   (Zao (Zav (pv 2)))))),?_⟩
  refine⟨_,rfl,p,rfl,by omega,by omega,?_⟩;refine⟨_,rfl,n,300,rfl,by omega,by omega,?_⟩;refine⟨_,rfl,p,rfl,h1,h2,fun l H1 hl0 hl1 s1=>?_⟩;refine⟨_,rfl,n,rfl,by omega,by omega,Za2 (fun i σ H2=>∃ (l:Addr) (o:Option V),σ=[some (.int p),some (.int n),some (.ref l),o]/\H l=none/\H2 l=some (.tup ((cnt p i).map V.int))/\Same H H2)
   ⟨l,none,rfl,hl0,hl1,s1⟩ ?_ ?_⟩
  ·rintro i σ H2 hi ⟨l,o,rfl,hl0,hl2,s2⟩;have hlen:=Zdo (p:=p) (by omega) i;refine⟨_,rfl,l,cnt p i,rfl,SqT.of hl2,by omega,by omega,fun l3 H3 h30 h3 s3=>?_⟩;exact⟨l3,_,rfl,s2.free h30,h3,s2.trans s3⟩
  ·rintro σ H2 ⟨l,o,rfl,hl0,hl2,s2⟩;refine⟨_,rfl,k l H2 hl0 ?_ s2⟩;simpa using hl2
theorem ZmG:FnScope ["p","n"] ["p","n"] (Zac ZdM):=⟨rfl,rfl,rfl,by decide +kernel,rfl,by decide +kernel,by decide +kernel⟩
theorem Zle {f fA:Addr}{fd dA:FuncData} (F:Fun K "level_total" "level_total" ZdM f fd) (T:Txt mg) (CA:Cal P w K mg base 3 "level_counts" ["p","n"] Zep fA dA):FnOk P w K mg base CX0 4 f fd ["p","n"] ZfW:=by
 refine F.ok ZmG (fun vs H Q E h=>?_) (fun cdv A outer s H vs Q E hr h=>?_)
 ·obtain⟨p,n,rfl,_⟩:=h;rfl
 ·obtain⟨p,n,rfl,h1,h2,h3,k⟩:=h;refine⟨_,Zao (Zav (Zam (Zkp rfl) rfl T.sum Zib (Zaa (Zap CA hr rfl (Zaa (pv 0) (Zaa (pv 1) Zad))) Zad))),?_⟩;exact⟨_,rfl,_,rfl,p,n,rfl,h1,h2,h3,fun l H1 hl0 hl1 s1=>⟨l,_,rfl,SqT.of hl1,k H1 s1⟩⟩
theorem ZoP:FnScope ["total"] ["total"] (Zac sTot):=⟨rfl,rfl,rfl,by decide +kernel,rfl,by decide +kernel,by decide +kernel⟩
theorem Zoe {f:Addr}{fd:FuncData}{tM:Tok} (F:Fun K "check_total" "check_total" sTot f fd) (T:Txt mg) (hM:mg "MOST_PLACES"=some (.int 4000 tM)):FnOk P w K mg base CX0 1 f fd ["total"] ZmA:=by
 refine F.ok ZoP (fun vs H Q E h=>?_) (fun cdv A outer s H vs Q E hr h=>?_)
 ·obtain⟨i,rfl,_⟩:=h;rfl
 ·obtain⟨i,rfl,h4,k⟩:=h;refine⟨_,Zao (Zfe (ZaO Zi7 (pv 0) (Zez rfl hM) (ZaS _)) Za9 Zb9),?_⟩;refine⟨_,rfl,_,_,rfl,rfl,_,rfl,?_⟩;rw[decide_eq_false (by omega)];exact iteF k
theorem ZkU:FnScope ["p"] ["p"] (Zac ZcE):=⟨rfl,rfl,rfl,by decide +kernel,rfl,by decide +kernel,by decide +kernel⟩
theorem Zji {f:Addr}{fd:FuncData} (F:Fun K "first_numbers" "first_numbers" ZcE f fd) (T:Txt mg):FnOk P w K mg base CX0 1 f fd ["p"] ZcU:=by
 refine F.ok ZkU (fun vs H Q E h=>?_) (fun cdv A outer s H vs Q E hr h=>?_)
 ·obtain⟨p,rfl,_⟩:=h;rfl
 ·obtain⟨p,rfl,h1,h2,k⟩:=h;refine⟨_,Zao (Zav (Zba ZaR rfl T.tuple ZbJ (Zaa (Zal Zbb (ZaI (Zaa (ZbY (Zaa Zae Zad)) Zad)) (Zal Zfg (ZaI (Zaa (ZbY Zad) Zad)) (Zal ZbZ (pv 0) Zae))) Zad))),?_⟩;refine⟨(by show 1<=sizeLine;decide),fun q0 e0=>⟨(by show 1<=sizeLine;decide),fun p1 e1=>⟨YaW _,fun q1 f1=>⟨(by show 1<=sizeLine;decide),fun p2 e2=>⟨_,rfl,_,_,rfl,rfl,?_⟩⟩⟩⟩⟩;have t0:Same H (upd H q0 (.tup [.int 0])):=Same.new e0;have t1:=t0.trans (Same.new (o:=.lst [.ref q0]) e1);have t2:=t1.trans (Same.new (o:=.tup []) f1);have t3:=t2.trans (Same.new (o:=.lst [.ref q1]) e2);have a0:(upd (upd (upd (upd H q0 (.tup [.int 0])) p1 (.lst [.ref q0])) q1 (.tup [])) p2 (.lst [.ref q1])) q0=some (.tup [.int 0]):=((Same.new e1).trans ((Same.new f1).trans (Same.new e2))) q0 _ Zab;have a1:(upd (upd (upd (upd H q0 (.tup [.int 0])) p1 (.lst [.ref q0])) q1 (.tup [])) p2 (.lst [.ref q1])) p1=some (.lst [.ref q0]):=((Same.new f1).trans (Same.new e2)) p1 _ Zab;have a2:(upd (upd (upd (upd H q0 (.tup [.int 0])) p1 (.lst [.ref q0])) q1 (.tup [])) p2 (.lst [.ref q1])) q1=some (.tup []):=(Same.new e2) q1 _ Zab;have a3:(upd (upd (upd (upd H q0 (.tup [.int 0])) p1 (.lst [.ref q0])) q1 (.tup [])) p2 (.lst [.ref q1])) p2=some (.lst [.ref q1]):=Zab;generalize (upd (upd (upd (upd H q0 (.tup [.int 0])) p1 (.lst [.ref q0])) q1 (.tup [])) p2 (.lst [.ref q1]))=H1 at t3 a0 a1 a2 a3 ⊢;refine⟨p2,(p:Int) - 1,_,rfl,rfl,a3,by omega,by omega,?_,fun p3 e3=>?_⟩
  ·exact Ya2 (Zau (by show 1*((p:Int) - 1).toNat<=1000;omega))
  have ez:(Yai ((p:Int) - 1).toNat [V.ref q1]).flatten=Yai (p - 1) (V.ref q1):=by
   rw[show ((p:Int) - 1).toNat=p - 1 by omega];exact YcH
  rw[ez];have s3:=Same.new (o:=.lst (Yai (p - 1) (V.ref q1))) e3;refine⟨p1,p3,_,_,rfl,rfl,s3 p1 _ a1,Zab,?_,fun p4 e4=>⟨p4,_,rfl,.inl ⟨SqL.of Zab,fun l hl=>?_⟩⟩⟩
  ·exact Ya2 (Zau (by rw[Ybk];show 1+(p - 1)<=1000;omega))
  have s4:=s3.trans (Same.new (o:=.lst ([.ref q0]++Yai (p - 1) (V.ref q1))) e4);have s5:=s4.trans (Same.new (o:=.tup ([.ref q0]++Yai (p - 1) (V.ref q1))) hl);have hl0:H l=none:=(t3.trans s4).free hl;refine k l (q0::Yai (p - 1) q1) _ hl0 (by rw[Zab];simp) ⟨by simp[num0],fun j r xs ha hb=>?_⟩ (t3.trans s5)
  cases j with
  | zero=>
   have:r=q0:=by simpa using ha.symm
   have:xs=[0]:=by simpa[num0] using hb.symm
   subst r xs;exact s5 q0 _ a0
  | succ j=>
   have:r=q1:=ZiL (j:=j) (by simpa using ha);have:xs=[]:=ZiL (j:=j) (by simpa[num0] using hb);subst r xs;exact s5 q1 _ a2
theorem ZkR:FnScope ["p","n"] ["p","n"] (Zac Zcx):=⟨rfl,rfl,rfl,by decide +kernel,rfl,by decide +kernel,by decide +kernel⟩
theorem Zja {f fA fB:Addr}{fd dA dB:FuncData} (F:Fun K "check_places" "check_places" Zcx f fd) (T:Txt mg) (CA:Cal P w K mg base 4 "level_total" ["p","n"] ZfW fA dA) (CB:Cal P w K mg base 1 "check_total" ["total"] ZmA fB dB):FnOk P w K mg base CX0 5 f fd ["p","n"] Zee:=by
 refine F.ok ZkR (fun vs H Q E h=>?_) (fun cdv A outer s H vs Q E hr h=>?_)
 ·obtain⟨p,n,rfl,_⟩:=h;rfl
 ·obtain⟨p,n,rfl,h1,h2,h3,h4,k⟩:=h;have hr1:Room 1 _:=hr.mono (by decide);refine⟨_,Zao (ZaX (Zap CB hr1 rfl (Zaa (Zap CA hr rfl (Zaa (pv 0) (Zaa (pv 1) Zad))) Zad))),?_⟩;exact⟨_,rfl,_,rfl,p,n,rfl,h1,h2,h3,fun H1 s1=>⟨_,rfl,h4,k H1 s1⟩⟩
theorem scNextN:FnScope ["numbers","first"] ["numbers"] (Zac ZcM):=⟨rfl,rfl,rfl,by decide +kernel,rfl,by decide +kernel,by decide +kernel⟩
theorem Zlk {f:Addr}{fd:FuncData} (F:Fun K "next_numbers" "next_numbers" ZcM f fd) (T:Txt mg):FnOk P w K mg base CX0 1 f fd ["numbers"] Zcw:=by
 refine F.ok scNextN (fun vs H Q E h=>?_) (fun cdv A outer s H vs Q E hr h=>?_)
 ·obtain⟨a,rs,N,rfl,_⟩:=h;rfl
 ·obtain⟨a,rs,N,rfl,hA,hT,h1,h2,hne,hz,k⟩:=h;refine⟨_,Zan (Zaq (i:=1) scNextN.nd rfl (Ydb rfl) (Zba ZaR rfl T.tuple ZbJ (Zaa (Za0 (own:=["number"]) (js:=[]) (CompOk.by (sc:=Zac ZcM) (N:=["numbers","first"]) rfl rfl (by decide +kernel)) rfl (Zff (ZaK Zb2 (pv 0) Zae (fun _ _=>rfl))) ZaB
     (fun _ _ _ _ _=>Zaj (i:=0) (by show (["number"]:List Str).Nodup;decide +kernel) rfl (YaJ rfl) (.inr rfl)) (fun _ _ _ _ _=>ZaM) (fun _ _ _ _ _=>Zal ZaP (pv 0) Zae)) Zad)))
   (Zao (Zav (Zba ZaR rfl T.tuple ZbJ (Zaa (Zal Zbb
    (Za0 (own:=["reel"]) (js:=[1]) (CompOk.by (sc:=Zac ZcM) (N:=["numbers","first"]) rfl rfl (by decide +kernel)) rfl (Zff (Za7 ZiG (pv 0) (Zbk Zae) Zbn)) ZaB
     (fun _ _ _ _ _=>Zaj (i:=0) (by show (["reel","first"]:List Str).Nodup;decide +kernel) rfl (YaJ rfl) (.inr rfl)) (fun _ _ _ _ _=>ZaM) (fun _ _ _ _ _=>Zal (Zlb K) (pv 1) (pv 0)))
    (ZaI (Zaa (pv 1) Zad))) Zad)))),?_⟩
  obtain⟨x0,xr,rfl⟩:∃ x0 xr,N=x0::xr:=by
   cases N with
   | nil=>simp at h1
   | cons x y=>exact⟨x,y,rfl⟩
  obtain⟨r0,rr,rfl⟩:∃ r0 rr,rs=r0::rr:=by
   cases rs with
   | nil=>have:=hT.1;simp at this
   | cons x y=>exact⟨x,y,rfl⟩
  have hr0:H r0=some (.tup (x0.map V.int)):=hT.2 0 r0 x0 rfl rfl;have hrl:rr.length=xr.length:=by have:=hT.1;simpa using this
  have hxr:xr.length<=6:=by simpa using h2
  have hx0:x0.length<=4000:=hz x0 (by simp);have ef:fstN (x0::xr)=x0.map (·+1):=rfl;refine⟨_,rfl,a,_,0,.ref r0,rfl,rfl,SqT.of hA,Zbx (j:=0) rfl,r0,rfl,⟨_,SqT.of hr0⟩,?_⟩;refine ZcV (xs:=x0.map V.int) (fun acc i H2=>Same H H2/\H2 acc=some (.lst (((x0.take i).map (·+1)).map V.int))) (fun acc h0=>⟨Same.new h0,Zab⟩) (fun acc i H2 h0 _ p=>p.1.tup (SqT.of hr0)) ?_ ?_
  ·rintro acc i x H2 h0 hx ⟨s2,hacc⟩;obtain⟨z,hz',rfl⟩:=Zcc hx;have hi:=(Yad.mp hz').1
   refine⟨_,rfl,z,1,rfl,rfl,_,hacc,?_,by rw[Yac];exact hi,s2.put h0,?_⟩
   ·exact ZbC (by simp;omega)
   ·rw[Zab,Ybe,hz',YbW,Yay,Yay];rfl
  rintro acc H2 h0 ⟨s2,hacc⟩;rw[Yac,YaO] at hacc;refine⟨acc,_,rfl,.inl ⟨SqL.of hacc,fun fl hfl=>?_⟩⟩;have s3:=s2.trans (Same.new (o:=.tup ((x0.map (·+1)).map V.int)) hfl);have hfl3:(upd H2 fl (.tup ((x0.map (·+1)).map V.int))) fl=some (.tup ((x0.map (·+1)).map V.int)):=Zab;generalize (upd H2 fl (.tup ((x0.map (·+1)).map V.int)))=H3 at s3 hfl3 ⊢;have hfl0:H fl=none:=s2.free hfl;refine⟨_,rfl,1,rfl,a,_,rfl,SqT.of (s3 a _ hA),?_,fun p1 e1=>⟨p1,rfl,⟨_,SqT.of Zab⟩,?_⟩⟩
  ·rintro⟨z,_⟩;have:HT.sIx ((r0::rr).map V.ref).length 0 (some ((1:Nat):Int))=0:=z;rw[HT.sIx_nat] at this;simp at this
  have ecut:cutV ((r0::rr).map V.ref) (some 1) none=rr.map V.ref:=by
   unfold cutV;show (((r0::rr).map V.ref).drop (HT.sIx ((r0::rr).map V.ref).length 0 (some ((1:Nat):Int)))).take (HT.sIx ((r0::rr).map V.ref).length ((r0::rr).map V.ref).length none - HT.sIx ((r0::rr).map V.ref).length 0 (some ((1:Nat):Int)))=_;rw[HT.sIx_nat];rw[show min 1 ((r0::rr).map V.ref).length=1 by simp];show (rr.map V.ref).take (((r0::rr).map V.ref).length - 1)=_;rw[Ybn (by simp)]
  rw[ecut];have s4:=s3.trans (Same.new (o:=.tup (rr.map V.ref)) e1);have hfl4:=(Same.new (o:=.tup (rr.map V.ref)) e1) fl _ hfl3;have hp14:(upd H3 p1 (.tup (rr.map V.ref))) p1=some (.tup (rr.map V.ref)):=Zab;generalize (upd H3 p1 (.tup (rr.map V.ref)))=H4 at s4 hfl4 hp14 ⊢;have hr:∀ (j:Nat) r xs,rr[j]?=some r->xr[j]?=some xs->H r=some (.tup (xs.map V.int)):=fun j r xs a b=>hT.2 (j+1) r xs a b;have hxz:∀ xs∈xr,xs.length<=4000:=fun xs hx=>hz xs (by simp[hx]);have hx0ne:x0≠[]:=hne;refine ZcV (xs:=rr.map V.ref) (fun acc i H5=>Same H4 H5/\∃ qs:List Addr,H5 acc=some (.lst (qs.map V.ref))/\TTs H5 qs ((xr.take i).map (x0.map (·+1)++·))) (fun acc h0=>⟨Same.new h0,[],Zab,rfl,fun j r xs a b=>by simp at a⟩) (fun acc i H5 h0 _ p=>p.1.tup (SqT.of hp14)) ?_ ?_
  ·rintro acc i x H5 h0 hx ⟨s5,qs,hacc,hq⟩;obtain⟨r,hr',rfl⟩:=Za6 hx;have hi:=(Yad.mp hr').1
   have hix:i<xr.length:=by omega
   have hrx:H5 r=some (.tup (xr[i].map V.int)):=(s4.trans s5) r _ (hr i r _ hr' (Yaa hix));have hfl5:=s5 fl _ hfl4;have hxi:xr[i].length<=4000:=hxz _ (Ybw hix);have hqs:qs.length<=6:=by have:=hq.1;simp at this;omega
   have e2:(xr.take (i+1)).map (x0.map (·+1)++·)=(xr.take i).map (x0.map (·+1)++·)++[x0.map (·+1)++xr[i]]:=by
    rw[YcG hix,Yay];rfl
   rw[e2];refine⟨_,rfl,_,rfl,fl,r,_,_,rfl,rfl,SqT.of hfl5,SqT.of hrx,by simpa using hx0ne,?_,fun hemp=>?_,fun hemp pn en=>?_⟩
   ·exact Ya2 (ZbC (by simp;omega))
   ·have hemp':xr[i]=[]:=by simpa using hemp
    refine⟨_,hacc,ZbC (by simp;omega),by rw[Yac];exact hi,s5.put h0,qs++[fl],by rw[Zab];simp,?_⟩;refine (hq.lst hacc).snoc ?_;rw[hemp',YbI,Zaf (by intro z;subst z;rw[hacc] at hfl5;cases hfl5)];exact hfl5
   ·have hacc6:=(Same.new (o:=.tup ((x0.map (·+1)).map V.int++xr[i].map V.int)) en) acc _ hacc;refine⟨_,hacc6,ZbC (by simp;omega),by rw[Yac];exact hi,(s5.trans (Same.new en)).put h0,qs++[pn],by rw[Zab];simp,?_⟩;refine ((hq.same (Same.new en)).lst hacc6).snoc ?_;rw[Zaf (by intro z;subst z;rw[hacc] at en;cases en),Zab];simp
  ·rintro acc H5 h0 ⟨s5,qs,hacc,hq⟩;rw[Yac,hrl,YaO] at hq;have hfl5:=s5 fl _ hfl4;have hqs:qs.length<=6:=by have:=hq.1;simp at this;omega
   refine⟨_,rfl,(by show 1<=sizeLine;decide),fun p2 e2=>?_⟩;refine⟨acc,p2,_,_,rfl,rfl,(Same.new e2) acc _ hacc,Zab,?_,fun p3 e3=>⟨p3,_,rfl,.inl ⟨SqL.of Zab,fun l hl=>?_⟩⟩⟩
   ·exact Ya2 (ZbC (by simp;omega))
   have sz:=((Same.new (o:=.lst [V.ref fl]) e2).trans (Same.new (o:=.lst (qs.map V.ref++[V.ref fl])) e3)).trans (Same.new (o:=.tup (qs.map V.ref++[V.ref fl])) hl);have s6:=(s4.trans s5).trans sz;refine k l (qs++[fl]) _ ?_ (by rw[Zab];simp) ?_ s6
   ·exact ((s4.trans s5).trans ((Same.new (o:=.lst [V.ref fl]) e2).trans (Same.new (o:=.lst (qs.map V.ref++[V.ref fl])) e3))).free hl
   ·exact (hq.same sz).snoc (sz fl _ hfl5)
theorem scAfter:FnScope ["p","n","following","numbers","level"] ["p","n","following"] (Zac ZdW):=⟨rfl,rfl,rfl,by decide +kernel,rfl,by decide +kernel,by decide +kernel⟩
theorem Zls {f fA fB:Addr}{fd dA dB:FuncData} (F:Fun K "numbers_after" "numbers_after" ZdW f fd) (T:Txt mg) (CB:Cal P w K mg base 1 "first_numbers" ["p"] ZcU fB dB) (CA:Cal P w K mg base 1 "next_numbers" ["numbers"] Zcw fA dA):FnOk P w K mg base CX0 2 f fd ["p","n","following"] (Zf4 fA):=by
 refine F.ok scAfter (fun vs H Q E h=>?_) (fun cdv A outer s H vs Q E hr h=>?_)
 ·obtain⟨p,n,rfl,_⟩:=h;rfl
 ·obtain⟨p,n,rfl,h1,h2,h3,h4,k⟩:=h;refine⟨_,Zan (Zaq (i:=3) scAfter.nd rfl (YaJ rfl) (Zap CB hr rfl (Zaa (pv 0) Zad)))
   (Zan (Zbd Ybf rfl (ZaH rfl T.range (Zaa (pv 1) Zad)) (Zaj (i:=4) scAfter.nd rfl (YaJ rfl)) (Zao (Zaq (i:=3) scAfter.nd rfl (YaJ rfl) (Zf9 2 CA hr (Zaa (pv 3) Zad)))))
   (Zao (Zav (pv 3)))),?_⟩
  refine⟨_,rfl,p,rfl,h1,h2,fun l qs H1 hl0 hl1 hq1 s1=>?_⟩;refine⟨_,rfl,n,rfl,by omega,by omega,Za2 (fun i σ H2=>∃ (l:Addr) (qs:List Addr) (o:Option V),σ=[some (.int p),some (.int n),some (.ref fA),some (.ref l),o]/\H l=none/\H2 l=some (.tup (qs.map V.ref))/\TTs H2 qs (num p i)/\Same H H2)
   ⟨l,qs,none,rfl,hl0,hl1,hq1,s1⟩ ?_ ?_⟩
  ·rintro i σ H2 hi ⟨l,qs,o,rfl,hl0,hl2,hq,s2⟩;have hlen:=ZbG (p:=p) (by omega) i;have htot:=ZbN (p:=p) h1 (show i<=n by omega);refine⟨rfl,_,rfl,l,qs,num p i,rfl,hl2,hq,by omega,by omega,?_,fun xs hx=>?_,fun l3 qs3 H3 h30 h3 hq3 s3=>?_⟩
   ·obtain⟨a,r,e,ha,_⟩:=Zg1 h1 i;rw[e];exact ha
   ·have:=Zg0 hx;omega
   ·exact⟨l3,qs3,_,rfl,s2.free h30,h3,hq3,s2.trans s3⟩
  ·rintro σ H2 ⟨l,qs,o,rfl,hl0,hl2,hq,s2⟩;refine⟨_,rfl,k l qs H2 hl0 hl2 ?_ s2⟩;simpa using hq
theorem ZmI:FnScope ["p","n"] ["p","n"] (Zac ZdP):=⟨rfl,rfl,rfl,by decide +kernel,rfl,by decide +kernel,by decide +kernel⟩
theorem Zli {f fA fB:Addr}{fd dA dB:FuncData} (F:Fun K "numbers_of" "numbers_of" ZdP f fd) (T:Txt mg) (CA:Cal P w K mg base 1 "next_numbers" ["numbers"] Zcw fA dA) (CB:Cal P w K mg base 2 "numbers_after" ["p","n","following"] (Zf4 fA) fB dB):FnOk P w K mg base CX0 3 f fd ["p","n"] Zf0:=by
 refine F.ok ZmI (fun vs H Q E h=>?_) (fun cdv A outer s H vs Q E hr h=>?_)
 ·obtain⟨p,n,rfl,_⟩:=h;rfl
 ·obtain⟨p,n,rfl,h1,h2,h3,h4,k⟩:=h;refine⟨_,Zao (Zav (Zap CB hr rfl (Zaa (pv 0) (Zaa (pv 1) (Zaa (Zi2 CA rfl) Zad))))),?_⟩;exact⟨_,rfl,_,rfl,p,n,rfl,h1,h2,h3,h4,k⟩
theorem scLN:FnScope ["p","n"] ["p","n"] (Zac sLN):=⟨rfl,rfl,rfl,by decide +kernel,rfl,by decide +kernel,by decide +kernel⟩
theorem ZoY {f fA fB:Addr}{fd dA dB:FuncData} (F:Fun K "level_numbers" "level_numbers" sLN f fd) (T:Txt mg) (CA:Cal P w K mg base 5 "check_places" ["p","n"] Zee fA dA) (CB:Cal P w K mg base 3 "numbers_of" ["p","n"] Zf0 fB dB):FnOk P w K mg base CX0 6 f fd ["p","n"] Zf0:=by
 refine F.ok scLN (fun vs H Q E h=>?_) (fun cdv A outer s H vs Q E hr h=>?_)
 ·obtain⟨p,n,rfl,_⟩:=h;rfl
 ·obtain⟨p,n,rfl,h1,h2,h3,h4,k⟩:=h;have hr2:Room 3 _:=hr.mono (by decide);refine⟨_,Zan (ZaX (Zap CA hr rfl (Zaa (pv 0) (Zaa (pv 1) Zad)))) (Zao (Zav (Zap CB hr2 rfl (Zaa (pv 0) (Zaa (pv 1) Zad))))),?_⟩;refine⟨_,rfl,_,rfl,p,n,rfl,h1,h2,h3,h4,fun H1 s1=>?_⟩;exact⟨_,rfl,_,rfl,p,n,rfl,h1,h2,h3,h4,fun l qs H2 hl0 hl hq s2=>k l qs H2 (s1.free hl0) hl hq (s1.trans s2)⟩
theorem scMixed:FnScope ["cell","k","prime","part"] ["cell","k"] (Zac ZdQ):=⟨rfl,rfl,rfl,by decide +kernel,rfl,by decide +kernel,by decide +kernel⟩
theorem ix7 {d:Int} (h0:0<=d) (h1:d<7):∃ v:Int,atI [V.int 2147483647,.int 2147483629,.int 2147483587,.int 2147483579,.int 2147483563,.int 2147483549,.int 2147483543] d=some (.int v)/\0<v/\v<=2147483647:=by
 have:d=0∨d=1∨d=2∨d=3∨d=4∨d=5∨d=6:=by omega
 rcases this with rfl | rfl | rfl | rfl | rfl | rfl | rfl
 all_goals exact⟨_,rfl,by decide,by decide⟩
theorem Zll {f:Addr}{fd:FuncData} (F:Fun K "_law_mixed" "_law_mixed" ZdQ f fd) (T:Txt mg):FnOk P w K mg base CX0 1 f fd ["cell","k"] Zf1:=by
 refine F.ok scMixed (fun vs H Q E h=>?_) (fun cdv A outer s H vs Q E hr h=>?_)
 ·obtain⟨c,k,rfl,_⟩:=h;rfl
 ·obtain⟨c,kk,rfl,hk,k⟩:=h;refine⟨_,Zan (Zaq (i:=2) scMixed.nd rfl (YaJ rfl) (ZaK Zaz (ZaI (Zaa Zae (Zaa Zae (Zaa Zae (Zaa Zae (Zaa Zae (Zaa Zae (Zaa Zae Zad)))))))) (Zal ZaN (pv 1) Zae) (fun _ _=>rfl)))
   (Zan (Zaq (i:=3) scMixed.nd rfl (YaJ rfl) (Zal ZaN (Zal ZaP (Zal ZaP (Zal Zb1 (Zal ZaN (pv 0) Zae) Zae) (Zal Zb1 Zae (pv 1))) Zae) (pv 2)))
   (Zan (Zaq (i:=3) scMixed.nd rfl (YaJ rfl) (Zal ZaN (Zal Zb0 (pv 3) Zae) Zae))
   (Zao (Zav (Zal Zm3 (Zal ZaN (Zal Zb1 (Zal ZaP (pv 3) (Zal Zb1 Zae (pv 1))) Zae) Zae) Zae))))),?_⟩
  refine⟨(by show 7<=sizeLine;decide),fun q hq=>⟨_,rfl,_,_,rfl,rfl,(by show (0:Int)<7;decide),?_⟩⟩;obtain⟨v,ev,v0,v1⟩:=ix7 (Ya4 (kk:Int) (show (7:Int)≠0 by decide)) (Yba (kk:Int) (show (0:Int)<7 by decide));refine⟨q,_,_,_,rfl,rfl,SqL.of Zab,ev,?_⟩;refine⟨_,rfl,_,_,rfl,rfl,(by show (0:Int)<1000000000000000009;decide),_,_,rfl,rfl,.inr ⟨by decide,by decide⟩,_,rfl,_,_,rfl,rfl,.inl ⟨by decide,by decide⟩,_,_,rfl,rfl,_,_,rfl,rfl,_,rfl,_,v,rfl,rfl,v0,?_⟩;have m0:=Ya4 (c % 1000000000000000009*40692+6361*(kk:Int)+77) (show v≠0 by omega);have m1:=Yba (c % 1000000000000000009*40692+6361*(kk:Int)+77) v0;refine⟨_,rfl,_,5,rfl,rfl,⟨by decide,by decide,?_⟩,_,_,rfl,rfl,(by show (0:Int)<2305843009213693951;decide),?_⟩
  ·generalize (c % 1000000000000000009*40692+6361*(kk:Int)+77) % v=y at m0 m1;omega
  refine⟨_,rfl,_,rfl,_,_,rfl,rfl,.inl ⟨by decide,by decide⟩,_,_,rfl,rfl,_,_,rfl,rfl,.inr ⟨by decide,by decide⟩,_,_,rfl,rfl,(by show (0:Int)<2305843009213693921;decide),_,_,rfl,rfl,⟨by decide,by decide⟩,?_⟩;refine k _ _ ?_ (Same.new hq);exact Int.ediv_nonneg (Ya4 _ (by decide)) (by decide)
end
end Fk41
namespace Fk41
open PySem L2 Lv
section
variable {P:Program}{w:World}{K:Yae}{mg:Str->Option Value}{base:Heap}
theorem scLeastBy:FnScope ["numbers","lengths","longest_first","placing","length","row","number","reel","place"] ["numbers","lengths"] (Zac ZbP):=⟨rfl,rfl,rfl,by decide +kernel,rfl,by decide +kernel,by decide +kernel⟩
theorem SqB.sameL {b:Bool}{H H':Hp}{a:Addr}{xs:List V} (e:Same H H') (h:SqB b K H a xs):SqB b K H' a xs:=by
 cases b
 ·exact e.tup h
 ·exact e.seq h
theorem SqB.orL {b:Bool}{H:Hp}{a:Addr}{xs:List V} (h:SqB b K H a xs):SqL K H a xs∨SqT K H a xs:=by
 cases b
 ·exact .inr h
 ·exact .inl h
theorem ZmM (n:Nat):(Yai n [V.non]).flatten=Yai n V.non:=by
 induction n with
 | zero=>rfl
 | succ n ih=>rw[Ybo,Ya9,ih,Ybo];rfl
theorem ZhR {f f1 f2:Addr}{fd d1 d2:FuncData} (F:Fun K "least_by" "least_by" ZbP f fd) (T:Txt mg) (Te:mg "enumerate"=none) (CL:Cal P w K mg base 1 "least_places" ["numbers","many"] Zek f1 d1) (CR:Cal P w K mg base 1 "reading_by" ["numbers","lengths","placing"] (Zck K) f2 d2):FnOk P w K mg base CX0 2 f fd ["numbers","lengths"] (Zc3 K):=by
 refine F.ok scLeastBy (fun vs H Q E h=>?_) (fun cdv A outer s H vs Q E hr h=>?_)
 ·obtain⟨a,ll,b,rs,N,ls,rfl,_⟩:=h;rfl
 ·obtain⟨a,ll,b,rs,N,ls,rfl,hA,hT,hN,hF,hL,hle,hb1,hb2,k⟩:=h;refine⟨_,Zan (Zaq (i:=2) scLeastBy.nd rfl (YaJ rfl) (Zam Zdq rfl T.sorted ZeR (Zaa (Za0 (own:=["row","length"]) (js:=[]) (CompOk.bare (by decide +kernel)) rfl (Zcp rfl Te (Zaa (pv 1) Zad)) (Zfv (i:=0) (k:=1) (K:=K))
    (fun _ _ _ _ _=>ZcJ K rfl (Zar (Zaj (i:=0) (by show (["row","length"]:List Str).Nodup;decide +kernel) rfl (YaJ rfl) (.inr rfl)) (Zar (Zaj (i:=1) (by show (["row","length"]:List Str).Nodup;decide +kernel) rfl (YaJ rfl) (.inr rfl)) ZaT))) (fun _ _ _ _ _=>ZaM) (fun _ _ _ _ _=>ZbY (Zaa (ZmX Zii (pv 1)) (Zaa (pv 0) Zad)))) Zad)))
   (Zan (Zaq (i:=3) scLeastBy.nd rfl (YaJ rfl) (Zal Zfg (ZaI (Zaa Zi0 Zad)) (Zam Zas rfl T.len Ybj (Zaa (pv 1) Zad))))
   (Zan (Zbd Ybf rfl (ZiT rfl T.zip (Zaa (pv 2) (Zaa (Zap CL hr rfl (Zaa (pv 0) (Zaa (Zam Zas rfl T.len Ybj (Zaa (pv 1) Zad)) Zad))) Zad)))
     (ZbF rfl (Zar (ZbF rfl (Zar (Zaj (i:=4) scLeastBy.nd rfl (YaJ rfl)) (Zar (Zaj (i:=5) scLeastBy.nd rfl (YaJ rfl)) ZaT))) (Zar (ZbF rfl (Zar (Zaj (i:=6) scLeastBy.nd rfl (YaJ rfl)) (Zar (Zaj (i:=7) scLeastBy.nd rfl (YaJ rfl)) (Zar (Zaj (i:=8) scLeastBy.nd rfl (YaJ rfl)) ZaT)))) ZaT)))
    (Zao (ZdY (ZbY (Zaa (pv 7) (Zaa (pv 8) Zad))) (ZiX (pv 3) (pv 5) Zeu))))
   (Zao (Zav (ZbY (Zaa (Zap CR hr rfl (Zaa (pv 0) (Zaa (pv 1) (Zaa (pv 3) Zad)))) (Zaa (pv 3) Zad))))))),?_⟩
  have hz:100000<sizeLine:=by decide
  have hls:ls.length<=100000:=by omega
  refine⟨_,rfl,ll,b,rfl,⟨_,hL⟩,?_⟩;refine Zh8 (xs:=ls.map V.int) (fun acc i H2=>Same H H2/\∃ ps,H2 acc=some (.lst (ps.map V.ref))/\(∀ p∈ps,p≠acc)/\TuM H2 ps (prL (ls.take i))) (fun acc h0=>⟨Same.new h0,[],Zab,(fun p hp=>nomatch hp),TuM.nil⟩) (fun acc i H2 h0 _ p=>SqB.sameL p.1 hL) ?_ ?_
  ·rintro acc i x q H2 h0 hx ⟨s2,ps,hacc,hne,hpr⟩ hq;obtain⟨l,hl,rfl⟩:=Zcc hx;have hi:=(Yad.mp hl).1
   have s3:Same H2 (upd H2 q (.tup [.int i,.int l])):=Same.new hq;have hq3:upd H2 q (.tup [.int i,.int l]) q=some (.tup [.int i,.int l]):=Zab;generalize upd H2 q (.tup [.int i,.int l])=H3 at s3 hq3 ⊢;have hpl:ps.length=i:=by rw[hpr.len,Zcb,Yaz];omega
   refine⟨q,_,rfl,SqT.of hq3,rfl,_,_,rfl,_,_,rfl,rfl,?_⟩;refine⟨_,rfl,l,rfl,_,rfl,(by show 2<=sizeLine;decide),fun t ht=>?_⟩;have hacc3:=s3 _ _ hacc;have hta:t≠acc:=Ybq (Zag hacc3 ht);have s45:Same H3 (upd H3 t (.tup [.int (-l),.int i])):=Same.new ht;have ht5:upd H3 t (.tup [.int (-l),.int i]) t=some (.tup (([-l,(i:Int)]:List Int).map V.int)):=Zab;generalize upd H3 t (.tup [.int (-l),.int i])=H5 at s45 ht5 ⊢;refine⟨_,s45 _ _ hacc3,by rw[Yac];omega,by rw[Yac];exact hi,(s2.trans (s3.trans s45)).put h0,ps++[t],by rw[Zab,Yay];rfl,fun p hp=>?_,?_⟩
   ·rcases Yaj.mp hp with hp | hp
    ·exact hne p hp
    ·rw[YaF.mp hp];exact hta
   ·have:=(hpr.same (s3.trans s45)).snoc ht5 (by simp);rw[<- ZkZ hl] at this;refine this.keep fun p hp=>Zaf ?_;rcases Yaj.mp hp with hp | hp
    ·exact hne p hp
    ·rw[YaF.mp hp];exact hta
  rintro acc H2 h0 ⟨s2,ps,hacc,hne,hpr⟩;rw[Yac,YaO] at hpr;have hks:∀ p∈ps,kf H2 p≠[]/\H2 p=some (.tup ((kf H2 p).map V.int)):=by
   intro p hp;obtain⟨k',hk,e⟩:=hpr.1 p hp;rw[Zfo e];exact⟨hk,e⟩
  refine⟨acc,ps,kf H2,rfl,SqL.of hacc,hks,fun fl fs nfl pm up=>?_⟩;have s23:Same H2 (upd H2 fl (.lst (fs.map V.ref))):=Same.new nfl;have hfl:upd H2 fl (.lst (fs.map V.ref)) fl=some (.lst (fs.map V.ref)):=Zab;have hlf2:TuM H2 fs (fs.map (kf H2)):=⟨fun p hp=>hpr.1 p (pm.mem_iff.mp hp),rfl⟩
  have lfp:(fs.map (kf H2)).Perm (prL ls):=by rw[<- hpr.2];exact pm.map _
  have lfs:(fs.map (kf H2)).Pairwise (fun p q=>lxB q p=false):=Ya1.mpr up;have hlf:=hlf2.same s23;generalize fs.map (kf H2)=lf at hlf lfp lfs;generalize upd H2 fl (.lst (fs.map V.ref))=H3 at s23 hfl hlf ⊢;have s03:=s2.trans s23;refine⟨(by show 1<=sizeLine;decide),fun n1 nn1=>?_⟩;have x1:upd H3 n1 (.lst [.non]) n1=some (.lst [.non]):=Zab;have u1:Same H3 (upd H3 n1 (.lst [.non])):=Same.new nn1;generalize upd H3 n1 (.lst [.non])=H4 at x1 u1 ⊢;have s04:=s03.trans u1;refine⟨_,rfl,ll,_,rfl,SqB.orL (SqB.sameL s04 hL),n1,_,_,rfl,rfl,x1,by omega,by rw[Yac];omega,by rw[Yac];show 1*_<=_;omega,fun pl npl=>?_⟩;rw[ZmM,Yac,YaQ];have x2:upd H4 pl (.lst (Yai ls.length V.non)) pl=some (.lst (Yai ls.length V.non)):=Zab;have u2:Same H4 (upd H4 pl (.lst (Yai ls.length V.non))):=Same.new npl;generalize upd H4 pl (.lst (Yai ls.length V.non))=H5 at x2 u2 ⊢;have plH:H pl=none:=s04.free npl;have s05:=s04.trans u2;have s35:=u1.trans u2;refine⟨_,rfl,_,rfl,_,rfl,ll,_,rfl,SqB.orL (SqB.sameL s05 hL),?_⟩;rw[Yac];refine⟨a,rs,N,ls.length,rfl,s05 _ _ hA,hT.same s05,hN,hF,fun gl gs lp H6 ngl hgl hlp lpp lps s6=>?_⟩;have s06:=s05.trans s6;have s36:=s35.trans s6;have hpl6:=s6 _ _ x2;have gll:gs.length=N.flatten.length:=by rw[hlp.len,lpp.length_eq,ZbM]
  have fsl:fs.length=ls.length:=by rw[hlf.len,lfp.length_eq,Zcb]
  have hnd:=ZhI lfp;have hflpl:fl≠pl:=Zag (u1 _ _ hfl) npl;have hglpl:gl≠pl:=Ybq (Zag x2 ngl);refine⟨true,true,fl,gl,rfl,⟨_,SqL.of (s36 _ _ hfl)⟩,⟨_,SqL.of hgl⟩,?_⟩;refine Zns (b1:=true) (b2:=true) (xs:=fs.map V.ref) (ys:=(gs.take ls.length).map V.ref) (by rw[Yac,Yac,Yaz];omega)
   (fun t σ H7=>∃ (o4 o5 o6 o7 o8:Option V) (vs:List V),σ=[some (.ref a),some (.ref ll),some (.ref fl),some (.ref pl),o4,o5,o6,o7,o8]/\H7 pl=some (.lst vs)/\vs.length=ls.length/\(∀ b o,H6 b=some o->b≠pl->H7 b=some o) /\
    (∀ (s:Nat) f p,s<t->lf[s]?=some f->lp[s]?=some p->∃ q,vs[(f.getD 1 0).toNat]?=some (.ref q)/\H7 q=some (.tup [.int (p.getD 1 0),.int (p.getD 2 0)])/\q≠pl))
   ⟨_,_,_,_,_,_,rfl,hpl6,by rw[Ybk],fun _ _ e _=>e,fun s f p h=>absurd h (YbC _)⟩ ?_ ?_ ?_
  ·rintro i σ H7 _ ⟨_,_,_,_,_,_,_,_,_,fr,_⟩;exact⟨SqL.of (fr _ _ (s36 _ _ hfl) hflpl),SqL.of (fr _ _ hgl hglpl)⟩
  ·rintro t x y u σ H7 hx hy ⟨o4,o5,o6,o7,o8,vs,rfl,hv,hvl,fr,hdone⟩ nu;obtain⟨xa,hxa,rfl⟩:=ZcL hx;obtain⟨ya,hya,rfl⟩:=ZcL hy;have htl:=(Yad.mp hxa).1
   rw[List.getElem?_take,if_pos (by omega)] at hya;obtain⟨f,hf,hxf⟩:=hlf.at hxa;obtain⟨p,hp,hyp⟩:=hlp.at hya;have hxpl:xa≠pl:=Zag (u1 _ _ hxf) npl;have hypl:ya≠pl:=fun z=>by rw[z,hpl6] at hyp;cases hyp
   obtain⟨j,l,ef,hj⟩:=Zev (lfp.mem_iff.mp (Yau hf));obtain⟨r,jj,z,xs,ep,hr',hz'⟩:=Zbr (lpp.mem_iff.mp (Yau hp));have hjl:=(Yad.mp hj).1
   have hx7:=fr _ _ (s36 _ _ hxf) hxpl;have hy7:=fr _ _ hyp hypl;have su:Same H7 (upd H7 u (.tup [.ref xa,.ref ya])):=Same.new nu;have hu3:upd H7 u (.tup [.ref xa,.ref ya]) u=some (.tup [.ref xa,.ref ya]):=Zab;generalize upd H7 u (.tup [.ref xa,.ref ya])=H8 at su hu3 ⊢;have hx8:H8 xa=some (.tup [.int (-l),.int (j:Int)]):=by have:=su _ _ hx7;rw[ef] at this;exact this
   have hy8:H8 ya=some (.tup [.int z,.int ((0+r:Nat):Int),.int (jj:Int)]):=by have:=su _ _ hy7;rw[ep] at this;exact this
   refine⟨u,_,rfl,SqT.of hu3,rfl,_,_,rfl,xa,_,rfl,SqT.of hx8,rfl,_,_,rfl,_,_,rfl,rfl,_,_,rfl,ya,_,rfl,SqT.of hy8,rfl,_,_,rfl,_,_,rfl,_,_,rfl,rfl,rfl,?_⟩;refine⟨_,rfl,_,rfl,(by show 2<=sizeLine;decide),fun q nq=>?_⟩;have hv8:=su _ _ hv;have hqpl:q≠pl:=Ybq (Zag hv8 nq);have sq:Same H8 (upd H8 q (.tup [.int ((0+r:Nat):Int),.int (jj:Int)])):=Same.new nq;have hq9:upd H8 q (.tup [.int ((0+r:Nat):Int),.int (jj:Int)]) q=some (.tup [.int ((0+r:Nat):Int),.int (jj:Int)]):=Zab;generalize upd H8 q (.tup [.int ((0+r:Nat):Int),.int (jj:Int)])=H9 at sq hq9 ⊢;refine⟨_,rfl,_,rfl,pl,vs,(j:Int),j,rfl,rfl,sq _ _ hv8,?_,?_⟩
   ·have:=Zg8 (n:=vs.length) (x:=(j:Int)) (by omega) (by omega)
    rwa [YaQ] at this
   refine⟨_,_,_,_,_,vs.set j (.ref q),rfl,Zab,by rw[Ydv];exact hvl,fun b o e hb=>?_,fun s f' p' hs hf' hp'=>?_⟩
   ·rw[Zaf hb];exact sq _ _ (su _ _ (fr b o e hb))
   ·by_cases est:s=t
    ·subst est;rw[hf] at hf';rw[hp] at hp';cases hf';cases hp';refine⟨q,?_,?_,hqpl⟩
     ·rw[ef];show (vs.set j (.ref q))[(j:Int).toNat]?=_;rw[YaQ];exact Ydr (by omega)
     ·rw[Zaf hqpl,ep];exact hq9
    ·obtain⟨q',g1,g2,g3⟩:=hdone s f' p' (by omega) hf' hp';obtain⟨j',l',ef',hj'⟩:=Zev (lfp.mem_iff.mp (Yau hf'));have hjj:j≠j':=fun zz=>by
      have a1:(lf.map fun f=>f.getD 1 0)[s]?=some (j':Int):=by rw[Yam,hf',ef'];rfl
      have a2:(lf.map fun f=>f.getD 1 0)[t]?=some (j:Int):=by rw[Yam,hf,ef];rfl
      rw[<- zz] at a1;have b1:=Yad.mp a1;have b2:=Yad.mp a2;exact est ((YfG hnd).mp (b1.2.trans b2.2.symm))
     refine⟨q',?_,?_,g3⟩
     ·rw[ef'] at g1 ⊢;have g1:vs[(j':Int).toNat]?=some (.ref q'):=g1;show (vs.set j (.ref q))[(j':Int).toNat]?=_;rw[YaQ] at g1 ⊢;rw[Ya5 hjj];exact g1
     ·rw[Zaf g3];exact sq _ _ (su _ _ g2)
  ·rintro σ H7 ⟨o4,o5,o6,o7,o8,vs,rfl,hv,hvl,fr,hdone⟩;rw[Yac] at hdone;have s07:Same H H7:=fun b o e=>fr b o (s06 _ _ e) (Zag e plH);have lfl:lf.length=ls.length:=by rw[lfp.length_eq,Zcb]
   have lpl:lp.length=N.flatten.length:=by rw[lpp.length_eq,ZbM]
   obtain⟨qs,ks,hvq,hM,hin⟩:=Zkx (H:=H7) (N:=N) (vs:=vs) fun j hj=>by
    obtain⟨l,hl⟩:∃ l,ls[j]?=some l:=⟨_,Yaa (by omega)⟩
    obtain⟨s,hs⟩:=Yb0.mp (lfp.mem_iff.mpr (Yau (Zl4 hl)));have hsl:=(Yad.mp hs).1
    obtain⟨p,hp⟩:∃ p,lp[s]?=some p:=⟨_,Yaa (by omega)⟩
    obtain⟨q,g1,g2,g3⟩:=hdone s _ p (by omega) hs hp;obtain⟨r,jj,z,xs,ep,hr',hz'⟩:=Zbr (lpp.mem_iff.mp (Yau hp));refine⟨q,[p.getD 1 0,p.getD 2 0],?_,g2,r,jj,xs,by rw[ep,YbF];rfl,hr',(Yad.mp hz').1⟩;have g1:vs[(j:Int).toNat]?=some (.ref q):=g1
    rwa [YaQ] at g1
   have ksl:ks.length=ls.length:=by rw[<- hM.len,<- hvl,hvq,Yac]
   rw[hvq] at hv;refine⟨_,rfl,_,rfl,_,rfl,a,ll,pl,b,rs,qs,N,ls,ks,rfl,s07 _ _ hA,hT.same s07,SqB.sameL s07 hL,hv,hM,hin,ksl.symm,hls,hb1,hb2,fun H8 s8=>?_⟩;refine⟨_,rfl,(by show 2<=sizeLine;decide),fun tt ntt=>?_⟩;have s9:Same H8 (upd H8 tt (.tup [.int (ZaU N ls ks).sum,.ref pl])):=Same.new ntt;have s79:=s8.trans s9;refine k tt pl qs ks lf lp _ ((s07.trans s8).free ntt) Zab plH (s79 _ _ hv) (hM.same s79) hin ⟨ksl,lfp,lfs,lpp,lps,fun t f p hf hp=>?_⟩ (s07.trans s79);have htl:=(Yad.mp hf).1
   obtain⟨q,g1,g2,g3⟩:=hdone t f p (by omega) hf hp;rw[hvq,Yam] at g1
   cases eq:qs[(f.getD 1 0).toNat]? with
   | none=>rw[eq] at g1;cases g1
   | some q2=>
    rw[eq] at g1;cases g1;obtain⟨kk,h1,h2⟩:=hM.at eq;have e1:=Zfo h2;have e2:=Zfo (k:=[p.getD 1 0,p.getD 2 0]) g2;rw[h1,<- e1,e2]
end
end Fk41
namespace Fk41
open PySem L2 Lv
theorem len1 {P:List Value->Prop} (us:List Value) (hl:us.length=1) (h:∀ a0:Value,P [a0]):P us:=by
 match us,hl with
 | [a0],_=>exact h a0
theorem len2 {P:List Value->Prop} (us:List Value) (hl:us.length=2) (h:∀ a0 a1:Value,P [a0,a1]):P us:=by
 match us,hl with
 | [a0,a1],_=>exact h a0 a1
theorem len3 {P:List Value->Prop} (us:List Value) (hl:us.length=3) (h:∀ a0 a1 a2:Value,P [a0,a1,a2]):P us:=by
 match us,hl with
 | [a0,a1,a2],_=>exact h a0 a1 a2
theorem len4 {P:List Value->Prop} (us:List Value) (hl:us.length=4) (h:∀ a0 a1 a2 a3:Value,P [a0,a1,a2,a3]):P us:=by
 match us,hl with
 | [a0,a1,a2,a3],_=>exact h a0 a1 a2 a3
theorem all_mk {l:YdV}{w:World}{K:Yae}{h:Heap}{mg:Str->Option Value}{fa f0 f1 f2 f3 f4 f5 f6 f7 f8 f9 f10 f11 f12 f13 f14 f15 f16 f17 f18 f19 f20 f21 f22 f23 f24 f25 f26 f27 f28 f29 f30 f31 f32 f33 f34 f35 f36 f37 f38 f39 f40 f41 f42 f43 f44:Addr}{tk0 tk1 tk2 tk3:Tok} (X:K.In h) (G:h.Ns mainGlobals mg) (hfa:mg "law"=some (.ref fa))
  {od0 an0 od1 an1 od2 an2 od3 an3 od4 an4 od5 an5 od6 an6 od7 an7 od8 an8 od9 an9 od10 an10 od11 an11 od12 an12 od13 an13 od14 an14 od15 an15 od16 an16 od17 an17 od18 an18 od19 an19 od20 an20 od21 an21 od22 an22 od23 an23 od24 an24 od25 an25 od26 an26 od27 an27 od28 an28 od29 an29 od30 an30 od31 an31 od32 an32 od33 an33 od34 an34 od35 an35 od36 an36 od37 an37 od38 an38 od39 an39 od40 an40 od41 an41 od42 an42 od43 an43 od44 an44:Option Addr}{sl0 sl1 sl2 sl3 sl4 sl5 sl6 sl7 sl8 sl9 sl10 sl11 sl12 sl13 sl14 sl15 sl16 sl17 sl18 sl19 sl20 sl21 sl22 sl23 sl24 sl25 sl26 sl27 sl28 sl29 sl30 sl31 sl32 sl33 sl34 sl35 sl36 sl37 sl38 sl39 sl40 sl41 sl42 sl43 sl44:Array (Option Value)}{oc0 kV0 dc0 pm0 cd0 ct0 oc1 kV1 dc1 pm1 cd1 ct1 oc2 kV2 dc2 pm2 cd2 ct2 oc3 kV3 dc3 pm3 cd3 ct3 oc4 kV4 dc4 pm4 cd4 ct4 oc5 kV5 dc5 pm5 cd5 ct5 oc6 kV6 dc6 pm6 cd6 ct6 oc7 kV7 dc7 pm7 cd7 ct7 oc8 kV8 dc8 pm8 cd8 ct8 oc9 kV9 dc9 pm9 cd9 ct9 oc10 kV10 dc10 pm10 cd10 ct10 oc11 kV11 dc11 pm11 cd11 ct11 oc12 kV12 dc12 pm12 cd12 ct12 oc13 kV13 dc13 pm13 cd13 ct13 oc14 kV14 dc14 pm14 cd14 ct14 oc15 kV15 dc15 pm15 cd15 ct15 oc16 kV16 dc16 pm16 cd16 ct16 oc17 kV17 dc17 pm17 cd17 ct17 oc18 kV18 dc18 pm18 cd18 ct18 oc19 kV19 dc19 pm19 cd19 ct19 oc20 kV20 dc20 pm20 cd20 ct20 oc21 kV21 dc21 pm21 cd21 ct21 oc22 kV22 dc22 pm22 cd22 ct22 oc23 kV23 dc23 pm23 cd23 ct23 oc24 kV24 dc24 pm24 cd24 ct24 oc25 kV25 dc25 pm25 cd25 ct25 oc26 kV26 dc26 pm26 cd26 ct26 oc27 kV27 dc27 pm27 cd27 ct27 oc28 kV28 dc28 pm28 cd28 ct28 oc29 kV29 dc29 pm29 cd29 ct29 oc30 kV30 dc30 pm30 cd30 ct30 oc31 kV31 dc31 pm31 cd31 ct31 oc32 kV32 dc32 pm32 cd32 ct32 oc33 kV33 dc33 pm33 cd33 ct33 oc34 kV34 dc34 pm34 cd34 ct34 oc35 kV35 dc35 pm35 cd35 ct35 oc36 kV36 dc36 pm36 cd36 ct36 oc37 kV37 dc37 pm37 cd37 ct37 oc38 kV38 dc38 pm38 cd38 ct38 oc39 kV39 dc39 pm39 cd39 ct39 oc40 kV40 dc40 pm40 cd40 ct40 oc41 kV41 dc41 pm41 cd41 ct41 oc42 kV42 dc42 pm42 cd42 ct42 oc43 kV43 dc43 pm43 cd43 ct43 oc44 kV44 dc44 pm44 cd44 ct44:Value}
  {da5:Addr}{doc5:Value}{dod5:Option Addr}{dn5:Nat}{dsl5:Array (Option Value)}{dt5_0:Tok}
  (a0:Yap K mainGlobals "is_whole"=some (some (.ref f0))) (l0:K.lookup f0=some ⟨oc0,od0,.func (YaB "is_whole" "is_whole" (Zak ZdK) (Zai ZdK) (Zac ZdK) .none kV0 dc0 pm0 an0 cd0 ct0),sl0⟩) (c0:Yav K cd0 "is_whole"=true) (k0:Yan K (.ref f0)=true)
  (a1:Yap K mainGlobals "is_place"=some (some (.ref f1))) (l1:K.lookup f1=some ⟨oc1,od1,.func (YaB "is_place" "is_place" (Zak ZdN) (Zai ZdN) (Zac ZdN) .none kV1 dc1 pm1 an1 cd1 ct1),sl1⟩) (c1:Yav K cd1 "is_place"=true) (k1:Yan K (.ref f1)=true)
  (a2:Yap K mainGlobals "is_listed"=some (some (.ref f2))) (l2:K.lookup f2=some ⟨oc2,od2,.func (YaB "is_listed" "is_listed" (Zak Zcy) (Zai Zcy) (Zac Zcy) .none kV2 dc2 pm2 an2 cd2 ct2),sl2⟩) (c2:Yav K cd2 "is_listed"=true) (k2:Yan K (.ref f2)=true)
  (a3:Yap K mainGlobals "is_tuple_of"=some (some (.ref f3))) (l3:K.lookup f3=some ⟨oc3,od3,.func (YaB "is_tuple_of" "is_tuple_of" (Zak ZdL) (Zai ZdL) (Zac ZdL) .none kV3 dc3 pm3 an3 cd3 ct3),sl3⟩) (c3:Yav K cd3 "is_tuple_of"=true) (k3:Yan K (.ref f3)=true)
  (a4:Yap K mainGlobals "check_ways"=some (some (.ref f4))) (l4:K.lookup f4=some ⟨oc4,od4,.func (YaB "check_ways" "check_ways" (Zak ZhE) (Zai ZhE) (Zac ZhE) .none kV4 dc4 pm4 an4 cd4 ct4),sl4⟩) (c4:Yav K cd4 "check_ways"=true) (k4:Yan K (.ref f4)=true)
  (a5:Yap K mainGlobals "check_level"=some (some (.ref f5))) (l5:K.lookup f5=some ⟨oc5,od5,.func (YaB "check_level" "check_level" (Zak ZdR) (Zai ZdR) (Zac ZdR) (.ref da5) kV5 dc5 pm5 an5 cd5 ct5),sl5⟩) (c5:Yav K cd5 "check_level"=true) (k5:Yan K (.ref f5)=true)
  (d5:K.lookup da5=some ⟨doc5,dod5,.seq #[.int 300 dt5_0] dn5,dsl5⟩)
  (a6:Yap K mainGlobals "first_counts"=some (some (.ref f6))) (l6:K.lookup f6=some ⟨oc6,od6,.func (YaB "first_counts" "first_counts" (Zak ZdT) (Zai ZdT) (Zac ZdT) .none kV6 dc6 pm6 an6 cd6 ct6),sl6⟩) (c6:Yav K cd6 "first_counts"=true) (k6:Yan K (.ref f6)=true)
  (a7:Yap K mainGlobals "next_counts"=some (some (.ref f7))) (l7:K.lookup f7=some ⟨oc7,od7,.func (YaB "next_counts" "next_counts" (Zak Zf7) (Zai Zf7) (Zac Zf7) .none kV7 dc7 pm7 an7 cd7 ct7),sl7⟩) (c7:Yav K cd7 "next_counts"=true) (k7:Yan K (.ref f7)=true)
  (a8:Yap K mainGlobals "level_counts"=some (some (.ref f8))) (l8:K.lookup f8=some ⟨oc8,od8,.func (YaB "level_counts" "level_counts" (Zak ZcF) (Zai ZcF) (Zac ZcF) .none kV8 dc8 pm8 an8 cd8 ct8),sl8⟩) (c8:Yav K cd8 "level_counts"=true) (k8:Yan K (.ref f8)=true)
  (a9:Yap K mainGlobals "level_total"=some (some (.ref f9))) (l9:K.lookup f9=some ⟨oc9,od9,.func (YaB "level_total" "level_total" (Zak ZdM) (Zai ZdM) (Zac ZdM) .none kV9 dc9 pm9 an9 cd9 ct9),sl9⟩) (c9:Yav K cd9 "level_total"=true) (k9:Yan K (.ref f9)=true)
  (a10:Yap K mainGlobals "check_total"=some (some (.ref f10))) (l10:K.lookup f10=some ⟨oc10,od10,.func (YaB "check_total" "check_total" (Zak sTot) (Zai sTot) (Zac sTot) .none kV10 dc10 pm10 an10 cd10 ct10),sl10⟩) (c10:Yav K cd10 "check_total"=true) (k10:Yan K (.ref f10)=true)
  (a11:Yap K mainGlobals "check_places"=some (some (.ref f11))) (l11:K.lookup f11=some ⟨oc11,od11,.func (YaB "check_places" "check_places" (Zak Zcx) (Zai Zcx) (Zac Zcx) .none kV11 dc11 pm11 an11 cd11 ct11),sl11⟩) (c11:Yav K cd11 "check_places"=true) (k11:Yan K (.ref f11)=true)
  (a12:Yap K mainGlobals "first_numbers"=some (some (.ref f12))) (l12:K.lookup f12=some ⟨oc12,od12,.func (YaB "first_numbers" "first_numbers" (Zak ZcE) (Zai ZcE) (Zac ZcE) .none kV12 dc12 pm12 an12 cd12 ct12),sl12⟩) (c12:Yav K cd12 "first_numbers"=true) (k12:Yan K (.ref f12)=true)
  (a13:Yap K mainGlobals "next_numbers"=some (some (.ref f13))) (l13:K.lookup f13=some ⟨oc13,od13,.func (YaB "next_numbers" "next_numbers" (Zak ZcM) (Zai ZcM) (Zac ZcM) .none kV13 dc13 pm13 an13 cd13 ct13),sl13⟩) (c13:Yav K cd13 "next_numbers"=true) (k13:Yan K (.ref f13)=true)
  (a14:Yap K mainGlobals "numbers_after"=some (some (.ref f14))) (l14:K.lookup f14=some ⟨oc14,od14,.func (YaB "numbers_after" "numbers_after" (Zak ZdW) (Zai ZdW) (Zac ZdW) .none kV14 dc14 pm14 an14 cd14 ct14),sl14⟩) (c14:Yav K cd14 "numbers_after"=true) (k14:Yan K (.ref f14)=true)
  (a15:Yap K mainGlobals "numbers_of"=some (some (.ref f15))) (l15:K.lookup f15=some ⟨oc15,od15,.func (YaB "numbers_of" "numbers_of" (Zak ZdP) (Zai ZdP) (Zac ZdP) .none kV15 dc15 pm15 an15 cd15 ct15),sl15⟩) (c15:Yav K cd15 "numbers_of"=true) (k15:Yan K (.ref f15)=true)
  (a16:Yap K mainGlobals "places_in"=some (some (.ref f16))) (l16:K.lookup f16=some ⟨oc16,od16,.func (YaB "places_in" "places_in" (Zak Zbq) (Zai Zbq) (Zac Zbq) .none kV16 dc16 pm16 an16 cd16 ct16),sl16⟩) (c16:Yav K cd16 "places_in"=true) (k16:Yan K (.ref f16)=true)
  (a17:Yap K mainGlobals "numbers_told"=some (some (.ref f17))) (l17:K.lookup f17=some ⟨oc17,od17,.func (YaB "numbers_told" "numbers_told" (Zak ZhF) (Zai ZhF) (Zac ZhF) .none kV17 dc17 pm17 an17 cd17 ct17),sl17⟩) (c17:Yav K cd17 "numbers_told"=true) (k17:Yan K (.ref f17)=true)
  (a18:Yap K mainGlobals "level_numbers"=some (some (.ref f18))) (l18:K.lookup f18=some ⟨oc18,od18,.func (YaB "level_numbers" "level_numbers" (Zak sLN) (Zai sLN) (Zac sLN) .none kV18 dc18 pm18 an18 cd18 ct18),sl18⟩) (c18:Yav K cd18 "level_numbers"=true) (k18:Yan K (.ref f18)=true)
  (a19:Yap K mainGlobals "least_places"=some (some (.ref f19))) (l19:K.lookup f19=some ⟨oc19,od19,.func (YaB "least_places" "least_places" (Zak ZcA) (Zai ZcA) (Zac ZcA) .none kV19 dc19 pm19 an19 cd19 ct19),sl19⟩) (c19:Yav K cd19 "least_places"=true) (k19:Yan K (.ref f19)=true)
  (a20:Yap K mainGlobals "is_spot"=some (some (.ref f20))) (l20:K.lookup f20=some ⟨oc20,od20,.func (YaB "is_spot" "is_spot" (Zak ZcB) (Zai ZcB) (Zac ZcB) .none kV20 dc20 pm20 an20 cd20 ct20),sl20⟩) (c20:Yav K cd20 "is_spot"=true) (k20:Yan K (.ref f20)=true)
  (a21:Yap K mainGlobals "is_placing"=some (some (.ref f21))) (l21:K.lookup f21=some ⟨oc21,od21,.func (YaB "is_placing" "is_placing" (Zak Za5) (Zai Za5) (Zac Za5) .none kV21 dc21 pm21 an21 cd21 ct21),sl21⟩) (c21:Yav K cd21 "is_placing"=true) (k21:Yan K (.ref f21)=true)
  (a22:Yap K mainGlobals "reading_by"=some (some (.ref f22))) (l22:K.lookup f22=some ⟨oc22,od22,.func (YaB "reading_by" "reading_by" (Zak Zb8) (Zai Zb8) (Zac Zb8) .none kV22 dc22 pm22 an22 cd22 ct22),sl22⟩) (c22:Yav K cd22 "reading_by"=true) (k22:Yan K (.ref f22)=true)
  (a23:Yap K mainGlobals "least_by"=some (some (.ref f23))) (l23:K.lookup f23=some ⟨oc23,od23,.func (YaB "least_by" "least_by" (Zak ZbP) (Zai ZbP) (Zac ZbP) .none kV23 dc23 pm23 an23 cd23 ct23),sl23⟩) (c23:Yav K cd23 "least_by"=true) (k23:Yan K (.ref f23)=true)
  (a24:Yap K mainGlobals "placing_reading"=some (some (.ref f24))) (l24:K.lookup f24=some ⟨oc24,od24,.func (YaB "placing_reading" "placing_reading" (Zak ZhH) (Zai ZhH) (Zac ZhH) .none kV24 dc24 pm24 an24 cd24 ct24),sl24⟩) (c24:Yav K cd24 "placing_reading"=true) (k24:Yan K (.ref f24)=true)
  (a25:Yap K mainGlobals "best_by"=some (some (.ref f25))) (l25:K.lookup f25=some ⟨oc25,od25,.func (YaB "best_by" "best_by" (Zak ZcG) (Zai ZcG) (Zac ZcG) .none kV25 dc25 pm25 an25 cd25 ct25),sl25⟩) (c25:Yav K cd25 "best_by"=true) (k25:Yan K (.ref f25)=true)
  (a26:Yap K mainGlobals "best_placing"=some (some (.ref f26))) (l26:K.lookup f26=some ⟨oc26,od26,.func (YaB "best_placing" "best_placing" (Zak sBPl) (Zai sBPl) (Zac sBPl) .none kV26 dc26 pm26 an26 cd26 ct26),sl26⟩) (c26:Yav K cd26 "best_placing"=true) (k26:Yan K (.ref f26)=true)
  (a27:Yap K mainGlobals "placing_right"=some (some (.ref f27))) (l27:K.lookup f27=some ⟨oc27,od27,.func (YaB "placing_right" "placing_right" (Zak ZaQ) (Zai ZaQ) (Zac ZaQ) .none kV27 dc27 pm27 an27 cd27 ct27),sl27⟩) (c27:Yav K cd27 "placing_right"=true) (k27:Yan K (.ref f27)=true)
  (a28:Yap K mainGlobals "first_spreads"=some (some (.ref f28))) (l28:K.lookup f28=some ⟨oc28,od28,.func (YaB "first_spreads" "first_spreads" (Zak ZcD) (Zai ZcD) (Zac ZcD) .none kV28 dc28 pm28 an28 cd28 ct28),sl28⟩) (c28:Yav K cd28 "first_spreads"=true) (k28:Yan K (.ref f28)=true)
  (a29:Yap K mainGlobals "both_spreads"=some (some (.ref f29))) (l29:K.lookup f29=some ⟨oc29,od29,.func (YaB "both_spreads" "both_spreads" (Zak ZdV) (Zai ZdV) (Zac ZdV) .none kV29 dc29 pm29 an29 cd29 ct29),sl29⟩) (c29:Yav K cd29 "both_spreads"=true) (k29:Yan K (.ref f29)=true)
  (a30:Yap K mainGlobals "next_spreads"=some (some (.ref f30))) (l30:K.lookup f30=some ⟨oc30,od30,.func (YaB "next_spreads" "next_spreads" (Zak Zc7) (Zai Zc7) (Zac Zc7) .none kV30 dc30 pm30 an30 cd30 ct30),sl30⟩) (c30:Yav K cd30 "next_spreads"=true) (k30:Yan K (.ref f30)=true)
  (a31:Yap K mainGlobals "spread_over"=some (some (.ref f31))) (l31:K.lookup f31=some ⟨oc31,od31,.func (YaB "spread_over" "spread_over" (Zak ZdO) (Zai ZdO) (Zac ZdO) .none kV31 dc31 pm31 an31 cd31 ct31),sl31⟩) (c31:Yav K cd31 "spread_over"=true) (k31:Yan K (.ref f31)=true)
  (a32:Yap K mainGlobals "spread_after"=some (some (.ref f32))) (l32:K.lookup f32=some ⟨oc32,od32,.func (YaB "spread_after" "spread_after" (Zak ZcH) (Zai ZcH) (Zac ZcH) .none kV32 dc32 pm32 an32 cd32 ct32),sl32⟩) (c32:Yav K cd32 "spread_after"=true) (k32:Yan K (.ref f32)=true)
  (a33:Yap K mainGlobals "spread_of"=some (some (.ref f33))) (l33:K.lookup f33=some ⟨oc33,od33,.func (YaB "spread_of" "spread_of" (Zak ZhG) (Zai ZhG) (Zac ZhG) .none kV33 dc33 pm33 an33 cd33 ct33),sl33⟩) (c33:Yav K cd33 "spread_of"=true) (k33:Yan K (.ref f33)=true)
  (a34:Yap K mainGlobals "least_of_spread"=some (some (.ref f34))) (l34:K.lookup f34=some ⟨oc34,od34,.func (YaB "least_of_spread" "least_of_spread" (Zak Zcz) (Zai Zcz) (Zac Zcz) .none kV34 dc34 pm34 an34 cd34 ct34),sl34⟩) (c34:Yav K cd34 "least_of_spread"=true) (k34:Yan K (.ref f34)=true)
  (a35:Yap K mainGlobals "least_reading"=some (some (.ref f35))) (l35:K.lookup f35=some ⟨oc35,od35,.func (YaB "least_reading" "least_reading" (Zak sLR) (Zai sLR) (Zac sLR) .none kV35 dc35 pm35 an35 cd35 ct35),sl35⟩) (c35:Yav K cd35 "least_reading"=true) (k35:Yan K (.ref f35)=true)
  (a36:Yap K mainGlobals "_law_mixed"=some (some (.ref f36))) (l36:K.lookup f36=some ⟨oc36,od36,.func (YaB "_law_mixed" "_law_mixed" (Zak ZdQ) (Zai ZdQ) (Zac ZdQ) .none kV36 dc36 pm36 an36 cd36 ct36),sl36⟩) (c36:Yav K cd36 "_law_mixed"=true) (k36:Yan K (.ref f36)=true)
  (a37:Yap K mainGlobals "_law_draws"=some (some (.ref f37))) (l37:K.lookup f37=some ⟨oc37,od37,.func (YaB "_law_draws" "_law_draws" (Zak ZdU) (Zai ZdU) (Zac ZdU) .none kV37 dc37 pm37 an37 cd37 ct37),sl37⟩) (c37:Yav K cd37 "_law_draws"=true) (k37:Yan K (.ref f37)=true)
  (a38:Yap K mainGlobals "_law_reels"=some (some (.ref f38))) (l38:K.lookup f38=some ⟨oc38,od38,.func (YaB "_law_reels" "_law_reels" (Zak Zbf) (Zai Zbf) (Zac Zbf) .none kV38 dc38 pm38 an38 cd38 ct38),sl38⟩) (c38:Yav K cd38 "_law_reels"=true) (k38:Yan K (.ref f38)=true)
  (a39:Yap K mainGlobals "_law_level"=some (some (.ref f39))) (l39:K.lookup f39=some ⟨oc39,od39,.func (YaB "_law_level" "_law_level" (Zak Zbs) (Zai Zbs) (Zac Zbs) .none kV39 dc39 pm39 an39 cd39 ct39),sl39⟩) (c39:Yav K cd39 "_law_level"=true) (k39:Yan K (.ref f39)=true)
  (a40:Yap K mainGlobals "_law_lengths"=some (some (.ref f40))) (l40:K.lookup f40=some ⟨oc40,od40,.func (YaB "_law_lengths" "_law_lengths" (Zak ZdS) (Zai ZdS) (Zac ZdS) .none kV40 dc40 pm40 an40 cd40 ct40),sl40⟩) (c40:Yav K cd40 "_law_lengths"=true) (k40:Yan K (.ref f40)=true)
  (a41:Yap K mainGlobals "_law_placing"=some (some (.ref f41))) (l41:K.lookup f41=some ⟨oc41,od41,.func (YaB "_law_placing" "_law_placing" (Zak Zc6) (Zai Zc6) (Zac Zc6) .none kV41 dc41 pm41 an41 cd41 ct41),sl41⟩) (c41:Yav K cd41 "_law_placing"=true) (k41:Yan K (.ref f41)=true)
  (a42:Yap K mainGlobals "_law_folded"=some (some (.ref f42))) (l42:K.lookup f42=some ⟨oc42,od42,.func (YaB "_law_folded" "_law_folded" (Zak ZcC) (Zai ZcC) (Zac ZcC) .none kV42 dc42 pm42 an42 cd42 ct42),sl42⟩) (c42:Yav K cd42 "_law_folded"=true) (k42:Yan K (.ref f42)=true)
  (a43:Yap K mainGlobals "_law_grown_right"=some (some (.ref f43))) (l43:K.lookup f43=some ⟨oc43,od43,.func (YaB "_law_grown_right" "_law_grown_right" (Zak ZaF) (Zai ZaF) (Zac ZaF) .none kV43 dc43 pm43 an43 cd43 ct43),sl43⟩) (c43:Yav K cd43 "_law_grown_right"=true) (k43:Yan K (.ref f43)=true)
  (a44:Yap K mainGlobals "law"=some (some (.ref f44))) (l44:K.lookup f44=some ⟨oc44,od44,.func (YaB "law" "law" (Zak sLaw) (Zai sLaw) (Zac sLaw) .none kV44 dc44 pm44 an44 cd44 ct44),sl44⟩) (c44:Yav K cd44 "law"=true) (k44:Yan K (.ref f44)=true)
  (y0:Yap K mainGlobals "LEAST_WAYS"=some (some (.int 2 tk0)))
  (y1:Yap K mainGlobals "MOST_WAYS"=some (some (.int 7 tk1)))
  (y2:Yap K mainGlobals "MOST_PLACES"=some (some (.int 4000 tk2)))
  (y3:Yap K mainGlobals "LAST_LEVEL"=some (some (.int 300 tk3)))
  (z0:Yap K mainGlobals "isinstance"=some none) (z1:Yap K mainGlobals "int"=some none) (z2:Yap K mainGlobals "bool"=some none) (z3:Yap K mainGlobals "list"=some none) (z4:Yap K mainGlobals "tuple"=some none) (z5:Yap K mainGlobals "min"=some none) (z6:Yap K mainGlobals "max"=some none) (z7:Yap K mainGlobals "len"=some none) (z8:Yap K mainGlobals "range"=some none) (z9:Yap K mainGlobals "all"=some none) (z10:Yap K mainGlobals "sum"=some none) (z11:Yap K mainGlobals "sorted"=some none) (z12:Yap K mainGlobals "zip"=some none) (zenumerate:Yap K mainGlobals "enumerate"=some none) (zset:Yap K mainGlobals "set"=some none) (zdict:Yap K mainGlobals "dict"=some none) :
  ∃ fd:FuncData,(∀ (s:Shared) (v:Value),BindsTo s fd ⟨[v],[]⟩ [("script",v)])/\∀ base:Heap,K.In base->base.Ns mainGlobals mg->FnOk l.prog w K mg base CX0 8 fa fd ["script"] (ZiD K):=by
 have e:=hfa.symm.trans (YfD X G a44);cases e;have T:Txt mg:=⟨YaX X G z0,YaX X G z1,YaX X G z2,YaX X G z3,YaX X G z4,YaX X G z5,YaX X G z6,YaX X G z7,YaX X G z8,YaX X G z9,YaX X G z10,YaX X G z11,YaX X G z12⟩
 have F0:=Zaw (st:=ZdK) l0 c0 k0;have b0:=F0.binds (ps:=["thing"]) fun _ _ _ _ _ _ us hl=>@len1 (fun us=>bindArgs _ ⟨us,[]⟩=pure (Ybd _ us)) us hl fun _=>rfl;have F1:=Zaw (st:=ZdN) l1 c1 k1;have b1:=F1.binds (ps:=["thing","many"]) fun _ _ _ _ _ _ us hl=>@len2 (fun us=>bindArgs _ ⟨us,[]⟩=pure (Ybd _ us)) us hl fun _ _=>rfl;have F2:=Zaw (st:=Zcy) l2 c2 k2;have b2:=F2.binds (ps:=["thing"]) fun _ _ _ _ _ _ us hl=>@len1 (fun us=>bindArgs _ ⟨us,[]⟩=pure (Ybd _ us)) us hl fun _=>rfl;have F3:=Zaw (st:=ZdL) l3 c3 k3;have b3:=F3.binds (ps:=["thing","many"]) fun _ _ _ _ _ _ us hl=>@len2 (fun us=>bindArgs _ ⟨us,[]⟩=pure (Ybd _ us)) us hl fun _ _=>rfl;have F4:=Zaw (st:=ZhE) l4 c4 k4;have b4:=F4.binds (ps:=["p"]) fun _ _ _ _ _ _ us hl=>@len1 (fun us=>bindArgs _ ⟨us,[]⟩=pure (Ybd _ us)) us hl fun _=>rfl;have F5:=Znr (st:=ZdR) l5 c5 k5;have b5:=F5.binds (ps:=["n","last"]) d5 rfl [.int 300 dt5_0] ["n"] rfl fun _ _ _ _ _ _ us hl=>match us,hl with | [_],_=>⟨_,rfl,rfl⟩
 have F6:=Zaw (st:=ZdT) l6 c6 k6;have b6:=F6.binds (ps:=["p"]) fun _ _ _ _ _ _ us hl=>@len1 (fun us=>bindArgs _ ⟨us,[]⟩=pure (Ybd _ us)) us hl fun _=>rfl;have F7:=Zaw (st:=Zf7) l7 c7 k7;have b7:=F7.binds (ps:=["counts"]) fun _ _ _ _ _ _ us hl=>@len1 (fun us=>bindArgs _ ⟨us,[]⟩=pure (Ybd _ us)) us hl fun _=>rfl;have F8:=Zaw (st:=ZcF) l8 c8 k8;have b8:=F8.binds (ps:=["p","n"]) fun _ _ _ _ _ _ us hl=>@len2 (fun us=>bindArgs _ ⟨us,[]⟩=pure (Ybd _ us)) us hl fun _ _=>rfl;have F9:=Zaw (st:=ZdM) l9 c9 k9;have b9:=F9.binds (ps:=["p","n"]) fun _ _ _ _ _ _ us hl=>@len2 (fun us=>bindArgs _ ⟨us,[]⟩=pure (Ybd _ us)) us hl fun _ _=>rfl;have F10:=Zaw (st:=sTot) l10 c10 k10;have b10:=F10.binds (ps:=["total"]) fun _ _ _ _ _ _ us hl=>@len1 (fun us=>bindArgs _ ⟨us,[]⟩=pure (Ybd _ us)) us hl fun _=>rfl;have F11:=Zaw (st:=Zcx) l11 c11 k11;have b11:=F11.binds (ps:=["p","n"]) fun _ _ _ _ _ _ us hl=>@len2 (fun us=>bindArgs _ ⟨us,[]⟩=pure (Ybd _ us)) us hl fun _ _=>rfl;have F12:=Zaw (st:=ZcE) l12 c12 k12;have b12:=F12.binds (ps:=["p"]) fun _ _ _ _ _ _ us hl=>@len1 (fun us=>bindArgs _ ⟨us,[]⟩=pure (Ybd _ us)) us hl fun _=>rfl;have F13:=Zaw (st:=ZcM) l13 c13 k13;have b13:=F13.binds (ps:=["numbers"]) fun _ _ _ _ _ _ us hl=>@len1 (fun us=>bindArgs _ ⟨us,[]⟩=pure (Ybd _ us)) us hl fun _=>rfl;have F14:=Zaw (st:=ZdW) l14 c14 k14;have b14:=F14.binds (ps:=["p","n","following"]) fun _ _ _ _ _ _ us hl=>@len3 (fun us=>bindArgs _ ⟨us,[]⟩=pure (Ybd _ us)) us hl fun _ _ _=>rfl;have F15:=Zaw (st:=ZdP) l15 c15 k15;have b15:=F15.binds (ps:=["p","n"]) fun _ _ _ _ _ _ us hl=>@len2 (fun us=>bindArgs _ ⟨us,[]⟩=pure (Ybd _ us)) us hl fun _ _=>rfl;have F16:=Zaw (st:=Zbq) l16 c16 k16;have b16:=F16.binds (ps:=["numbers"]) fun _ _ _ _ _ _ us hl=>@len1 (fun us=>bindArgs _ ⟨us,[]⟩=pure (Ybd _ us)) us hl fun _=>rfl;have F17:=Zaw (st:=ZhF) l17 c17 k17;have b17:=F17.binds (ps:=["p","following"]) fun _ _ _ _ _ _ us hl=>@len2 (fun us=>bindArgs _ ⟨us,[]⟩=pure (Ybd _ us)) us hl fun _ _=>rfl;have F18:=Zaw (st:=sLN) l18 c18 k18;have b18:=F18.binds (ps:=["p","n"]) fun _ _ _ _ _ _ us hl=>@len2 (fun us=>bindArgs _ ⟨us,[]⟩=pure (Ybd _ us)) us hl fun _ _=>rfl;have F19:=Zaw (st:=ZcA) l19 c19 k19;have b19:=F19.binds (ps:=["numbers","many"]) fun _ _ _ _ _ _ us hl=>@len2 (fun us=>bindArgs _ ⟨us,[]⟩=pure (Ybd _ us)) us hl fun _ _=>rfl;have F20:=Zaw (st:=ZcB) l20 c20 k20;have b20:=F20.binds (ps:=["numbers","pair"]) fun _ _ _ _ _ _ us hl=>@len2 (fun us=>bindArgs _ ⟨us,[]⟩=pure (Ybd _ us)) us hl fun _ _=>rfl;have F21:=Zaw (st:=Za5) l21 c21 k21;have b21:=F21.binds (ps:=["numbers","rows","placing"]) fun _ _ _ _ _ _ us hl=>@len3 (fun us=>bindArgs _ ⟨us,[]⟩=pure (Ybd _ us)) us hl fun _ _ _=>rfl;have F22:=Zaw (st:=Zb8) l22 c22 k22;have b22:=F22.binds (ps:=["numbers","lengths","placing"]) fun _ _ _ _ _ _ us hl=>@len3 (fun us=>bindArgs _ ⟨us,[]⟩=pure (Ybd _ us)) us hl fun _ _ _=>rfl;have F23:=Zaw (st:=ZbP) l23 c23 k23;have b23:=F23.binds (ps:=["numbers","lengths"]) fun _ _ _ _ _ _ us hl=>@len2 (fun us=>bindArgs _ ⟨us,[]⟩=pure (Ybd _ us)) us hl fun _ _=>rfl;have F24:=Zaw (st:=ZhH) l24 c24 k24;have b24:=F24.binds (ps:=["p","n","lengths","placing"]) fun _ _ _ _ _ _ us hl=>@len4 (fun us=>bindArgs _ ⟨us,[]⟩=pure (Ybd _ us)) us hl fun _ _ _ _=>rfl;have F25:=Zaw (st:=ZcG) l25 c25 k25;have b25:=F25.binds (ps:=["levels","lengths"]) fun _ _ _ _ _ _ us hl=>@len2 (fun us=>bindArgs _ ⟨us,[]⟩=pure (Ybd _ us)) us hl fun _ _=>rfl;have F26:=Zaw (st:=sBPl) l26 c26 k26;have b26:=F26.binds (ps:=["p","lengths"]) fun _ _ _ _ _ _ us hl=>@len2 (fun us=>bindArgs _ ⟨us,[]⟩=pure (Ybd _ us)) us hl fun _ _=>rfl;have F27:=Zaw (st:=ZaQ) l27 c27 k27;have b27:=F27.binds (ps:=["p","lengths","told"]) fun _ _ _ _ _ _ us hl=>@len3 (fun us=>bindArgs _ ⟨us,[]⟩=pure (Ybd _ us)) us hl fun _ _ _=>rfl;have F28:=Zaw (st:=ZcD) l28 c28 k28;have b28:=F28.binds (ps:=["p"]) fun _ _ _ _ _ _ us hl=>@len1 (fun us=>bindArgs _ ⟨us,[]⟩=pure (Ybd _ us)) us hl fun _=>rfl;have F29:=Zaw (st:=ZdV) l29 c29 k29;have b29:=F29.binds (ps:=["one","other"]) fun _ _ _ _ _ _ us hl=>@len2 (fun us=>bindArgs _ ⟨us,[]⟩=pure (Ybd _ us)) us hl fun _ _=>rfl;have F30:=Zaw (st:=Zc7) l30 c30 k30;have b30:=F30.binds (ps:=["spreads"]) fun _ _ _ _ _ _ us hl=>@len1 (fun us=>bindArgs _ ⟨us,[]⟩=pure (Ybd _ us)) us hl fun _=>rfl;have F31:=Zaw (st:=ZdO) l31 c31 k31;have b31:=F31.binds (ps:=["spreads"]) fun _ _ _ _ _ _ us hl=>@len1 (fun us=>bindArgs _ ⟨us,[]⟩=pure (Ybd _ us)) us hl fun _=>rfl;have F32:=Zaw (st:=ZcH) l32 c32 k32;have b32:=F32.binds (ps:=["p","n","following"]) fun _ _ _ _ _ _ us hl=>@len3 (fun us=>bindArgs _ ⟨us,[]⟩=pure (Ybd _ us)) us hl fun _ _ _=>rfl;have F33:=Zaw (st:=ZhG) l33 c33 k33;have b33:=F33.binds (ps:=["p","n"]) fun _ _ _ _ _ _ us hl=>@len2 (fun us=>bindArgs _ ⟨us,[]⟩=pure (Ybd _ us)) us hl fun _ _=>rfl;have F34:=Zaw (st:=Zcz) l34 c34 k34;have b34:=F34.binds (ps:=["spread","rows"]) fun _ _ _ _ _ _ us hl=>@len2 (fun us=>bindArgs _ ⟨us,[]⟩=pure (Ybd _ us)) us hl fun _ _=>rfl;have F35:=Zaw (st:=sLR) l35 c35 k35;have b35:=F35.binds (ps:=["p","n","rows"]) fun _ _ _ _ _ _ us hl=>@len3 (fun us=>bindArgs _ ⟨us,[]⟩=pure (Ybd _ us)) us hl fun _ _ _=>rfl;have F36:=Zaw (st:=ZdQ) l36 c36 k36;have b36:=F36.binds (ps:=["cell","k"]) fun _ _ _ _ _ _ us hl=>@len2 (fun us=>bindArgs _ ⟨us,[]⟩=pure (Ybd _ us)) us hl fun _ _=>rfl;have F37:=Zaw (st:=ZdU) l37 c37 k37;have b37:=F37.binds (ps:=["cell","many","base"]) fun _ _ _ _ _ _ us hl=>@len3 (fun us=>bindArgs _ ⟨us,[]⟩=pure (Ybd _ us)) us hl fun _ _ _=>rfl;have F38:=Zaw (st:=Zbf) l38 c38 k38;have b38:=F38.binds (ps:=["p","n"]) fun _ _ _ _ _ _ us hl=>@len2 (fun us=>bindArgs _ ⟨us,[]⟩=pure (Ybd _ us)) us hl fun _ _=>rfl;have F39:=Zaw (st:=Zbs) l39 c39 k39;have b39:=F39.binds (ps:=["p","rows","further","most"]) fun _ _ _ _ _ _ us hl=>@len4 (fun us=>bindArgs _ ⟨us,[]⟩=pure (Ybd _ us)) us hl fun _ _ _ _=>rfl;have F40:=Zaw (st:=ZdS) l40 c40 k40;have b40:=F40.binds (ps:=["draws","most"]) fun _ _ _ _ _ _ us hl=>@len2 (fun us=>bindArgs _ ⟨us,[]⟩=pure (Ybd _ us)) us hl fun _ _=>rfl;have F41:=Zaw (st:=Zc6) l41 c41 k41;have b41:=F41.binds (ps:=["reels","rows","draws"]) fun _ _ _ _ _ _ us hl=>@len3 (fun us=>bindArgs _ ⟨us,[]⟩=pure (Ybd _ us)) us hl fun _ _ _=>rfl;have F42:=Zaw (st:=ZcC) l42 c42 k42;have b42:=F42.binds (ps:=["script"]) fun _ _ _ _ _ _ us hl=>@len1 (fun us=>bindArgs _ ⟨us,[]⟩=pure (Ybd _ us)) us hl fun _=>rfl;have F43:=Zaw (st:=ZaF) l43 c43 k43;have b43:=F43.binds (ps:=["p","lengths","draws","reading"]) fun _ _ _ _ _ _ us hl=>@len4 (fun us=>bindArgs _ ⟨us,[]⟩=pure (Ybd _ us)) us hl fun _ _ _ _=>rfl;have F44:=Zaw (st:=sLaw) l44 c44 k44;refine⟨YaB "law" "law" (Zak sLaw) (Zai sLaw) (Zac sLaw) .none kV44 dc44 pm44 an44 cd44 ct44,fun s v=>.of_eq rfl,fun base _ _=>?_⟩;have m:=fun {x:Str}{v:Value} (a:Yap K mainGlobals x=some (some v))=>YfD X G a;have mLEAST_WAYS:=m y0;have mMOST_WAYS:=m y1;have mMOST_PLACES:=m y2;have mLAST_LEVEL:=m y3;have Cis_whole:Cal l.prog w K mg base 1 "is_whole" ["thing"] Zcv _ _:=⟨Zlc F0 T,m a0,k0,b0⟩
 have Cis_place:Cal l.prog w K mg base 2 "is_place" ["thing","many"] Zef _ _:=⟨Zjb F1 T Cis_whole,m a1,k1,b1⟩
 have Cis_listed:Cal l.prog w K mg base 1 "is_listed" ["thing"] Zc2 _ _:=⟨ZhQ F2 T,m a2,k2,b2⟩
 have Cis_tuple_of:Cal l.prog w K mg base 1 "is_tuple_of" ["thing","many"] Zed _ _:=⟨Zld F3 T,m a3,k3,b3⟩
 have Ccheck_ways:Cal l.prog w K mg base 2 "check_ways" ["p"] ZdI _ _:=⟨Zm6 F4 T mLEAST_WAYS mMOST_WAYS Cis_whole,m a4,k4,b4⟩
 have Ccheck_level:CalD l.prog w K mg base 2 "check_level" ["n","last"] [.int 300] ZcT _ _:=⟨Zlm F5 T Cis_whole,m a5,k5,⟨_,b5,.cons ⟨_,rfl⟩ (.nil)⟩⟩
 have Cfirst_counts:Cal l.prog w K mg base 1 "first_counts" ["p"] Zf3 _ _:=⟨Zlp F6 T,m a6,k6,b6⟩
 have Cnext_counts:Cal l.prog w K mg base 1 "next_counts" ["counts"] (ZiC K) _ _:=⟨Zm9 F7 T,m a7,k7,b7⟩
 have Clevel_counts:Cal l.prog w K mg base 3 "level_counts" ["p","n"] Zep _ _:=⟨Zjj F8 T Ccheck_ways Ccheck_level Cfirst_counts Cnext_counts,m a8,k8,b8⟩
 have Clevel_total:Cal l.prog w K mg base 4 "level_total" ["p","n"] ZfW _ _:=⟨Zle F9 T Clevel_counts,m a9,k9,b9⟩
 have Ccheck_total:Cal l.prog w K mg base 1 "check_total" ["total"] ZmA _ _:=⟨Zoe F10 T mMOST_PLACES,m a10,k10,b10⟩
 have Ccheck_places:Cal l.prog w K mg base 5 "check_places" ["p","n"] Zee _ _:=⟨Zja F11 T Clevel_total Ccheck_total,m a11,k11,b11⟩
 have Cfirst_numbers:Cal l.prog w K mg base 1 "first_numbers" ["p"] ZcU _ _:=⟨Zji F12 T,m a12,k12,b12⟩
 have Cnext_numbers:Cal l.prog w K mg base 1 "next_numbers" ["numbers"] Zcw _ _:=⟨Zlk F13 T,m a13,k13,b13⟩
 have Cnumbers_after:Cal l.prog w K mg base 2 "numbers_after" ["p","n","following"] (Zf4 _) _ _:=⟨Zls F14 T Cfirst_numbers Cnext_numbers,m a14,k14,b14⟩
 have Cnumbers_of:Cal l.prog w K mg base 3 "numbers_of" ["p","n"] Zf0 _ _:=⟨Zli F15 T Cnext_numbers Cnumbers_after,m a15,k15,b15⟩
 have Cplaces_in:Cal l.prog w K mg base 1 "places_in" ["numbers"] ZbO _ _:=⟨Zgc F16 T,m a16,k16,b16⟩
 have Cnumbers_told:Cal l.prog w K mg base 2 "numbers_told" ["p","following"] (ZfX _) _ _:=⟨Zlf F17 T mMOST_PLACES Cfirst_numbers Cplaces_in Cnext_numbers,m a17,k17,b17⟩
 have Clevel_numbers:Cal l.prog w K mg base 6 "level_numbers" ["p","n"] Zf0 _ _:=⟨ZoY F18 T Ccheck_places Cnumbers_of,m a18,k18,b18⟩
 have Cleast_places:Cal l.prog w K mg base 1 "least_places" ["numbers","many"] Zek _ _:=⟨Zje F19 T (YaX X G zenumerate),m a19,k19,b19⟩
 have Cis_spot:Cal l.prog w K mg base 3 "is_spot" ["numbers","pair"] Zel _ _:=⟨Zjf F20 T Cis_tuple_of Cis_place,m a20,k20,b20⟩
 have Cis_placing:Cal l.prog w K mg base 4 "is_placing" ["numbers","rows","placing"] (Zb6 K) _ _:=⟨Zfh F21 T (YaX X G zset) Cis_listed Cis_spot,m a21,k21,b21⟩
 have Creading_by:Cal l.prog w K mg base 1 "reading_by" ["numbers","lengths","placing"] (Zck K) _ _:=⟨Zi8 F22 T,m a22,k22,b22⟩
 have Cleast_by:Cal l.prog w K mg base 2 "least_by" ["numbers","lengths"] (Zc3 K) _ _:=⟨ZhR F23 T (YaX X G zenumerate) Cleast_places Creading_by,m a23,k23,b23⟩
 have Cplacing_reading:Cal l.prog w K mg base 7 "placing_reading" ["p","n","lengths","placing"] (ZiB K) _ _:=⟨Zm8 F24 T Creading_by Clevel_numbers,m a24,k24,b24⟩
 have Cbest_by:Cal l.prog w K mg base 3 "best_by" ["levels","lengths"] (Zc5 K) _ _:=⟨ZhT F25 T (YaX X G zenumerate) Cplaces_in Cleast_by,m a25,k25,b25⟩
 have Cbest_placing:Cal l.prog w K mg base 4 "best_placing" ["p","lengths"] (ZkO K) _ _:=⟨Zl7 F26 T Ccheck_ways Cnext_numbers Cnumbers_told Cbest_by,m a26,k26,b26⟩
 have Cbpg:Cal l.prog w K mg base 4 "best_placing" ["p","lengths"] (ZkP K) _ _:=⟨ZoA (Zl7 F26 T Ccheck_ways Cnext_numbers Cnumbers_told Cbest_by),m a26,k26,b26⟩
 have Cplacing_right:Cal l.prog w K mg base 7 "placing_right" ["p","lengths","told"] (Zeg K) _ _:=⟨Zi9 F27 T Ccheck_ways Cis_tuple_of Cis_whole Cbest_placing Clevel_numbers Cis_placing Creading_by,m a27,k27,b27⟩
 have Cfirst_spreads:Cal l.prog w K mg base 1 "first_spreads" ["p"] Zen _ _:=⟨Zjh F28 T,m a28,k28,b28⟩
 have Cboth_spreads:Cal l.prog w K mg base 1 "both_spreads" ["one","other"] Zeq _ _:=⟨Zlr F29 T (YaX X G zdict),m a29,k29,b29⟩
 have Cnext_spreads:Cal l.prog w K mg base 2 "next_spreads" ["spreads"] (Zeh Zdy) _ _:=⟨Zlj F30 T Cboth_spreads,m a30,k30,b30⟩
 have Cspread_over:Cal l.prog w K mg base 2 "spread_over" ["spreads"] ZfZ _ _:=⟨Zlh F31 T Cboth_spreads,m a31,k31,b31⟩
 have Cspread_after:Cal l.prog w K mg base 3 "spread_after" ["p","n","following"] (Zer _ num) _ _:=⟨Zjk (top:=300) (Yag _) (fun _=>rfl) (fun _ _=>rfl) (fun p n _=>Zdt p n) (fun p n h=>ZbG (by omega) n) F32 T Cfirst_spreads Cnext_spreads Cspread_over,m a32,k32,b32⟩
 have Cspread_of:Cal l.prog w K mg base 4 "spread_of" ["p","n"] (ZiA num 300) _ _:=⟨Zm7 F33 T Ccheck_ways Ccheck_level Cnext_spreads Cspread_after,m a33,k33,b33⟩
 have Cleast_of_spread:Cal l.prog w K mg base 1 "least_of_spread" ["spread","rows"] Zej _ _:=⟨Zjd F34 T,m a34,k34,b34⟩
 have Cleast_reading:Cal l.prog w K mg base 5 "least_reading" ["p","n","rows"] ZiE _ _:=⟨Zna F35 Cspread_of Cleast_of_spread,m a35,k35,b35⟩
 have C_law_mixed:Cal l.prog w K mg base 1 "_law_mixed" ["cell","k"] Zf1 _ _:=⟨Zll F36 T,m a36,k36,b36⟩
 have C_law_draws:Cal l.prog w K mg base 2 "_law_draws" ["cell","many","base"] Zeo _ _:=⟨Zlq F37 T C_law_mixed,m a37,k37,b37⟩
 have C_law_reels:Cal l.prog w K mg base 1 "_law_reels" ["p","n"] (Zc1 K) _ _:=⟨ZhP F38 T,m a38,k38,b38⟩
 have C_law_level:Cal l.prog w K mg base 1 "_law_level" ["p","rows","further","most"] (Zei K) _ _:=⟨Zjc F39 T,m a39,k39,b39⟩
 have C_law_lengths:Cal l.prog w K mg base 1 "_law_lengths" ["draws","most"] Zf2 _ _:=⟨Zln F40 T,m a40,k40,b40⟩
 have C_law_placing:Cal l.prog w K mg base 1 "_law_placing" ["reels","rows","draws"] (ZfY K) _ _:=⟨Zlg F41 T (YaX X G zenumerate),m a41,k41,b41⟩
 have C_law_folded:Cal l.prog w K mg base 1 "_law_folded" ["script"] (Zem K) _ _:=⟨Zjg F42 T,m a42,k42,b42⟩
 have C_law_grown_right:Cal l.prog w K mg base 5 "_law_grown_right" ["p","lengths","draws","reading"] (Zc4 K) _ _:=⟨ZhS F43 T Cbpg,m a43,k43,b43⟩
 exact Zlo F44 T C_law_folded C_law_draws C_law_lengths Cbpg Cplacing_right C_law_level C_law_reels Cplacing_reading C_law_placing C_law_grown_right Cleast_reading
theorem walk {l:YdV}{q:Program}{loose:List Str}{XP:(Str->Option Value)->Heap->Prop}{YP:World->Heap->Prop}{d:DefRec}{K:Params->Yae} (hn:l.most=some 63) (hdf:d.params.defaults=[])
  (hY:∀ (w:World) (h:Heap),YP w h->(K w.params).In h)
  (F:∀ (w:World) (mg:Str->Option Value) (fa:Addr) (h:Heap),(K w.params).In h->h.Ns mainGlobals mg->mg d.name=some (.ref fa) ->
   ∃ fd:FuncData,(∀ (s:Shared) (u:Value),BindsTo s fd ⟨[u],[]⟩ [("script",u)])/\∀ base:Heap,(K w.params).In base->base.Ns mainGlobals mg->FnOk l.prog w (K w.params) mg base CX0 8 fa fd ["script"] (ZiD (K w.params))) :
  YfE q loose XP YP l.row.toRowW d [] (fun f vs=>Yfn f vs) :=
 L2.walk_of (n:=63) (k:=8) (x:="script") (CX:=fun _=>CX0) (sp:=fun w=>ZiD (K w.params)) hn (by decide) hdf ⟨rfl,by decide,by decide,rfl⟩ hY F (fun _ _ a ns hl _ hS=>⟨a,ns,rfl,hS,hl,fun _=>rfl⟩) fun _ _ _ _ _ z=>z
end Fk41
def PySem.W.Fast.tw6567746069512232965 : Unit := ()
def PySem.W.Fast.tw2302525225360294301 : Unit := ()
def PySem.W.Fast.tw17176781699587188776 : Unit := ()
def PySem.W.Fast.tw16240749202844045353 : Unit := ()
def PySem.W.Fast.tw15607563730039529400 : Unit := ()
def PySem.W.Fast.tw1828471368826941544 : Unit := ()
def PySem.W.Fast.tw1866526207473318820 : Unit := ()
def PySem.W.Fast.tw18254153071372939164 : Unit := ()
def PySem.W.Fast.tw11998053571337357158 : Unit := ()
def PySem.W.Fast.tw239756463652246286 : Unit := ()
def PySem.W.Fast.tw13072009421830178957 : Unit := ()
def PySem.W.Fast.tw11463156055201434814 : Unit := ()
def PySem.W.Fast.tw13337507100438896981 : Unit := ()
def PySem.W.Fast.tw896042542086949886 : Unit := ()
def PySem.W.Fast.tw15129559986704603450 : Unit := ()
def PySem.W.Fast.tw2264083597322768847 : Unit := ()
def PySem.W.Fast.tw11768027790278356872 : Unit := ()
def PySem.W.Fast.tw14734795121678379817 : Unit := ()
def PySem.W.Fast.tw6296103285994594181 : Unit := ()
def PySem.W.Fast.tw11812104330073413040 : Unit := ()
def PySem.W.Fast.tw9848512391631027653 : Unit := ()
def PySem.W.Fast.tw6604691262100099327 : Unit := ()
def PySem.W.Fast.tw12157885431648303004 : Unit := ()
def PySem.W.Fast.tw3179413902293291465 : Unit := ()
def PySem.W.Fast.tw5869744528845509602 : Unit := ()
def PySem.W.Fast.tw14528039615927326301 : Unit := ()
def PySem.W.Fast.tw14467603949838611976 : Unit := ()
def PySem.W.Fast.tw15359677246611485830 : Unit := ()
def PySem.W.Fast.tw8744316675540887408 : Unit := ()
def PySem.W.Fast.tw7243836106640577312 : Unit := ()
def PySem.W.Fast.tw7831160940990148940 : Unit := ()
def PySem.W.Fast.tw14451679705810304053 : Unit := ()
def PySem.W.Fast.tw6156596152686074074 : Unit := ()
def PySem.W.Fast.tw16870199425376494006 : Unit := ()
def PySem.W.Fast.tw9331722601307433998 : Unit := ()
def PySem.W.Fast.tw1532171148151298546 : Unit := ()
def PySem.W.Fast.tw10664924188061627015 : Unit := ()
def PySem.W.Fast.tw7585861930684342775 : Unit := ()
def PySem.W.Fast.tw8251726452676640296 : Unit := ()
def PySem.W.Fast.tw16759252040648863707 : Unit := ()
def PySem.W.Fast.tw126287861822135505 : Unit := ()
def PySem.W.Fast.tw16991563926986908572 : Unit := ()
def PySem.W.Fast.tw8116451027523641960 : Unit := ()
def PySem.W.Fast.tw17125118029007799484 : Unit := ()
def PySem.W.Fast.tw6522181311074904584 : Unit := ()
def PySem.W.Fast.tw13809381805699974071 : Unit := ()
def PySem.W.Fast.tw16166546380433970473 : Unit := ()
def PySem.W.Fast.tw8542442923092521027 : Unit := ()
def PySem.W.Fast.tw18362332961725529039 : Unit := ()
def PySem.W.Fast.tw1250583969961039388 : Unit := ()
def PySem.W.Fast.tw3375016321126276565 : Unit := ()
def PySem.W.Fast.tw7425259418560593914 : Unit := ()
def PySem.W.Fast.tw12522158172040120072 : Unit := ()
def PySem.W.Fast.tw17897367359066744213 : Unit := ()
def PySem.W.Fast.tw11955145595361502473 : Unit := ()
def PySem.W.Fast.tw14401757725774211482 : Unit := ()
def PySem.W.Fast.tw16410952082857027356 : Unit := ()
def PySem.W.Fast.tw14402889364684565078 : Unit := ()
def PySem.W.Fast.tw17647730177659944928 : Unit := ()
def PySem.W.Fast.tw3799031148904279083 : Unit := ()
def PySem.W.Fast.tw345311010345582393 : Unit := ()
def PySem.W.Fast.tw15818045790793692153 : Unit := ()
def PySem.W.Fast.tw4688299890772680427 : Unit := ()
def PySem.W.Fast.tw1806238392314507080 : Unit := ()
def PySem.W.Fast.tw4243829383688718313 : Unit := ()
def PySem.W.Fast.tw18141682934071361016 : Unit := ()
def PySem.W.Fast.tw3042213363643601134 : Unit := ()
def PySem.W.Fast.tw2929844932921533832 : Unit := ()
def PySem.W.Fast.tw10996268491928459158 : Unit := ()
def PySem.W.Fast.tw9772952218003377924 : Unit := ()
def PySem.W.Fast.tw8493667361891073632 : Unit := ()
def PySem.W.Fast.tw17265719359124241962 : Unit := ()
def PySem.W.Fast.tw11067845612273549762 : Unit := ()
def PySem.W.Fast.tw8358557580732663702 : Unit := ()
def PySem.W.Fast.tw10892820283401913081 : Unit := ()
def PySem.W.Fast.tw10305669551308262671 : Unit := ()
def PySem.W.Fast.tw6633853332222811670 : Unit := ()
def PySem.W.Fast.tw17583798063747482429 : Unit := ()
def PySem.W.Fast.tw6668968526963276060 : Unit := ()
def PySem.W.Fast.tw14292812016988645112 : Unit := ()
def PySem.W.Fast.tw11108766514388942017 : Unit := ()
def PySem.W.Fast.tw15891652703963473691 : Unit := ()
def PySem.W.Fast.tw5739426888203905959 : Unit := ()
def PySem.W.Fast.tw8767712023925335485 : Unit := ()
def PySem.W.Fast.tw10964417918201863617 : Unit := ()
def PySem.W.Fast.tw2055429700797152080 : Unit := ()
def PySem.W.Fast.tw2836996499229425422 : Unit := ()
def PySem.W.Fast.tw4626545799570819248 : Unit := ()
def PySem.W.Fast.tw16021538039547254824 : Unit := ()
def PySem.W.Fast.tw8609550099915113400 : Unit := ()
def PySem.W.Fast.tw15169115823680697692 : Unit := ()
def PySem.W.Fast.tw9373301326614413060 : Unit := ()
def PySem.W.Fast.tw14457699490480922786 : Unit := ()
def PySem.W.Fast.tw7214848524326896794 : Unit := ()
def PySem.W.Fast.tw5526294954470448556 : Unit := ()
def PySem.W.Fast.tw13186786573160572437 : Unit := ()
def PySem.W.Fast.tw9669247591573907880 : Unit := ()
def PySem.W.Fast.tw4761977076220538728 : Unit := ()
def PySem.W.Fast.tw12551107243231561134 : Unit := ()
def PySem.W.Fast.tw2649448483701204784 : Unit := ()
def PySem.W.Fast.tw15635793076812945797 : Unit := ()
def PySem.W.Fast.tw13552200116813215614 : Unit := ()
def PySem.W.Fast.tw13599854897046981629 : Unit := ()
def PySem.W.Fast.tw17683202819682320890 : Unit := ()
def PySem.W.Fast.tw6338398475000772499 : Unit := ()
def PySem.W.Fast.tw6399625613409196507 : Unit := ()
def PySem.W.Fast.tw13806926415249210226 : Unit := ()
def PySem.W.Fast.tw2303951910031675739 : Unit := ()
def PySem.W.Fast.tw5818025704156522303 : Unit := ()
def PySem.W.Fast.tw1299256210510960987 : Unit := ()
def PySem.W.Fast.tw10414049245228422081 : Unit := ()
def PySem.W.Fast.tw814261613682483123 : Unit := ()
def PySem.W.Fast.tw16196963642746098671 : Unit := ()
def PySem.W.Fast.tw6418175647967995254 : Unit := ()
def PySem.W.Fast.tw6737105740785535477 : Unit := ()
def PySem.W.Fast.tw6602236283130659661 : Unit := ()
def PySem.W.Fast.tw8843601621424612512 : Unit := ()
def PySem.W.Fast.tw16144015040169473549 : Unit := ()
def PySem.W.Fast.tw7733979697793202229 : Unit := ()
def PySem.W.Fast.tw6714076086776264305 : Unit := ()
def PySem.W.Fast.tw12571696157276268931 : Unit := ()
def PySem.W.Fast.tw4122332996664827041 : Unit := ()
def PySem.W.Fast.tw8252151066812196074 : Unit := ()
def PySem.W.Fast.tw13680402237594874821 : Unit := ()
def PySem.W.Fast.tw8429285559988519854 : Unit := ()
def PySem.W.Fast.tw313831944843833902 : Unit := ()
def PySem.W.Fast.tw8000077969104045769 : Unit := ()
def PySem.W.Fast.tw12393747329277832342 : Unit := ()
def PySem.W.Fast.tw10500076807254833033 : Unit := ()
def PySem.W.Fast.tw17825526479832832342 : Unit := ()
def PySem.W.Fast.tw3137862751649218555 : Unit := ()
def PySem.W.Fast.tw18064092408414329652 : Unit := ()
def PySem.W.Fast.tw3997544091409119940 : Unit := ()
def PySem.W.Fast.tw12996641600685047177 : Unit := ()
def PySem.W.Fast.tw4695088024548966744 : Unit := ()
def PySem.W.Fast.tw10041339863820177250 : Unit := ()
def PySem.W.Fast.tw8255801759407212397 : Unit := ()
def PySem.W.Fast.tw17602424766929045676 : Unit := ()
def PySem.W.Fast.tw6216825879834840936 : Unit := ()
def PySem.W.Fast.tw8799203118223387974 : Unit := ()
def PySem.W.Fast.tw4805968464322004005 : Unit := ()
def PySem.W.Fast.tw14884716059490105713 : Unit := ()
def PySem.W.Fast.tw7711513556054438935 : Unit := ()
def PySem.W.Fast.tw1478259245089013084 : Unit := ()
def PySem.W.Fast.tw6721400964772307741 : Unit := ()
def PySem.W.Fast.tw14926879766712093649 : Unit := ()
def PySem.W.Fast.tw3065782228399541688 : Unit := ()
def PySem.W.Fast.tw5385086547484636193 : Unit := ()
def PySem.W.Fast.tw1868588111011231503 : Unit := ()
def PySem.W.Fast.tw4547863561940491349 : Unit := ()
def PySem.W.Fast.tw12635887138237292454 : Unit := ()
def PySem.W.Fast.tw8642849716278846449 : Unit := ()
def PySem.W.Fast.tw10095616004268787089 : Unit := ()
def PySem.W.Fast.tw5824153092159710146 : Unit := ()
def PySem.W.Fast.tw10414371742395167772 : Unit := ()
def PySem.W.Fast.tw718582440675898943 : Unit := ()
def PySem.W.Fast.tw1909475873732014087 : Unit := ()
def PySem.W.Fast.tw1777847535183179921 : Unit := ()
def PySem.W.Fast.tw12303605402419257229 : Unit := ()
def PySem.W.Fast.tw16765738699973911068 : Unit := ()
def PySem.W.Fast.tw17860626292154733506 : Unit := ()
def PySem.W.Fast.tw12810143634319901040 : Unit := ()
def PySem.W.Fast.tw6102014478087793025 : Unit := ()
def PySem.W.Fast.tw3426335023623284987 : Unit := ()
def PySem.W.Fast.tw15012378872549518458 : Unit := ()
def PySem.W.Fast.tw5775272164212104956 : Unit := ()
def PySem.W.Fast.tw13612309229997591822 : Unit := ()
def PySem.W.Fast.tw1018768137915013136 : Unit := ()
def PySem.W.Fast.tw15314469791059403782 : Unit := ()
def PySem.W.Fast.tw17350121215624033438 : Unit := ()
def PySem.W.Fast.tw12850705019408642384 : Unit := ()
def PySem.W.Fast.tw4355673787729806171 : Unit := ()
def PySem.W.Fast.tw15414994631823541800 : Unit := ()
def PySem.W.Fast.tw15150305359638778408 : Unit := ()
def PySem.W.Fast.tw1482819408071235848 : Unit := ()
def PySem.W.Fast.tw12431943120080328094 : Unit := ()
def PySem.W.Fast.tw6655554237413913297 : Unit := ()
def PySem.W.Fast.tw1838937974303980220 : Unit := ()
def PySem.W.Fast.tw14946937467724753442 : Unit := ()
def PySem.W.Fast.tw13162994536899786874 : Unit := ()
def PySem.W.Fast.tw16810540105749439726 : Unit := ()
def PySem.W.Fast.tw18316880963239349544 : Unit := ()
def PySem.W.Fast.tw8674044855426868146 : Unit := ()
def PySem.W.Fast.tw8692222448117767594 : Unit := ()
def PySem.W.Fast.tw282805262688672819 : Unit := ()
def PySem.W.Fast.tw13329824810176615140 : Unit := ()
def PySem.W.Fast.tw14859571838315277503 : Unit := ()
def PySem.W.Fast.tw9824490602158461320 : Unit := ()
def PySem.W.Fast.tw12914620483200662703 : Unit := ()
def PySem.W.Fast.tw5485403740548930669 : Unit := ()
def PySem.W.Fast.tw7268742656602139303 : Unit := ()
def PySem.W.Fast.tw16542150430645898365 : Unit := ()
def PySem.W.Fast.tw8471705532522991413 : Unit := ()
def PySem.W.Fast.tw14447714071646272186 : Unit := ()
def PySem.W.Fast.tw4072166708999982326 : Unit := ()
def PySem.W.Fast.tw1797307530691301050 : Unit := ()
def PySem.W.Fast.tw16248093311060935824 : Unit := ()
def PySem.W.Fast.tw11830118201626333761 : Unit := ()
def PySem.W.Fast.tw4411878602013679379 : Unit := ()
def PySem.W.Fast.tw17685570836785593240 : Unit := ()
def PySem.W.Fast.tw1004126494700372522 : Unit := ()
def PySem.W.Fast.tw15297963196001846028 : Unit := ()
def PySem.W.Fast.tw4879311317436505641 : Unit := ()
def PySem.W.Fast.tw16329427167255294346 : Unit := ()
open PySem PySem.W PyProof.Rows
set_option maxRecDepth 100000 in
set_option maxHeartbeats 0 in
theorem PySem.Challenge.cw_fewreels_k41_whole_no_placing_reads_less_holds : PySem.Challenge.rw_fewreels_k41_whole_no_placing_reads_less.Holds := by
  w_on; o_law; k_head; (case hw => w_witness2)
  k_fill
  refine Fk41.walk (l := PySem.Challenge.rw_fewreels_k41_whole_no_placing_reads_less) rfl rfl (fun w h Y => PySem.W.kIn_of Y) ?F
  case F =>
    intro w mg fa h KX G hmg
    refine' Fk41.all_mk KX G hmg ?a0 ?l0 ?c0 ?k0 ?a1 ?l1 ?c1 ?k1 ?a2 ?l2 ?c2 ?k2 ?a3 ?l3 ?c3 ?k3 ?a4 ?l4 ?c4 ?k4 ?a5 ?l5 ?c5 ?k5 ?d5 ?a6 ?l6 ?c6 ?k6 ?a7 ?l7 ?c7 ?k7 ?a8 ?l8 ?c8 ?k8 ?a9 ?l9 ?c9 ?k9 ?a10 ?l10 ?c10 ?k10 ?a11 ?l11 ?c11 ?k11 ?a12 ?l12 ?c12 ?k12 ?a13 ?l13 ?c13 ?k13 ?a14 ?l14 ?c14 ?k14 ?a15 ?l15 ?c15 ?k15 ?a16 ?l16 ?c16 ?k16 ?a17 ?l17 ?c17 ?k17 ?a18 ?l18 ?c18 ?k18 ?a19 ?l19 ?c19 ?k19 ?a20 ?l20 ?c20 ?k20 ?a21 ?l21 ?c21 ?k21 ?a22 ?l22 ?c22 ?k22 ?a23 ?l23 ?c23 ?k23 ?a24 ?l24 ?c24 ?k24 ?a25 ?l25 ?c25 ?k25 ?a26 ?l26 ?c26 ?k26 ?a27 ?l27 ?c27 ?k27 ?a28 ?l28 ?c28 ?k28 ?a29 ?l29 ?c29 ?k29 ?a30 ?l30 ?c30 ?k30 ?a31 ?l31 ?c31 ?k31 ?a32 ?l32 ?c32 ?k32 ?a33 ?l33 ?c33 ?k33 ?a34 ?l34 ?c34 ?k34 ?a35 ?l35 ?c35 ?k35 ?a36 ?l36 ?c36 ?k36 ?a37 ?l37 ?c37 ?k37 ?a38 ?l38 ?c38 ?k38 ?a39 ?l39 ?c39 ?k39 ?a40 ?l40 ?c40 ?k40 ?a41 ?l41 ?c41 ?k41 ?a42 ?l42 ?c42 ?k42 ?a43 ?l43 ?c43 ?k43 ?a44 ?l44 ?c44 ?k44 ?y0 ?y1 ?y2 ?y3 ?z0 ?z1 ?z2 ?z3 ?z4 ?z5 ?z6 ?z7 ?z8 ?z9 ?z10 ?z11 ?z12 ?zenumerate ?zset ?zdict
    (case a0 => k_is); (case l0 => k_is); (case c0 => k_is); (case k0 => k_is); (case a1 => k_is); (case l1 => k_is)
    (case c1 => k_is); (case k1 => k_is); (case a2 => k_is); (case l2 => k_is); (case c2 => k_is); (case k2 => k_is)
    (case a3 => k_is); (case l3 => k_is); (case c3 => k_is); (case k3 => k_is); (case a4 => k_is); (case l4 => k_is)
    (case c4 => k_is); (case k4 => k_is); (case a5 => k_is); (case l5 => k_is); (case c5 => k_is); (case k5 => k_is)
    (case d5 => k_is); (case a6 => k_is); (case l6 => k_is); (case c6 => k_is); (case k6 => k_is); (case a7 => k_is)
    (case l7 => k_is); (case c7 => k_is); (case k7 => k_is); (case a8 => k_is); (case l8 => k_is); (case c8 => k_is)
    (case k8 => k_is); (case a9 => k_is); (case l9 => k_is); (case c9 => k_is); (case k9 => k_is); (case a10 => k_is)
    (case l10 => k_is); (case c10 => k_is); (case k10 => k_is); (case a11 => k_is); (case l11 => k_is); (case c11 => k_is)
    (case k11 => k_is); (case a12 => k_is); (case l12 => k_is); (case c12 => k_is); (case k12 => k_is); (case a13 => k_is)
    (case l13 => k_is); (case c13 => k_is); (case k13 => k_is); (case a14 => k_is); (case l14 => k_is); (case c14 => k_is)
    (case k14 => k_is); (case a15 => k_is); (case l15 => k_is); (case c15 => k_is); (case k15 => k_is); (case a16 => k_is)
    (case l16 => k_is); (case c16 => k_is); (case k16 => k_is); (case a17 => k_is); (case l17 => k_is); (case c17 => k_is)
    (case k17 => k_is); (case a18 => k_is); (case l18 => k_is); (case c18 => k_is); (case k18 => k_is); (case a19 => k_is)
    (case l19 => k_is); (case c19 => k_is); (case k19 => k_is); (case a20 => k_is); (case l20 => k_is); (case c20 => k_is)
    (case k20 => k_is); (case a21 => k_is); (case l21 => k_is); (case c21 => k_is); (case k21 => k_is); (case a22 => k_is)
    (case l22 => k_is); (case c22 => k_is); (case k22 => k_is); (case a23 => k_is); (case l23 => k_is); (case c23 => k_is)
    (case k23 => k_is); (case a24 => k_is); (case l24 => k_is); (case c24 => k_is); (case k24 => k_is); (case a25 => k_is)
    (case l25 => k_is); (case c25 => k_is); (case k25 => k_is); (case a26 => k_is); (case l26 => k_is); (case c26 => k_is)
    (case k26 => k_is); (case a27 => k_is); (case l27 => k_is); (case c27 => k_is); (case k27 => k_is); (case a28 => k_is)
    (case l28 => k_is); (case c28 => k_is); (case k28 => k_is); (case a29 => k_is); (case l29 => k_is); (case c29 => k_is)
    (case k29 => k_is); (case a30 => k_is); (case l30 => k_is); (case c30 => k_is); (case k30 => k_is); (case a31 => k_is)
    (case l31 => k_is); (case c31 => k_is); (case k31 => k_is); (case a32 => k_is); (case l32 => k_is); (case c32 => k_is)
    (case k32 => k_is); (case a33 => k_is); (case l33 => k_is); (case c33 => k_is); (case k33 => k_is); (case a34 => k_is)
    (case l34 => k_is); (case c34 => k_is); (case k34 => k_is); (case a35 => k_is); (case l35 => k_is); (case c35 => k_is)
    (case k35 => k_is); (case a36 => k_is); (case l36 => k_is); (case c36 => k_is); (case k36 => k_is); (case a37 => k_is)
    (case l37 => k_is); (case c37 => k_is); (case k37 => k_is); (case a38 => k_is); (case l38 => k_is); (case c38 => k_is)
    (case k38 => k_is); (case a39 => k_is); (case l39 => k_is); (case c39 => k_is); (case k39 => k_is); (case a40 => k_is)
    (case l40 => k_is); (case c40 => k_is); (case k40 => k_is); (case a41 => k_is); (case l41 => k_is); (case c41 => k_is)
    (case k41 => k_is); (case a42 => k_is); (case l42 => k_is); (case c42 => k_is); (case k42 => k_is); (case a43 => k_is)
    (case l43 => k_is); (case c43 => k_is); (case k43 => k_is); (case a44 => k_is); (case l44 => k_is); (case c44 => k_is)
    (case k44 => k_is); (case y0 => k_is); (case y1 => k_is); (case y2 => k_is); (case y3 => k_is); (case z0 => k_is)
    (case z1 => k_is); (case z2 => k_is); (case z3 => k_is); (case z4 => k_is); (case z5 => k_is); (case z6 => k_is)
    (case z7 => k_is); (case z8 => k_is); (case z9 => k_is); (case z10 => k_is); (case z11 => k_is); (case z12 => k_is)
    (case zenumerate => k_is); (case zset => k_is); (case zdict => k_is)
